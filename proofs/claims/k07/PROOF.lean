import PyProof.Rows.All
import Wide.All
import OpenK.AllK
import Wide.FinOn
import Lean
import PyProof.EqAt
import PyProof.EqKinds
import PyProof.TupleCall
import PyProof.NeKinds
import KE.IntBitsLaws
import PyProof.StrWalks
import PyProof.FString5
import PyProof.ConsumeWalk
import PyProof.DictCompW
import PyProof.ZipIter
import PyProof.AttrMissHeap
import PyProof.ListNew
import PyProof.DictUpdate
import PyProof.EnumMake
import PyProof.Rows.SetFrom
import KE.KRevSl
import PyProof.FitsBits
import PyProof.Rows.SortStr
import PyProof.StrBlockL
import PyProof.JoinWalk
import PyProof.DictWalks
import PyProof.Rows.StrMeet
import KE.KSortTup
import KE.KSortKey
import PySem.Challenge.RW_newsways_k07_whole_wishes_met
set_option Elab.async false
set_option linter.all false
set_option maxRecDepth 100000
namespace L2
open PySem PySem.Spec PyProof.Rows
abbrev Key := Sum Int Str
def zhm : Key → Value → Bool
 | .inl k, v => Value.isInt k v
 | .inr x, v => Value.isStrOf x v
def keyH (w : World) : Key → Int
 | .inl k => hashInt k
 | .inr x => hashStr w x
theorem zaN : ∀ {k : Key} {v : Value}, zhm k v = true → (∃ i t, k = Sum.inl i ∧ v = Value.int i t) ∨ (∃ x t, k = Sum.inr x ∧ v = Value.str x t)
 | .inl i, v, h => by
  obtain ⟨t, e⟩ := Value.isInt_shape (k := i) (v := v) h
  exact .inl ⟨i, t, rfl, e⟩
 | .inr x, v, h => by
  obtain ⟨t, e⟩ := Value.isStrOf_shape (x := x) (v := v) h
  exact .inr ⟨x, t, rfl, e⟩
theorem zjM (i : Int) (t : Tok) : zhm (.inl i) (.int i t) = true := by simp [zhm, Value.isInt]
theorem zjL (x : Str) (t : Tok) : zhm (.inr x) (.str x t) = true := by simp [zhm, Value.isStrOf]
theorem zml (a b : Int) : decide ((Sum.inl a : Key) = Sum.inl b) = (a == b) := by
 by_cases e : a = b
 · subst e; simp
 · have h : ¬ (Sum.inl a : Key) = Sum.inl b := fun q => e (Sum.inl.inj q)
   rw [decide_eq_false h]
   exact (beq_eq_false_iff_ne.mpr e).symm
theorem zmi (a b : Str) : decide ((Sum.inr a : Key) = Sum.inr b) = decide (a = b) := by
 by_cases e : a = b
 · subst e; simp
 · have h : ¬ (Sum.inr a : Key) = Sum.inr b := fun q => e (Sum.inr.inj q)
   rw [decide_eq_false h, decide_eq_false e]
theorem zmk (a : Int) (b : Str) : decide ((Sum.inl a : Key) = Sum.inr b) = false := decide_eq_false (fun q => nomatch q)
theorem zmj (a : Str) (b : Int) : decide ((Sum.inr a : Key) = Sum.inl b) = false := decide_eq_false (fun q => nomatch q)
def zaB (prog : Program) (w : World) : PySem.KeyKind prog w Key where
 is := zhm
 hash := keyH w
 inj := fun v a b ha hb => by
  rcases zaN ha with ⟨i, t, rfl, rfl⟩ | ⟨x, t, rfl, rfl⟩
  · rcases zaN hb with ⟨j, u, rfl, e⟩ | ⟨y, u, rfl, e⟩
    · injection e with e1 _; rw [e1]
    · exact nomatch e
  · rcases zaN hb with ⟨j, u, rfl, e⟩ | ⟨y, u, rfl, e⟩
    · exact nomatch e
    · injection e with e1 _; rw [e1]
 byValue := fun k v h => by
  rcases zaN h with ⟨i, t, rfl, rfl⟩ | ⟨x, t, rfl, rfl⟩ <;> rfl
 pyHash := fun hv h => by
  rcases zaN hv with ⟨i, t, rfl, rfl⟩ | ⟨x, t, rfl, rfl⟩
  · exact wpAny_pyHash_int h
  · exact wpAny_pyHash_str h
 eqBool := fun hu hv h => by
  rcases zaN hu with ⟨i, t, rfl, rfl⟩ | ⟨x, t, rfl, rfl⟩
  · rcases zaN hv with ⟨j, u, rfl, rfl⟩ | ⟨y, u, rfl, rfl⟩
    · rw [zml] at h; exact wpAny_eqBool_int h
    · rw [zmk] at h; exact SeqAt.EqAt.int_str i t y u _ _ _ _ h
  · rcases zaN hv with ⟨j, u, rfl, rfl⟩ | ⟨y, u, rfl, rfl⟩
    · rw [zmj] at h; exact SeqAt.EqAt.str_int x t j u _ _ _ _ h
    · rw [zmi] at h; exact wpAny_eqBool_str h
 «strs» := fun k x t v h => by
  rcases zaN h with ⟨i, u, rfl, e⟩ | ⟨y, u, rfl, e⟩
  · exact nomatch e
  · injection e with e1 _
    subst e1
    cases v <;> rfl
theorem zeC (prog : Program) (w : World) (k : Key) (v : Value) : (zaB prog w).is k v = zhm k v := rfl
theorem zhg (prog : Program) (w : World) (i : Int) (t : Tok) : (zaB prog w).is (.inl i) (.int i t) = true := zjM i t
theorem zhf (prog : Program) (w : World) (x : Str) (t : Tok) : (zaB prog w).is (.inr x) (.str x t) = true := zjL x t
inductive V where
 | non | bl (b : Bool) | int (i : Int) | str (x : Str) | byt (b : Array UInt8) | flt (b : UInt64) | ref (a : Addr) | ty (n : String)
 deriving DecidableEq
def RelV : V → Value → Prop
 | .non, u => u = Value.none
 | .bl b, u => u = Value.bool b
 | .int i, u => ∃ t, u = Value.int i t
 | .str x, u => ∃ t, u = Value.str x t
 | .byt b, u => ∃ t, u = Value.bytes b t
 | .flt b, u => ∃ t, u = Value.float b t
 | .ref a, u => u = Value.ref a
 | .ty n, u => u = Value.type n
abbrev Vals : List V → List Value → Prop := Paired RelV
theorem Vals.length {xs : List V} {us : List Value} (r : Vals xs us) : xs.length = us.length := Paired.length r
theorem Vals.get : ∀ {xs : List V} {us : List Value} {i : Nat} {x : V}, Vals xs us → xs[i]? = some x → ∃ u, us[i]? = some u ∧ RelV x u
 | _, _, _, _, .nil, e => by simp at e
 | _, _, 0, _, .cons r _, e => by simp at e; subst e; exact ⟨_, rfl, r⟩
 | _, _, i + 1, x, .cons _ t, e => by
  obtain ⟨u, h1, h2⟩ := Vals.get (i := i) (x := x) t (by simpa using e)
  exact ⟨u, by simpa using h1, h2⟩
theorem Vals.set {x : V} {u : Value} (r : RelV x u) : ∀ {xs : List V} {us : List Value} (i : Nat), Vals xs us → Vals (xs.set i x) (us.set i u)
 | _, _, _, .nil => .nil
 | _, _, 0, .cons _ t => .cons r t
 | _, _, i + 1, .cons q t => .cons q (Vals.set r i t)
theorem Vals.append : ∀ {xs ys : List V} {us ws : List Value}, Vals xs us → Vals ys ws → Vals (xs ++ ys) (us ++ ws)
 | _, _, _, _, .nil, s => s
 | _, _, _, _, .cons r t, s => .cons r (Vals.append t s)
theorem Vals.take : ∀ {xs : List V} {us : List Value} (n : Nat), Vals xs us → Vals (xs.take n) (us.take n)
 | _, _, 0, _ => .nil
 | _, _, _ + 1, .nil => .nil
 | _, _, n + 1, .cons r t => .cons r (Vals.take n t)
theorem Vals.drop : ∀ {xs : List V} {us : List Value} (n : Nat), Vals xs us → Vals (xs.drop n) (us.drop n)
 | _, _, 0, r => r
 | _, _, _ + 1, .nil => .nil
 | _, _, n + 1, .cons _ t => Vals.drop n t
def RelO : Option V → Option Value → Prop
 | some v, some u => RelV v u
 | none, none => True
 | _, _ => False
def KV {κ : Type} : List (κ × V) → List (κ × Value) → Prop := Paired fun (p : κ × V) (q : κ × Value) => p.1 = q.1 ∧ RelV p.2 q.2
def kV : Key → V
 | .inl i => .int i
 | .inr x => .str x
inductive HO where
 | lst (xs : List V)
 | tup (xs : List V)
 | dK (kvs : List (Key × V)) | dT (kvs : List (List Key × V))
 | set (S : Int → Bool) (n : Nat)
 | ins (C dx : Addr) (fs : List (Str × V))
 | own (x : Addr)
 | xd (fs : List (Str × V))
 | met (f x : Addr)
 | rng (lo hi : Int)
 | frz (o : Obj) (u : HO)
 | tbl (ps : Array Value)
 | ext (φ : Heap → Prop)
def IsTupP (h : Heap) (a : Addr) (items : Array Value) : Prop := ∃ o, h.get? a = some o ∧ o.cls = .type "tuple" ∧ o.dict = none ∧ ∃ n, o.data = .seq items n
theorem IsTupP.tup {h : Heap} {a : Addr} {items : Array Value} (x : IsTupP h a items) : IsTup h a items := let ⟨o, h1, h2, _, h3⟩ := x; ⟨o, h1, h2, h3⟩
theorem IsTupP.new (h : Heap) (items : Array Value) : IsTupP (h.push { cls := .type "tuple", data := .seq items }) h.objs.size items := ⟨_, Heap.get?_push_size _ rfl, rfl, rfl, _, rfl⟩
abbrev Hp := Addr → Option HO
def upd (H : Hp) (a : Addr) (o : HO) : Hp := fun b => if b = a then some o else H b
theorem zab {H : Hp} {a : Addr} {o : HO} : upd H a o a = some o := by unfold upd; rw [if_pos rfl]
theorem zak {H : Hp} {a b : Addr} {o : HO} (h : b ≠ a) : upd H a o b = H b := by unfold upd; rw [if_neg h]
theorem zlc {H : Hp} {a : Addr} {o u : HO} : upd (upd H a o) a u = upd H a u := by
 funext b; unfold upd; split <;> rfl
theorem zdc {H : Hp} {a b : Addr} {o u : HO} (h : H a = some o) (h' : H b = some u) (d : o ≠ u) : a ≠ b := by
 intro e; subst e; rw [h] at h'; exact d (Option.some.inj h')
theorem zav {H : Hp} {a b : Addr} {o : HO} (h : H a = some o) (h' : H b = none) : a ≠ b := by
 intro e; subst e; rw [h] at h'; cases h'
section
variable (P : Program) (w : World)
def ObjOk (H : Hp) (h : Heap) (a : Addr) : HO → Prop
 | .lst xs => xs.length ≤ sizeLine ∧ ∃ (its : List Value) (n : Nat), Vals xs its ∧ h.get? a = some { cls := .type "list", data := .seq its.toArray n }
 | .tup xs => xs.length ≤ sizeLine ∧ ∃ its : List Value, Vals xs its ∧ IsTupP h a its.toArray
 | .dK kvs => kvs.length ≤ sizeLine ∧ (a == sysModules) = false ∧ ∃ vs, KV kvs vs ∧ h.DictOf (zaB P w) a vs
 | .dT kvs => kvs.length ≤ sizeLine ∧ (a == sysModules) = false ∧ ∃ xs : List (List Key × Addr × Value),
  Paired (fun (p : List Key × V) (q : List Key × Addr × Value) => p.1 = q.1 ∧ H q.2.1 = some (.tup (p.1.map kV)) ∧ RelV p.2 q.2.2) kvs xs ∧
  ∃ o es ep, h.get? a = some o ∧ o.ExactDict ∧ o.data = .dict es ep ∧ es.toList = xs.map (entryOfKey (tupleKind (zaB P w))) ∧ (xs.map (·.1)).Nodup
 | .set S n => h.SetOf (intKind P w) a S n
 | .ins C dx fs => H dx = some (.own a) ∧ fs.length ≤ 1000 ∧ dx ≠ a ∧ h.get? a = some (PySem.W.instObj C dx) ∧
  ∃ mA, h.Ns1 dx mA ∧ (∀ f, RelO (fs.lookup f) (mA f)) ∧ PySem.Within mA (fs.map (·.1))
 | .own _ => ∃ o, h.get? a = some o
 | .xd fs => ∃ mA, h.Ns1 a mA ∧ ∀ f, RelO (fs.lookup f) (mA f)
 | .rng lo hi => ∃ t u v, h.get? a = some { cls := .type "range", data := .fields #[.int lo t, .int hi u, .int 1 v] }
 | .frz o u => h.get? a = some o ∧ ObjOk H h a u
 | .tbl ps => h.get? a = some { cls := .none, data := .fields ps }
 | .met f x => h.get? a = some (PySem.W.methodObj (.ref f) (.ref x))
 | .ext φ => φ h ∧ (∃ o, h.get? a = some o) ∧ ∀ h1 h2 : Heap, φ h1 → (∀ o, h1.get? a = some o → h2.get? a = some o) → φ h2
def HOk (H : Hp) (h : Heap) : Prop := ∀ a o, H a = some o → ObjOk P w H h a o
end
section
variable {P : Program} {w : World} {H H' : Hp} {h h' : Heap} {a : Addr} {o : HO}
theorem ObjOk.lt (x : ObjOk P w H h a o) : a < h.objs.size := by
 cases o with
 | lst xs => obtain ⟨_, _, _, _, e⟩ := x; exact Heap.lt_size e
 | tup xs => obtain ⟨_, _, _, p⟩ := x; exact (show IsTupP _ _ _ from p).tup.lt
 | dK kvs => obtain ⟨_, _, _, _, o, _, _, e, _⟩ := x; exact Heap.lt_size e
 | dT kvs => obtain ⟨_, _, _, _, o, _, _, e, _⟩ := x; exact Heap.lt_size e
 | set S n => obtain ⟨o, _, _, _, e, _⟩ := x; exact Heap.lt_size e
 | ins C dx fs => obtain ⟨_, _, _, e, _⟩ := x; exact Heap.lt_size e
 | own y => obtain ⟨_, e⟩ := x; exact Heap.lt_size e
 | xd fs => obtain ⟨_, ⟨_, _, _, e, _⟩, _⟩ := x; exact Heap.lt_size e
 | rng lo hi => obtain ⟨_, _, _, e⟩ := x; exact Heap.lt_size e
 | frz ob u => obtain ⟨e, _⟩ := x; exact Heap.lt_size e
 | tbl ps => exact Heap.lt_size (show h.get? a = some _ from x)
 | met f y => exact Heap.lt_size (show h.get? a = some _ from x)
 | ext φ => obtain ⟨_, ⟨_, e⟩, _⟩ := x; exact Heap.lt_size e
theorem Paired.mapP {α β : Type} {F G : α → β → Prop} : ∀ {l₁ : List α} {l₂ : List β}, Paired F l₁ l₂ → (∀ a b, F a b → G a b) → Paired G l₁ l₂
 | _, _, .nil, _ => .nil
 | _, _, .cons r t, f => .cons (f _ _ r) (Paired.mapP t f)
theorem ObjOk.stay (x : ObjOk P w H h a o) (k : ∀ b u, (b = a ∨ H b = some (.own a)) → h.get? b = some u → h'.get? b = some u)
 (ho : ∀ b, H b = some (.own a) → H' b = some (.own a)) (ht : ∀ b xs, H b = some (.tup xs) → H' b = some (.tup xs)) : ObjOk P w H' h' a o := by
 induction o with
 | lst xs => obtain ⟨z, its, n, r, e⟩ := x; exact ⟨z, its, n, r, k _ _ (.inl rfl) e⟩
 | tup xs => obtain ⟨z, its, r, ob, e, c⟩ := x; exact ⟨z, its, r, ob, k _ _ (.inl rfl) e, c⟩
 | dK kvs => obtain ⟨z, y, vs, r, ob, es, ep, e, c⟩ := x; exact ⟨z, y, vs, r, ob, es, ep, k _ _ (.inl rfl) e, c⟩
 | dT kvs =>
  obtain ⟨z, y, xs, r, ob, es, ep, e, c⟩ := x
  exact ⟨z, y, xs, Paired.mapP r fun p q z => ⟨z.1, ht _ _ z.2.1, z.2.2⟩, ob, es, ep, k _ _ (.inl rfl) e, c⟩
 | set S n => obtain ⟨ob, es, ep, t, e, c⟩ := x; exact ⟨ob, es, ep, t, k _ _ (.inl rfl) e, c⟩
 | ins C dx fs =>
  obtain ⟨d, z, ne, e, mA, ⟨od, es, ep, e2, c⟩, r⟩ := x
  exact ⟨ho _ d, z, ne, k _ _ (.inl rfl) e, mA, ⟨od, es, ep, k _ _ (.inr d) e2, c⟩, r⟩
 | own y => obtain ⟨ob, e⟩ := x; exact ⟨ob, k _ _ (.inl rfl) e⟩
 | xd fs => obtain ⟨mA, ⟨od, es, ep, e, c⟩, r⟩ := x; exact ⟨mA, ⟨od, es, ep, k _ _ (.inl rfl) e, c⟩, r⟩
 | rng lo hi => obtain ⟨t, u, v, e⟩ := x; exact ⟨t, u, v, k _ _ (.inl rfl) e⟩
 | frz ob u ih => obtain ⟨e, q⟩ := x; exact ⟨k _ _ (.inl rfl) e, ih q⟩
 | tbl ps =>
  have e : h.get? a = some { cls := .none, data := .fields ps } := x
  show h'.get? a = some { cls := .none, data := .fields ps }
  exact k a _ (.inl rfl) e
 | met f y =>
  have e : h.get? a = some (PySem.W.methodObj (.ref f) (.ref y)) := x
  show h'.get? a = some (PySem.W.methodObj (.ref f) (.ref y))
  exact k a _ (.inl rfl) e
 | ext φ => obtain ⟨p, ⟨o, e⟩, st⟩ := x; exact ⟨st _ _ p fun o q => k _ _ (.inl rfl) q, ⟨o, k _ _ (.inl rfl) e⟩, st⟩
theorem HOk.lt (x : HOk P w H h) (e : H a = some o) : a < h.objs.size := (x a o e).lt
theorem HOk.fresh (x : HOk P w H h) (e : h.objs.size ≤ a) : H a = none := by
 cases q : H a with
 | none => rfl
 | some u => exact absurd (Nat.lt_of_lt_of_le (x.lt q) e) (Nat.lt_irrefl _)
theorem HOk.kept (x : HOk P w H h) (k : ∀ b u, h.get? b = some u → h'.get? b = some u) : HOk P w H h' := fun a o e =>
 (x a o e).stay (fun b u _ q => k b u q) (fun _ q => q) fun _ _ q => q
theorem HOk.laid (x : HOk P w H h) (k : ∀ b u, h.get? b = some u → h'.get? b = some u) (hp : h.objs.size ≤ a) (new : ObjOk P w (upd H a o) h' a o) : HOk P w (upd H a o) h' := fun b u e => by
 have hn := x.fresh hp
 by_cases hb : b = a
 · subst hb; rw [zab] at e; cases e; exact new
 · rw [zak hb] at e
   exact (x b u e).stay (fun c v _ q => k c v q) (fun c q => by rw [zak (zav q hn)]; exact q) fun c xs q => by rw [zak (zav q hn)]; exact q
end
def Rd (H : Hp) (a : Addr) (u : HO) : Prop := H a = some u ∨ ∃ o, H a = some (.frz o u)
theorem Rd.ok {P : Program} {w : World} {H : Hp} {h : Heap} {a : Addr} {u : HO} (r : Rd H a u) (x : HOk P w H h) : ObjOk P w H h a u := by
 rcases r with r | ⟨o, r⟩
 · exact x a u r
 · obtain ⟨_, q⟩ := x a _ r
   exact q
def Mut : Option HO → Prop
 | some (.lst _) => True
 | some (.dK _) => True
 | some (.dT _) => True
 | some (.set _ _) => True
 | some (.ins _ _ _) => True
 | some (.ext _) => True
 | _ => False
section
variable {P : Program} {w : World} {H : Hp} {h h' : Heap} {x e : Addr} {o' : HO}
theorem HOk.write (ok : HOk P w H h) (mu : Mut (H x)) (he : e = x ∨ H e = some (.own x)) (k : ∀ b u, b ≠ e → h.get? b = some u → h'.get? b = some u) (heo : ∃ u, h'.get? e = some u)
 (new : ObjOk P w (upd H x o') h' x o') : HOk P w (upd H x o') h' := fun b u q => by
 have nown : ∀ c y, H c = some (.own y) → c ≠ x := fun c y r z => by subst z; rw [r] at mu; exact mu
 have ntup : ∀ c xs, H c = some (.tup xs) → c ≠ x := fun c xs r z => by subst z; rw [r] at mu; exact mu
 by_cases hb : b = x
 · subst hb; rw [zab] at q; cases q; exact new
 · rw [zak hb] at q
   by_cases hbe : b = e
   · have q' : H b = some (.own x) := by
      rcases he with z | z
      · exact absurd (hbe.trans z) hb
      · rw [hbe]; exact z
     rw [q] at q'; cases q'
     obtain ⟨v, hv⟩ := heo
     exact ⟨v, by rw [hbe]; exact hv⟩
   · refine (ok b u q).stay (fun c v hc r => k c v ?_ r) (fun c r => by rw [zak (nown c b r)]; exact r) fun c xs r => by rw [zak (ntup c xs r)]; exact r
     rcases hc with rfl | hc
     · exact hbe
     · rintro rfl
       rcases he with z | z
       · exact nown c b hc z
       · rw [hc] at z; cases z; exact hb rfl
end
structure Un (fs ex : List Addr) (H H' : Hp) (h h' : Heap) : Prop where
 keep : ∀ b o, h.get? b = some o → H b = none → b ∉ fs → b ∉ ex → h'.get? b = some o
 slot : ∀ b o, h.get? b = some o → H b = none → b ∈ fs → b ∉ ex → ∃ sl, h'.get? b = some { o with slots := sl }
 free : ∀ b o, h.get? b = some o → H b = none → b ∉ ex → H' b = none
 there : ∀ b o, h.get? b = some o → b ∉ ex → ∃ o', h'.get? b = some o'
 tups : ∀ b xs, H b = some (.tup xs) → H' b = some (.tup xs)
 frzs : ∀ b o u, H b = some (.frz o u) → H' b = some (.frz o u)
 tbls : ∀ b ps, H b = some (.tbl ps) → ∃ more, H' b = some (.tbl (ps ++ more))
section
variable {fs fs' ex ex' : List Addr} {H H1 H2 : Hp} {h h1 h2 h' : Heap} {a x e : Addr} {o : HO}
theorem Un.any (u : Un fs ex H H1 h h1) {b : Addr} {ob : Obj} (q : h.get? b = some ob) (n : H b = none) (hx : b ∉ ex) : ∃ sl, h1.get? b = some { ob with slots := sl } := by
 by_cases hb : b ∈ fs
 · exact u.slot b ob q n hb hx
 · exact ⟨ob.slots, u.keep b ob q n hb hx⟩
theorem Un.kept (k : ∀ b u, h.get? b = some u → h'.get? b = some u) : Un fs ex H H h h' :=
 ⟨fun b ob q _ _ _ => k b ob q, fun b ob q _ _ _ => ⟨ob.slots, k b ob q⟩, fun _ _ _ n _ => n, fun b ob q _ => ⟨ob, k b ob q⟩, fun _ _ q => q, fun _ _ _ q => q, fun _ ps q => ⟨#[], by rw [q]; simp⟩⟩
theorem Un.refl : Un fs ex H H h h := Un.kept fun _ _ q => q
theorem Un.laid (k : ∀ b u, h.get? b = some u → h'.get? b = some u) (hp : h.objs.size ≤ a) (hn : H a = none) : Un fs ex H (upd H a o) h h' where
 keep := fun b u q _ _ _ => k b u q
 slot := fun b u q _ _ _ => ⟨u.slots, k b u q⟩
 free := fun b u q n _ => by rw [zak (Nat.ne_of_lt (Nat.lt_of_lt_of_le (Heap.lt_size q) hp))]; exact n
 there := fun b u q _ => ⟨u, k b u q⟩
 tups := fun b xs q => by rw [zak (zav q hn)]; exact q
 frzs := fun b u xs q => by rw [zak (zav q hn)]; exact q
 tbls := fun b ps q => ⟨#[], by rw [zak (zav q hn), q]; simp⟩
theorem Un.write (mu : Mut (H x)) (he : e = x ∨ H e = some (.own x)) (k : ∀ b u, b ≠ e → h.get? b = some u → h'.get? b = some u) (heo : ∃ u, h'.get? e = some u) : Un fs ex H (upd H x o) h h' := by
 have hx : ∀ b, H b = none → b ≠ x := fun b n z => by subst z; rw [n] at mu; exact mu
 have hb : ∀ b, H b = none → b ≠ e := fun b n z => by
  subst z
  rcases he with r | r
  · exact hx b n r
  · rw [n] at r; cases r
 have hm : ∀ b u, H b = some u → ¬ Mut (some u) → b ≠ x := fun b u q nm z => by subst z; rw [q] at mu; exact nm mu
 refine ⟨fun b u q n _ _ => k b u (hb b n) q, fun b u q n _ _ => ⟨u.slots, k b u (hb b n) q⟩, fun b u q n _ => by rw [zak (hx b n)]; exact n, fun b u q _ => ?_,
  fun b xs q => by rw [zak (hm b _ q fun z => z)]; exact q, fun b u xs q => by rw [zak (hm b _ q fun z => z)]; exact q, fun b ps q => ⟨#[], by rw [zak (hm b _ q fun z => z), q]; simp⟩⟩
 by_cases hbe : b = e
 · subst hbe; exact heo
 · exact ⟨u, k b u hbe q⟩
end
def trk (h : Heap) (H : Hp) : List Addr := (List.range h.objs.size).filter fun a => (H a).isSome
def hidT (h : Heap) (H : Hp) : Heap := PySem.W.hideAll h (trk h H)
theorem zjU (h : Heap) (H : Hp) : (hidT h H).objs.size = h.objs.size := PySem.W.hideAll_size _ _
theorem zkJ {h : Heap} {H : Hp} {b : Addr} {o : Obj} (e : h.get? b = some o) (n : H b = none) : (hidT h H).get? b = some o :=
 PySem.W.hideAll_get _ e fun hm => by
  have q : (H b).isSome = true := (List.mem_filter.mp hm).2
  rw [n] at q; simp at q
theorem zlv {h : Heap} {H : Hp} {b : Addr} {o : Obj} (e : (hidT h H).get? b = some o) : h.get? b = some o ∧ H b = none := by
 have e' : h.get? b = some o := PySem.W.of_hideAll (trk h H) e
 refine ⟨e', ?_⟩
 cases q : H b with
 | none => rfl
 | some x =>
  have hm : b ∈ trk h H := List.mem_filter.mpr ⟨List.mem_range.mpr (Heap.lt_size e'), by simp [q]⟩
  have z : (hidT h H).get? b = none := PySem.W.hideAll_none (trk h H) hm
  rw [z] at e; cases e
def zlK (g h : Heap) (L : Addr) : List (Addr × Obj) := (List.range h.objs.size).filterMap fun a => if a = L ∨ (g.get? a).isSome = true then none else (h.get? a).map fun o => (a, o)
def rest (g h : Heap) (L d : Addr) : List (Addr × Obj) := (zlK g h L).filter fun p => decide (p.1 ≠ d)
structure Mod (K : PySem.W.Frag) (mg : Str → Option Value) (base : Heap) : Prop where
 kin : K.In base
 glob : base.Ns mainGlobals mg
 blt : ∃ mb, base.Ns builtinsNs mb ∧ ∀ x : Str, x ≠ "__name__" → mb x = bootBuiltins x
 nolimit : base.NoLimit
structure Cx where
 prog : Program
 w : World
 K : PySem.W.Frag
 mg : Str → Option Value
 base : Heap
 A : Around
 N : List Str
 s₀ : Shared
 H₀ : Hp
 env : Env
 outer : List Env
 stack : List Env
 ex : List Addr
 fn : Str → Bool
 calm : Bool
 pn : List (Addr × Obj)
 xe : Value → Shared → Prop
def frs (l : List Env) : List Addr := l.filterMap (·.frame)
abbrev Cx.fs (X : Cx) : List Addr := frs X.outer
def Vis (sc : Scope) (x : Str) : Prop := sc.names.lookup x = some .local ∨ sc.names.lookup x = some .cell ∨ sc.names.lookup x = some .free
def Loc (sc : Scope) (x : Str) : Prop := sc.names.lookup x = some .local ∨ sc.names.lookup x = some .cell
def Look (env : Env) (h : Heap) (m : Str → Option Value) (x : Str) (u : Value) : Prop :=
 (env.kindOf x = some .local ∧ m x = some u) ∨ ((env.kindOf x = some .cell ∨ env.kindOf x = some .free) ∧ ∃ c, env.cells.lookup x = some c ∧ h.IsCell c (some u))
structure Cx.Ok (X : Cx) : Prop where
 mod : Mod X.K X.mg X.base
 kind : X.env.scope.kind = .function
 glob : X.env.globals = mainGlobals
 blt : X.env.builtins = builtinsNs
 above : X.s₀.heap.objs.size ≤ X.env.locals
 inj : ∀ x y c, X.env.cells.lookup x = some c → X.env.cells.lookup y = some c → x = y
 has : ∀ x, (X.env.kindOf x = some .cell ∨ X.env.kindOf x = some .free) → ∃ c, X.env.cells.lookup x = some c
 cab : ∀ x c, X.fn x = true → X.env.cells.lookup x = some c → X.s₀.heap.objs.size ≤ c
 hd : X.calm = true → X.A.handled = none
 frames : X.A.frames = some X.stack
 stk : X.stack = X.outer ∨ (X.stack = X.env :: X.outer ∧ X.env.frame = some X.env.locals)
 exf : ∀ b ∈ X.ex, b ≠ X.env.locals ∧ ∀ x c, X.env.cells.lookup x = some c → c ≠ b
 bs : ∀ b o, X.base.get? b = some o → X.s₀.heap.get? b = some o ∧ X.H₀ b = none
 bsz : X.base.objs.size ≤ X.s₀.heap.objs.size
 noex : ∀ b o, X.base.get? b = some o → b ∉ X.ex
 exfs : ∀ b ∈ X.ex, b ∉ X.fs
 funs : X.s₀.heap.FunFrames X.base X.outer
 frf : ∀ b ∈ X.fs, X.H₀ b = none
structure Inv (X : Cx) (pins : List (Addr × Obj)) (σ : List (Option V)) (H : Hp) (s : Shared) : Prop where
 ok : X.Ok
 os : s.os = X.s₀.os
 bare : AllBare s.gens
 base : Un X.fs X.ex X.H₀ H X.s₀.heap s.heap
 loc : ∃ m, s.heap.Ns X.env.locals m ∧ ∀ (i : Nat) (x : Str) (v : V), X.N[i]? = some x → σ[i]? = some (some v) → Vis X.env.scope x → ∃ u, RelV v u ∧ Look X.env s.heap m x u
 cell : ∀ x c, X.env.cells.lookup x = some c → ∃ v, s.heap.IsCell c v
 free : H X.env.locals = none
 freeC : ∀ x c, X.env.cells.lookup x = some c → H c = none
 pin : ∀ p ∈ X.pn ++ pins, s.heap.get? p.1 = some p.2 ∧ H p.1 = none ∧ p.1 ≠ X.env.locals ∧ p.1 ∉ X.fs ∧ ∀ v, p.2.data ≠ .cell v
 hok : HOk X.prog X.w H s.heap
 len : σ.length = X.N.length
section
variable {X : Cx} {pins : List (Addr × Obj)} {σ : List (Option V)} {H H' : Hp} {s : Shared} {h' : Heap}
theorem Cx.Ok.nofr (ok : X.Ok) {b : Addr} {o : Obj} (e : X.base.get? b = some o) : b ∉ X.fs := fun hb => by
 have := (ok.funs.mem hb).1
 rw [e] at this; cases this
theorem Inv.bs (I : Inv X pins σ H s) : ∀ b o, X.base.get? b = some o → s.heap.get? b = some o ∧ H b = none := fun b o e =>
 ⟨I.base.keep b o (I.ok.bs b o e).1 (I.ok.bs b o e).2 (I.ok.nofr e) (I.ok.noex b o e), I.base.free b o (I.ok.bs b o e).1 (I.ok.bs b o e).2 (I.ok.noex b o e)⟩
theorem Inv.bk (I : Inv X pins σ H s) : ∀ b o, X.base.get? b = some o → s.heap.get? b = some o := fun b o e => (I.bs b o e).1
theorem Inv.mod (I : Inv X pins σ H s) : Mod X.K X.mg X.base := I.ok.mod
theorem Inv.kIn (I : Inv X pins σ H s) : X.K.In s.heap := I.ok.mod.kin.keeps I.bk
theorem Inv.lt (I : Inv X pins σ H s) : X.env.locals < s.heap.objs.size := let ⟨_, hn, _⟩ := I.loc; hn.lt
theorem Inv.sz (I : Inv X pins σ H s) : X.s₀.heap.objs.size ≤ s.heap.objs.size := Nat.le_trans I.ok.above (Nat.le_of_lt I.lt)
theorem Inv.nofs (I : Inv X pins σ H s) {a : Addr} (h : s.heap.objs.size ≤ a) : a ∉ X.fs := fun hb => by
 obtain ⟨_, o, ho, _⟩ := I.ok.funs.mem hb
 exact absurd (Nat.lt_of_lt_of_le (Heap.lt_size ho) (Nat.le_trans I.sz h)) (Nat.lt_irrefl _)
theorem Inv.cne (I : Inv X pins σ H s) : ∀ x c, X.env.cells.lookup x = some c → c ≠ X.env.locals := fun x c e z => by
 obtain ⟨v, o, ho, hd⟩ := I.cell x c e
 obtain ⟨m, ⟨o', es, ep, ho', hd', _⟩, _⟩ := I.loc
 rw [z, ho'] at ho; cases ho; rw [hd'] at hd; cases hd
theorem Inv.funs (I : Inv X pins σ H s) : s.heap.FunFrames X.base X.outer := by
 have all : ∀ (l : List Env), (∀ b ∈ frs l, b ∈ X.fs) → X.s₀.heap.FunFrames X.base l → s.heap.FunFrames X.base l := by
  intro l
  induction l with
  | nil => intro _ _; trivial
  | cons env r ih =>
   intro hs hl
   obtain ⟨hk, ⟨L, o, hf, hn, ho, hd⟩, hr⟩ := hl
   have hL : L ∈ X.fs := hs L (by unfold frs; rw [List.filterMap_cons, hf]; exact List.mem_cons_self)
   obtain ⟨sl, e⟩ := I.base.slot L o ho (I.ok.frf L hL) hL fun z => I.ok.exfs L z hL
   exact ⟨hk, ⟨L, _, hf, hn, e, hd⟩, ih (fun b hb => hs b (by unfold frs; rw [List.filterMap_cons, hf]; exact List.mem_cons_of_mem _ hb)) hr⟩
 exact all X.outer (fun _ hb => hb) I.ok.funs
theorem Inv.stack (I : Inv X pins σ H s) : s.heap.FunFrames X.base X.stack := by
 rcases I.ok.stk with e | ⟨e, hf⟩
 · rw [e]; exact I.funs
 · rw [e]
   obtain ⟨m, hn, _⟩ := I.loc
   refine .cons (by rw [I.ok.kind]; decide) hf hn ?_ I.funs
   exact Heap.get?_none_of_le (Nat.le_trans I.ok.bsz I.ok.above)
theorem Inv.stkSub (I : Inv X pins σ H s) : ∀ b ∈ frs X.stack, b ∈ X.env.locals :: X.fs := fun b hb => by
 rcases I.ok.stk with e | ⟨e, hf⟩
 · rw [e] at hb; exact List.mem_cons_of_mem _ hb
 · rw [e] at hb
   unfold frs at hb
   rw [List.filterMap_cons, hf] at hb
   exact hb
theorem Inv.stkFree (I : Inv X pins σ H s) : ∀ b ∈ frs X.stack, H b = none := fun b hb => by
 rcases List.mem_cons.mp (I.stkSub b hb) with e | hb
 · rw [e]; exact I.free
 · obtain ⟨_, o, ho, _⟩ := I.ok.funs.mem hb
   exact I.base.free b o ho (I.ok.frf b hb) fun z => I.ok.exfs b z hb
theorem Inv.step {g' : Array GenState} {t' : Nat} {d' : Drawn} {ch : List Addr} (I : Inv X pins σ H s)
 (hch : ∀ b ∈ ch, (b ∈ X.ex ∨ X.s₀.heap.objs.size ≤ b) ∧ b ≠ X.env.locals ∧ (∀ x c, X.env.cells.lookup x = some c → c ≠ b) ∧ ∀ p ∈ X.pn ++ pins, p.1 ≠ b)
 (keep : ∀ b o, b ≠ X.env.locals → b ∉ X.fs → b ∉ ch → s.heap.get? b = some o → H b = none → h'.get? b = some o)
 (slot : ∀ b o, b ≠ X.env.locals → b ∈ X.fs → b ∉ ch → s.heap.get? b = some o → H b = none → ∃ sl, h'.get? b = some { o with slots := sl }) (free : ∀ b o, b ∉ ch → s.heap.get? b = some o → H b = none → H' b = none)
 (there : ∀ b o, b ∉ ch → s.heap.get? b = some o → ∃ o', h'.get? b = some o')
 (tups : ∀ b xs, H b = some (.tup xs) → H' b = some (.tup xs)) (frzs : ∀ b o u, H b = some (.frz o u) → H' b = some (.frz o u)) (tbls : ∀ b ps, H b = some (.tbl ps) → ∃ more, H' b = some (.tbl (ps ++ more)))
 (ns : ∀ m, s.heap.Ns X.env.locals m → h'.Ns X.env.locals m) (hok : HOk X.prog X.w H' h') (hg : AllBare g') :
 Inv X pins σ H' { s with heap := h', gens := g', drawn := d', toks := t' } := by
 have neL : ∀ b o, X.s₀.heap.get? b = some o → b ≠ X.env.locals := fun b o e => Nat.ne_of_lt (Nat.lt_of_lt_of_le (Heap.lt_size e) I.ok.above)
 have neC : ∀ b o, X.s₀.heap.get? b = some o → b ∉ X.ex → b ∉ ch := fun b o e hx hb => by
  rcases (hch b hb).1 with z | z
  · exact hx z
  · exact absurd (Nat.lt_of_lt_of_le (Heap.lt_size e) z) (Nat.lt_irrefl _)
 have cellK : ∀ x c, X.env.cells.lookup x = some c → ∀ v, s.heap.IsCell c v → h'.IsCell c v := fun x c e v ⟨o, ho, hd⟩ => by
  have nch : c ∉ ch := fun z => (hch c z).2.2.1 x c e rfl
  by_cases hc : c ∈ X.fs
  · obtain ⟨sl, q⟩ := slot c o (I.cne x c e) hc nch ho (I.freeC x c e)
    exact ⟨_, q, hd⟩
  · exact ⟨o, keep c o (I.cne x c e) hc nch ho (I.freeC x c e), hd⟩
 refine ⟨I.ok, I.os, hg, ⟨fun b o e n hb hx => ?_, fun b o e n hb hx => ?_, fun b o e n hx => ?_, fun b o e hx => ?_, fun b xs e => tups b xs (I.base.tups b xs e), fun b o xs e => frzs b o xs (I.base.frzs b o xs e), fun b ps e => ?_⟩, ?_, fun x c e => ?_, ?_, fun x c e => ?_, fun p hp => ?_, hok, I.len⟩
 · exact keep b o (neL b o e) hb (neC b o e hx) (I.base.keep b o e n hb hx) (I.base.free b o e n hx)
 · obtain ⟨sl, e1⟩ := I.base.slot b o e n hb hx
   obtain ⟨sl', e2⟩ := slot b _ (neL b o e) hb (neC b o e hx) e1 (I.base.free b o e n hx)
   exact ⟨sl', e2⟩
 · obtain ⟨o', e1⟩ := I.base.there b o e hx
   exact free b o' (neC b o e hx) e1 (I.base.free b o e n hx)
 · obtain ⟨o', e1⟩ := I.base.there b o e hx
   exact there b o' (neC b o e hx) e1
 · obtain ⟨m1, e1⟩ := I.base.tbls b ps e
   obtain ⟨m2, e2⟩ := tbls b _ e1
   exact ⟨m1 ++ m2, by rw [e2, Array.append_assoc]⟩
 · obtain ⟨m, hn, hl⟩ := I.loc
   refine ⟨m, ns m hn, fun i x v e1 e2 e3 => ?_⟩
   obtain ⟨u, r, l⟩ := hl i x v e1 e2 e3
   refine ⟨u, r, ?_⟩
   rcases l with l | ⟨k, c, e, z⟩
   · exact .inl l
   · exact .inr ⟨k, c, e, cellK x c e _ z⟩
 · obtain ⟨v, z⟩ := I.cell x c e
   exact ⟨v, cellK x c e v z⟩
 · obtain ⟨m, ⟨o, _, _, ho, _⟩, _⟩ := I.loc
   exact free _ o (fun z => (hch _ z).2.1 rfl) ho I.free
 · obtain ⟨v, o, ho, hd⟩ := I.cell x c e
   exact free c o (fun z => (hch c z).2.2.1 x c e rfl) ho (I.freeC x c e)
 · obtain ⟨e, n, ne, nf, d⟩ := I.pin p hp
   have nch : p.1 ∉ ch := fun z => (hch p.1 z).2.2.2 p hp rfl
   exact ⟨keep p.1 p.2 ne nf nch e n, free p.1 p.2 nch e n, ne, nf, d⟩
theorem Inv.un {t' : Nat} (I : Inv X pins σ H s) (u : Un X.fs [] H H' s.heap h') (hok : HOk X.prog X.w H' h') : Inv X pins σ H' { s with heap := h', toks := t' } := by
 obtain ⟨m, ⟨o, es, ep, ho, r⟩, _⟩ := id I.loc
 obtain ⟨sl, hL⟩ := u.any ho I.free (by simp)
 exact I.step (g' := s.gens) (d' := s.drawn) (ch := []) (fun _ z => nomatch z) (fun b o _ hb _ e n => u.keep b o e n hb (by simp)) (fun b o _ hb _ e n => u.slot b o e n hb (by simp)) (fun b o _ e n => u.free b o e n (by simp)) (fun b o _ e => u.there b o e (by simp)) u.tups u.frzs u.tbls (fun m' hm => by
  obtain ⟨o', es', ep', ho', r'⟩ := hm
  rw [ho] at ho'; cases ho'
  exact ⟨_, es', ep', hL, r'⟩) hok I.bare
theorem Inv.call {g' : Array GenState} {t' : Nat} {d' : Drawn} {ch : List Addr} (I : Inv X pins σ H s) (u : Un (frs X.stack) ch H H' s.heap h') (hok : HOk X.prog X.w H' h') (hg : AllBare g')
 (hch : ∀ b ∈ ch, (b ∈ X.ex ∨ X.s₀.heap.objs.size ≤ b) ∧ b ≠ X.env.locals ∧ (∀ x c, X.env.cells.lookup x = some c → c ≠ b) ∧ ∀ p ∈ X.pn ++ pins, p.1 ≠ b) :
 Inv X pins σ H' { s with heap := h', gens := g', drawn := d', toks := t' } := by
 obtain ⟨m, ⟨o, es, ep, ho, r⟩, _⟩ := id I.loc
 obtain ⟨sl, hL⟩ := u.any ho I.free fun z => (hch _ z).2.1 rfl
 exact I.step (ch := ch) hch (fun b o hL hb hc e n => u.keep b o e n (fun z => (List.mem_cons.mp (I.stkSub b z)).elim hL hb) hc) (fun b o _ _ hc e n => u.any e n hc) (fun b o hc e n => u.free b o e n hc) (fun b o hc e => u.there b o e hc) u.tups u.frzs u.tbls (fun m' hm => by
  obtain ⟨o', es', ep', ho', r'⟩ := hm
  rw [ho] at ho'; cases ho'
  exact ⟨_, es', ep', hL, r'⟩) hok hg
theorem Inv.turned {t' : Nat} {it : Addr} (I : Inv X pins σ H s) (k : ∀ b o, b ≠ it → s.heap.get? b = some o → h'.get? b = some o) (hn : H it = none) (hL : it ≠ X.env.locals)
 (h1 : it ∈ X.ex ∨ X.s₀.heap.objs.size ≤ it) (h2 : ∀ x c, X.env.cells.lookup x = some c → c ≠ it) (h3 : ∀ p ∈ X.pn ++ pins, p.1 ≠ it) : Inv X pins σ H { s with heap := h', toks := t' } := by
 have nit : ∀ b u, H b = some u → b ≠ it := fun b u e z => by rw [z, hn] at e; cases e
 refine I.step (g' := s.gens) (d' := s.drawn) (ch := [it]) (fun b hb => ?_) (fun b o _ _ hc e _ => k b o (fun z => hc (by simp [z])) e) (fun b o _ _ hc e _ => ⟨o.slots, k b o (fun z => hc (by simp [z])) e⟩) (fun _ _ _ _ n => n)
  (fun b o hc e => ⟨o, k b o (fun z => hc (by simp [z])) e⟩) (fun _ _ e => e) (fun _ _ _ e => e) (fun b ps e => ⟨#[], by rw [e]; simp⟩) (fun m hm => ?_) (fun b u e => ?_) I.bare
 · have e : b = it := by simpa using hb
   subst e
   exact ⟨h1, hL, h2, h3⟩
 · obtain ⟨o, es, ep, ho, r⟩ := hm
   exact ⟨o, es, ep, k _ o (Ne.symm hL) ho, r⟩
 · refine (I.hok b u e).stay (fun c v hc q => k c v ?_ q) (fun _ q => q) fun _ _ q => q
   rcases hc with z | z
   · rw [z]; exact nit b u e
   · exact nit c _ z
theorem Inv.tok (I : Inv X pins σ H s) (t : Nat) : Inv X pins σ H { s with toks := t } := I.un (h' := s.heap) (t' := t) Un.refl I.hok
theorem Inv.kept {t' : Nat} (I : Inv X pins σ H s) (k : ∀ b u, s.heap.get? b = some u → h'.get? b = some u) : Inv X pins σ H { s with heap := h', toks := t' } := I.un (Un.kept k) (I.hok.kept k)
theorem Inv.laid {a : Addr} {o : HO} {t' : Nat} (I : Inv X pins σ H s) (k : ∀ b u, s.heap.get? b = some u → h'.get? b = some u) (hp : s.heap.objs.size ≤ a) (new : ObjOk X.prog X.w (upd H a o) h' a o) :
 Inv X pins σ (upd H a o) { s with heap := h', toks := t' } := I.un (Un.laid k hp (I.hok.fresh hp)) (I.hok.laid k hp new)
theorem Inv.write {x e : Addr} {o : HO} {t' : Nat} (I : Inv X pins σ H s) (mu : Mut (H x)) (he : e = x ∨ H e = some (.own x)) (k : ∀ b u, b ≠ e → s.heap.get? b = some u → h'.get? b = some u) (heo : ∃ u, h'.get? e = some u)
 (new : ObjOk X.prog X.w (upd H x o) h' x o) : Inv X pins σ (upd H x o) { s with heap := h', toks := t' } := I.un (Un.write mu he k heo) (I.hok.write mu he k heo new)
theorem Inv.pins_of {pins' : List (Addr × Obj)} (I : Inv X pins σ H s) (h : ∀ p ∈ pins', s.heap.get? p.1 = some p.2 ∧ H p.1 = none ∧ p.1 ≠ X.env.locals ∧ p.1 ∉ X.fs ∧ ∀ v, p.2.data ≠ .cell v) : Inv X pins' σ H s :=
 ⟨I.ok, I.os, I.bare, I.base, I.loc, I.cell, I.free, I.freeC, fun p hp => (List.mem_append.mp hp).elim (fun z => I.pin p (List.mem_append_left _ z)) (h p), I.hok, I.len⟩
theorem zhS {N : List Str} (hN : N.Nodup) {i j : Nat} {x : Str} (a : N[i]? = some x) (b : N[j]? = some x) : i = j := by
 obtain ⟨h1, e1⟩ := List.getElem?_eq_some_iff.mp a
 obtain ⟨h2, e2⟩ := List.getElem?_eq_some_iff.mp b
 exact (List.getElem_inj hN).mp (e1.trans e2.symm)
theorem zfB {M : Model} {A : Around} {E : Value → Shared → Prop} {i : Nat} {x : Str} {v : V} {u : Value} {Q : Unit → Shared → Prop} (I : Inv X pins σ H s) (hN : X.N.Nodup) (hi : X.N[i]? = some x) (hx : Loc X.env.scope x) (r : RelV v u)
 (h : ∀ s', Inv X pins (σ.set i (some v)) H s' → (∃ a, Heap.SameBut a s.heap s'.heap ∧ (a = X.env.locals ∨ X.env.cells.lookup x = some a)) → Q () s') (hf : X.fn x = true ∨ X.env.scope.names.lookup x = some .local := by first | exact .inl rfl | exact .inr rfl | assumption) : wpAny M A (storeName X.env x u) Q E s := by
 obtain ⟨m, hn, hl⟩ := id I.loc
 have hcls : (X.env.scope.kind == .class || (X.env.scope.kind == .module && X.env.locals != X.env.globals)) = false := by rw [I.ok.kind]; rfl
 have hiσ : i < σ.length := by rw [I.len]; exact (List.getElem?_eq_some_iff.mp hi).1
 have cne := I.cne
 have tracked : ∀ {a : Addr} {h' : Heap}, (∃ o, s.heap.get? a = some o ∧ H a = none) → Heap.SameBut a s.heap h' → HOk X.prog X.w H h' := fun {a h'} ha hs b ob e => by
  obtain ⟨_, _, hfree⟩ := ha
  refine (I.hok b ob e).stay (fun c w' hc q => (hs.2 c ?_).trans q) (fun _ q => q) fun _ _ q => q
  rintro rfl
  rcases hc with rfl | hc
  · rw [hfree] at e; cases e
  · rw [hfree] at hc; cases hc
 rcases hx with hk | hk
 · refine wpAny_storeName_local hk hn (fun h' hn' hs => ?_) hcls
   obtain ⟨oL, _, _, hoL, _⟩ := id hn
   refine h _ ⟨I.ok, I.os, I.bare, ⟨fun b o e n hb hx => ?_, fun b o e n hb hx => ?_, I.base.free, fun b o e hx => ?_, I.base.tups, I.base.frzs, I.base.tbls⟩, ⟨_, hn', fun j y v' e1 e2 e3 => ?_⟩, fun y c e => ?_, I.free, I.freeC, fun p hp => ?_, tracked ⟨oL, hoL, I.free⟩ hs, by simpa using I.len⟩ ⟨_, hs, .inl rfl⟩
   · exact (hs.2 b (Nat.ne_of_lt (Nat.lt_of_lt_of_le (Heap.lt_size e) I.ok.above))).trans (I.base.keep b o e n hb hx)
   · obtain ⟨sl, e1⟩ := I.base.slot b o e n hb hx
     exact ⟨sl, (hs.2 b (Nat.ne_of_lt (Nat.lt_of_lt_of_le (Heap.lt_size e) I.ok.above))).trans e1⟩
   · obtain ⟨o', e1⟩ := I.base.there b o e hx
     exact ⟨o', (hs.2 b (Nat.ne_of_lt (Nat.lt_of_lt_of_le (Heap.lt_size e) I.ok.above))).trans e1⟩
   · by_cases hj : j = i
     · subst hj
       rw [hi] at e1; cases e1
       rw [List.getElem?_set_self hiσ] at e2
       cases e2
       exact ⟨u, r, .inl ⟨hk, by simp⟩⟩
     · rw [List.getElem?_set_ne (Ne.symm hj)] at e2
       obtain ⟨u', r', q⟩ := hl j y v' e1 e2 e3
       refine ⟨u', r', ?_⟩
       rcases q with ⟨k, e⟩ | ⟨k, c, e, z⟩
       · refine .inl ⟨k, ?_⟩
         have : y ≠ x := fun e => hj (zhS hN e1 (e ▸ hi))
         simp [this, e]
       · exact .inr ⟨k, c, e, z.sameBut hs (cne y c e)⟩
   · obtain ⟨w', z⟩ := I.cell y c e
     exact ⟨w', z.sameBut hs (cne y c e)⟩
   · obtain ⟨e, n, ne, nf, d⟩ := I.pin p hp
     exact ⟨(hs.2 p.1 ne).trans e, n, ne, nf, d⟩
 · have hfn : X.fn x = true := by
    rcases hf with z | z
    · exact z
    · rw [z] at hk; cases hk
   obtain ⟨c, hc⟩ := I.ok.has x (.inl hk)
   obtain ⟨w', z⟩ := I.cell x c hc
   refine wpAny_storeName_cell I.ok.kind hk hc z (fun h' hc' hs => ?_)
   obtain ⟨oc, hoc, hocd⟩ := id z
   refine h { s with heap := h' } ⟨I.ok, I.os, I.bare, ⟨fun b o e n hb hx => ?_, fun b o e n hb hx => ?_, I.base.free, fun b o e hx => ?_, I.base.tups, I.base.frzs, I.base.tbls⟩, ⟨m, hn.sameBut hs (Ne.symm (cne x c hc)), fun j y v' e1 e2 e3 => ?_⟩, fun y c' e => ?_, I.free, I.freeC, fun p hp => ?_, tracked ⟨oc, hoc, I.freeC x c hc⟩ hs, by simpa using I.len⟩ ⟨c, hs, .inr hc⟩
   · exact (hs.2 b (Nat.ne_of_lt (Nat.lt_of_lt_of_le (Heap.lt_size e) (I.ok.cab x c hfn hc)))).trans (I.base.keep b o e n hb hx)
   · obtain ⟨sl, e1⟩ := I.base.slot b o e n hb hx
     exact ⟨sl, (hs.2 b (Nat.ne_of_lt (Nat.lt_of_lt_of_le (Heap.lt_size e) (I.ok.cab x c hfn hc)))).trans e1⟩
   · obtain ⟨o', e1⟩ := I.base.there b o e hx
     exact ⟨o', (hs.2 b (Nat.ne_of_lt (Nat.lt_of_lt_of_le (Heap.lt_size e) (I.ok.cab x c hfn hc)))).trans e1⟩
   · by_cases hj : j = i
     · subst hj
       rw [hi] at e1; cases e1
       rw [List.getElem?_set_self hiσ] at e2
       cases e2
       exact ⟨u, r, .inr ⟨.inl hk, c, hc, hc'⟩⟩
     · rw [List.getElem?_set_ne (Ne.symm hj)] at e2
       obtain ⟨u', r', q⟩ := hl j y v' e1 e2 e3
       refine ⟨u', r', ?_⟩
       rcases q with q | ⟨k, c', e, z'⟩
       · exact .inl q
       · refine .inr ⟨k, c', e, z'.sameBut hs ?_⟩
         rintro rfl
         exact hj (zhS hN e1 (I.ok.inj _ _ _ e hc ▸ hi))
   · by_cases hcc : c' = c
     · subst hcc; exact ⟨_, hc'⟩
     · obtain ⟨w2, z2⟩ := I.cell y c' e
       exact ⟨w2, z2.sameBut hs hcc⟩
   · obtain ⟨e, n, ne, nf, d⟩ := I.pin p hp
     refine ⟨(hs.2 p.1 ?_).trans e, n, ne, nf, d⟩
     intro q
     rw [q, hoc] at e
     have q' : oc = p.2 := Option.some.inj e
     exact d w' (by rw [← q']; exact hocd)
theorem zhF {M : Model} {A : Around} {E : Value → Shared → Prop} {i : Nat} {x : Str} {v : V} {u : Value} {Q : Unit → Shared → Prop} (I : Inv X pins σ H s) (hN : X.N.Nodup) (hi : X.N[i]? = some x) (hx : Loc X.env.scope x) (r : RelV v u)
 (h : ∀ s', Inv X pins (σ.set i (some v)) H s' → Q () s') (hf : X.fn x = true ∨ X.env.scope.names.lookup x = some .local := by first | exact .inl rfl | exact .inr rfl | assumption) : wpAny M A (storeName X.env x u) Q E s :=
 zfB I hN hi hx r (fun s' I' _ => h s' I') hf
theorem Inv.call' {s' : Shared} {ch : List Addr} (I : Inv X pins σ H s) (ho : s'.os = s.os) (u : Un (frs X.stack) ch H H' s.heap s'.heap) (hok : HOk X.prog X.w H' s'.heap) (hg : AllBare s'.gens)
 (hch : ∀ b ∈ ch, (b ∈ X.ex ∨ X.s₀.heap.objs.size ≤ b) ∧ b ≠ X.env.locals ∧ (∀ x c, X.env.cells.lookup x = some c → c ≠ b) ∧ ∀ p ∈ X.pn ++ pins, p.1 ≠ b) : Inv X pins σ H' s' := by
 obtain ⟨h', g', d', t', o'⟩ := s'
 have e : o' = s.os := ho
 subst e
 exact I.call (g' := g') (t' := t') (d' := d') u hok hg hch
end
abbrev XK := Value → Option Addr → Hp → Prop
abbrev St := List (Option V)
abbrev VK := V → Hp → Prop
abbrev TE := St → Hp → VK → Prop
abbrev TT := St → Hp → (Bool → Hp → Prop) → Prop
abbrev TA := St → Hp → (List V → Hp → Prop) → Prop
structure Ends where
 nx : St → Hp → Prop
 rt : VK
 bk : St → Hp → Prop := fun _ _ => False
 ct : St → Hp → Prop := fun _ _ => False
abbrev TS := Ends → St → Hp → Prop
def EP (X : Cx) (pins : List (Addr × Obj)) (σ : St) (Q : VK) (u : Value) (s' : Shared) : Prop := ∃ v H', Inv X pins σ H' s' ∧ RelV v u ∧ Q v H'
def TP (X : Cx) (pins : List (Addr × Obj)) (σ : St) (Q : Bool → Hp → Prop) (b : Bool) (s' : Shared) : Prop := ∃ H', Inv X pins σ H' s' ∧ Q b H'
def AP (X : Cx) (pins : List (Addr × Obj)) (σ : St) (Q : List V → Hp → Prop) (us : List Value) (s' : Shared) : Prop := ∃ vs H', Inv X pins σ H' s' ∧ Vals vs us ∧ Q vs H'
def SP (X : Cx) (pins : List (Addr × Obj)) (D : Ends) (f : Flow) (s' : Shared) : Prop :=
 match f with
 | .next => ∃ σ' H', Inv X pins σ' H' s' ∧ D.nx σ' H'
 | .brk => ∃ σ' H', Inv X pins σ' H' s' ∧ D.bk σ' H'
 | .cont => ∃ σ' H', Inv X pins σ' H' s' ∧ D.ct σ' H'
 | .ret u => ∃ v σ' H', Inv X pins σ' H' s' ∧ RelV v u ∧ D.rt v H'
def PE (X : Cx) (e : Expr) (t : TE) : Prop :=
 ∀ (pins : List (Addr × Obj)) (s : Shared) (σ : St) (H : Hp) (Q : VK), Inv X pins σ H s → t σ H Q → wpAny (model X.prog X.w) X.A (eval e X.env) (EP X pins σ Q) X.xe s
def PT (X : Cx) (e : Expr) (t : TT) : Prop :=
 ∀ (pins : List (Addr × Obj)) (s : Shared) (σ : St) (H : Hp) (Q : Bool → Hp → Prop), Inv X pins σ H s → t σ H Q → wpAny (model X.prog X.w) X.A (isTrue e X.env (eval e X.env)) (TP X pins σ Q) X.xe s
def PW (X : Cx) (e : Expr) (t : TT) : Prop :=
 ∀ (whole : Sem Value) (pins : List (Addr × Obj)) (s : Shared) (σ : St) (H : Hp) (Q : Bool → Hp → Prop), Inv X pins σ H s → t σ H Q → wpAny (model X.prog X.w) X.A (isTrue e X.env whole) (TP X pins σ Q) X.xe s
theorem PW.pt {X : Cx} {e : Expr} {t : TT} (h : PW X e t) : PT X e t := h _
def PA (X : Cx) (es : List Expr) (t : TA) : Prop :=
 ∀ (pos : Pos) (pins : List (Addr × Obj)) (s : Shared) (σ : St) (H : Hp) (Q : List V → Hp → Prop), Inv X pins σ H s → t σ H Q → wpAny (model X.prog X.w) X.A (spliced (backTo pos (starEach es X.env))) (AP X pins σ Q) X.xe s
def PS (X : Cx) (st : Stmt) (t : TS) : Prop :=
 ∀ (pins : List (Addr × Obj)) (s : Shared) (σ : St) (H : Hp) (D : Ends), Inv X pins σ H s → t D σ H → wpAny (model X.prog X.w) X.A (exec st X.env) (SP X pins D) X.xe s
def PSs (X : Cx) (st : List Stmt) (t : TS) : Prop :=
 ∀ (pins : List (Addr × Obj)) (s : Shared) (σ : St) (H : Hp) (D : Ends), Inv X pins σ H s → t D σ H → wpAny (model X.prog X.w) X.A (execs st X.env) (SP X pins D) X.xe s
theorem thn {α : Type} {t : Sem α} {Q Q' : α → Shared → Prop} {M : Model} {A : Around} {E : Value → Shared → Prop} {s : Shared} (h : wpAny M A t Q E s) (hQ : ∀ a s, Q a s → Q' a s) : wpAny M A t Q' E s := wpAny_mono h hQ fun _ _ x => x
section
variable {X : Cx}
def tVar (i : Nat) : TE := fun σ H Q => ∃ v, σ[i]? = some (some v) ∧ Q v H
def tC (v : V) : TE := fun _ H Q => Q v H
theorem zmb {i : Nat} {x : Str} {pos : Pos} (hN : X.N[i]? = some x) (hv : Vis X.env.scope x) (hd : (x == ("__debug__" : Str)) = false := by decide) (hcd : (x == ("__classdict__" : Str)) = false := by decide) : PE X (.Name x pos) (tVar i) := by
 intro pins s σ H Q I h
 obtain ⟨v, e, h⟩ := h
 obtain ⟨m, hn, hl⟩ := I.loc
 obtain ⟨u, r, l⟩ := hl i x v hN e hv
 have fin : EP X pins σ Q u s := ⟨v, H, I, r, h⟩
 rcases l with ⟨hk, hm⟩ | ⟨hk, c, hc, hcell⟩
 · exact wpAny_Name (wpAny_loadName_local I.ok.kind hk hn hm fin) hd
 · rcases hk with hk | hk
   · exact wpAny_Name (wpAny_loadName_cell I.ok.kind hk hc hcell fin) hd
   · exact wpAny_Name (wpAny_loadName_free I.ok.kind hk hc hcell fin hcd) hd
theorem zaf {i j pos} : PE X (.Constant (.int i) j pos) (tC (.int i)) := fun _ _ _ H _ I h => wpAny_Constant_int ⟨.int i, H, I.tok _, ⟨_, rfl⟩, h⟩
theorem zbQ {b j pos} : PE X (.Constant (.bool b) j pos) (tC (.bl b)) := fun _ _ _ H _ I h => Constant_bool ⟨.bl b, H, I, rfl, h⟩
theorem za5 {j pos} : PE X (.Constant .none j pos) (tC .non) := fun _ _ _ H _ I h => Constant_none ⟨.non, H, I, rfl, h⟩
theorem zey {x j pos} : PE X (.Constant (.str x) j pos) (tC (.str x)) := fun _ _ _ H _ I h => Calls.Constant_str ⟨.str x, H, I.tok _, ⟨_, rfl⟩, h⟩
def Gl (X : Cx) (x : Str) : Prop := X.env.kindOf x = some .globalImplicit
theorem zjF {E : Value → Shared → Prop} {pins : List (Addr × Obj)} {s : Shared} {σ : St} {H : Hp} {x : Str} {u : Value} {pos : Pos} {Q : Value → Shared → Prop} (I : Inv X pins σ H s) (hg : Gl X x) (hm : X.mg x = some u) (h : Q u s)
 (hd : (x == ("__debug__" : Str)) = false := by decide) : wpAny (model X.prog X.w) X.A (eval (.Name x pos) X.env) Q E s :=
 Calls.Name_function_global I.ok.kind hg (Calls.loadGlobal_global (by rw [I.ok.glob]; exact I.mod.glob.keeps I.bk) hm h) hd
theorem zdA {E : Value → Shared → Prop} {pins : List (Addr × Obj)} {s : Shared} {σ : St} {H : Hp} {x : Str} {u : Value} {pos : Pos} {Q : Value → Shared → Prop} (I : Inv X pins σ H s) (hg : Gl X x) (hm : X.mg x = none) (hv : bootBuiltins x = some u) (h : Q u s)
 (hn : x ≠ "__name__" := by decide) (hd : (x == ("__debug__" : Str)) = false := by decide) : wpAny (model X.prog X.w) X.A (eval (.Name x pos) X.env) Q E s := by
 obtain ⟨mb, h1, h2⟩ := I.mod.blt
 exact Calls.Name_function_global I.ok.kind hg (Calls.loadGlobal_builtin (by rw [I.ok.glob]; exact I.mod.glob.keeps I.bk) hm (by rw [I.ok.blt]; exact h1.keeps I.bk) ((h2 x hn).trans hv) h) hd
theorem zjl {x : Str} {v : V} {u : Value} {pos : Pos} (hg : Gl X x) (hm : X.mg x = some u) (r : RelV v u) (hd : (x == ("__debug__" : Str)) = false := by decide) : PE X (.Name x pos) (tC v) :=
 fun _ _ _ H _ I h => zjF I hg hm ⟨v, H, I, r, h⟩ hd
theorem zbF {x : Str} {v : V} {u : Value} {pos : Pos} (hg : Gl X x) (hm : X.mg x = none) (hv : bootBuiltins x = some u) (r : RelV v u) (hn : x ≠ "__name__" := by decide) (hd : (x == ("__debug__" : Str)) = false := by decide) : PE X (.Name x pos) (tC v) :=
 fun _ _ _ H _ I h => zdA I hg hm hv ⟨v, H, I, r, h⟩ hn hd
variable {a b : Expr} {ta tb : TE} {pos : Pos}
def PC (X : Cx) (op : CmpOp) (a b : Expr) (t : TE) : Prop :=
 ∀ (pins : List (Addr × Obj)) (s : Shared) (σ : St) (H : Hp) (Q : VK), Inv X pins σ H s → t σ H Q →
  wpAny (model X.prog X.w) X.A (eval a X.env) (fun v s₁ => wpAny (model X.prog X.w) X.A (eval b X.env) (fun u s₂ => wpAny (model X.prog X.w) X.A (compareOp op v u) (EP X pins σ Q) X.xe s₂) X.xe s₁) X.xe s
theorem zhT (b : Expr) {op : CmpOp} (h : op ≠ .In) (h2 : op ≠ .NotIn) : behindInMarks op b = false := by
 have e1 : (op == CmpOp.In) = false := by cases op <;> first | rfl | exact absurd rfl h
 have e2 : (op == CmpOp.NotIn) = false := by cases op <;> first | rfl | exact absurd rfl h2
 cases b <;> simp [behindInMarks, e1, e2]
def tIsN (ta : TE) : TE := fun σ H Q => ta σ H fun x H1 => Q (.bl (decide (x = .non))) H1
def zmB (ta : TE) : TE := fun σ H Q => ta σ H fun x H1 => Q (.bl (!decide (x = .non))) H1
theorem RelV.none_iff {x : V} {v : Value} (r : RelV x v) : (v == Value.none) = decide (x = .non) := by
 cases x with
 | non => cases r; rfl
 | bl _ => cases r; rfl
 | int _ => obtain ⟨t, rfl⟩ := r; rfl
 | str _ => obtain ⟨t, rfl⟩ := r; rfl
 | byt _ => obtain ⟨t, rfl⟩ := r; rfl
 | flt _ => obtain ⟨t, rfl⟩ := r; rfl
 | ref _ => cases r; rfl
 | ty _ => cases r; rfl
theorem zbL {j pos'} (ha : PE X a ta) : PC X .Is a (.Constant .none j pos') (tIsN ta) := by
 intro pins s σ H Q I h
 refine thn (ha pins s σ H _ I h) fun v s1 ⟨x, H1, I1, r1, q1⟩ => ?_
 exact Constant_none (is_none_gen ⟨.bl _, H1, I1, by rw [r1.none_iff]; rfl, q1⟩)
theorem zaT {j pos'} (ha : PE X a ta) : PC X .IsNot a (.Constant .none j pos') (zmB ta) := by
 intro pins s σ H Q I h
 refine thn (ha pins s σ H _ I h) fun v s1 ⟨x, H1, I1, r1, q1⟩ => ?_
 exact Constant_none (isnot_none_gen ⟨.bl _, H1, I1, by rw [r1.none_iff]; rfl, q1⟩)
def tB (t : TE) : TT := fun σ H Q => t σ H fun x H1 => ∃ c, x = .bl c ∧ Q c H1
theorem zcF {op : CmpOp} {t : TE} (h : PC X op a b t) (h1 : behindInMarks op b = false := by first | exact zhT _ (by decide) (by decide) | rfl) : PE X (.Compare a [op] [b] pos) t := fun pins s σ H Q I hw => wpAny_Compare1 (h pins s σ H Q I hw) h1
theorem zaK {op : CmpOp} {t : TE} (h : PC X op a b t) (h1 : behindInMarks op b = false := by first | exact zhT _ (by decide) (by decide) | rfl) : PT X (.Compare a [op] [b] pos) (tB t) := by
 intro pins s σ H Q I hw
 refine wpAny_isTrue_Compare1 (thn (h pins s σ H _ I hw) fun v s1 h1 => thn h1 fun u s2 h2 => thn h2 fun c s3 ⟨x, H1, I1, r1, q1⟩ => ?_) h1
 obtain ⟨d, rfl, q⟩ := q1
 cases r1
 exact wpAny_truthy_bool ⟨H1, I1, q⟩
theorem zaQ {e : Expr} {t : TE} (h : PE X e t) (he : ∀ whole, isTrue e X.env whole = (do let v ← whole; standAt e.pos; holding [v] (truthy v)) := by intro _; rfl) : PT X e (tB t) := by
 intro pins s σ H Q I hw
 refine isTrue_plain (thn (h pins s σ H _ I hw) fun v s1 ⟨x, H1, I1, r1, q1⟩ => ?_) (he _)
 obtain ⟨d, rfl, q⟩ := q1
 cases r1
 exact wpAny_truthy_bool ⟨H1, I1, q⟩
variable {tA tB' : TT} {rest : List Expr}
def tAnd (t u : TT) : TT := fun σ H Q => t σ H fun c H1 => if c = true then u σ H1 Q else Q false H1
def tOr (t u : TT) : TT := fun σ H Q => t σ H fun c H1 => if c = true then Q true H1 else u σ H1 Q
def tNot (t : TT) : TT := fun σ H Q => t σ H fun c H1 => Q (!c) H1
theorem zbk (ha : PT X a tA) : PW X (.BoolOp .And [a] pos) tA := by
 intro wh pins s σ H Q I h
 refine isTrue_and (thn (ha pins s σ H Q I h) fun c s1 e => ?_)
 cases c with
 | true => exact isTrue_and_nil e
 | false => exact e
theorem zb7 (ha : PT X a tA) : PW X (.BoolOp .Or [a] pos) tA := by
 intro wh pins s σ H Q I h
 refine isTrue_or (thn (ha pins s σ H Q I h) fun c s1 e => ?_)
 cases c with
 | false => exact isTrue_or_nil e
 | true => exact e
theorem zbJ (ha : PT X a tA) (hb : PW X (.BoolOp .And (b :: rest) pos) tB') : PW X (.BoolOp .And (a :: b :: rest) pos) (tAnd tA tB') := by
 intro wh pins s σ H Q I h
 refine isTrue_and (thn (ha pins s σ H _ I h) fun c s1 ⟨H1, I1, q1⟩ => ?_)
 cases c with
 | true => exact hb wh pins s1 σ H1 Q I1 q1
 | false => exact ⟨H1, I1, q1⟩
theorem zcz (ha : PT X a tA) (hb : PW X (.BoolOp .Or (b :: rest) pos) tB') : PW X (.BoolOp .Or (a :: b :: rest) pos) (tOr tA tB') := by
 intro wh pins s σ H Q I h
 refine isTrue_or (thn (ha pins s σ H _ I h) fun c s1 ⟨H1, I1, q1⟩ => ?_)
 cases c with
 | true => exact ⟨H1, I1, q1⟩
 | false => exact hb wh pins s1 σ H1 Q I1 q1
theorem zaX (ha : PT X a tA) : PT X (.UnaryOp .Not a pos) (tNot tA) := by
 intro pins s σ H Q I h
 exact isTrue_not (ha pins s σ H (fun c H1 => Q (!c) H1) I h)
def zmF (ta tb : TE) : TE := fun σ H Q => ta σ H fun x H1 => ∃ c, x = .bl c ∧ if c = true then tb σ H1 Q else Q (.bl false) H1
def tOrV (ta tb : TE) : TE := fun σ H Q => ta σ H fun x H1 => ∃ c, x = .bl c ∧ if c = true then Q (.bl true) H1 else tb σ H1 Q
def zmA (ta : TE) : TE := fun σ H Q => ta σ H fun x H1 => ∃ c, x = .bl c ∧ Q (.bl (!c)) H1
theorem zbK {op} {t : TE} (h : PE X a t) : PE X (.BoolOp op [a] pos) t := fun pins s σ H Q I hw => BoolOp_one (h pins s σ H Q I hw)
theorem zcG (ha : PE X a ta) (hb : PE X (.BoolOp .And (b :: rest) pos) tb) : PE X (.BoolOp .And (a :: b :: rest) pos) (zmF ta tb) := by
 intro pins s σ H Q I h
 refine BoolOp_and (thn (ha pins s σ H _ I h) fun v s1 ⟨x, H1, I1, r1, q1⟩ => ?_)
 obtain ⟨c, rfl, q1⟩ := q1
 cases r1
 refine wpAny_truthy_bool ?_
 cases c with
 | true => exact hb pins s1 σ H1 Q I1 q1
 | false => exact ⟨.bl false, H1, I1, rfl, q1⟩
theorem zfN (ha : PE X a ta) (hb : PE X (.BoolOp .Or (b :: rest) pos) tb) : PE X (.BoolOp .Or (a :: b :: rest) pos) (tOrV ta tb) := by
 intro pins s σ H Q I h
 refine BoolOp_or (thn (ha pins s σ H _ I h) fun v s1 ⟨x, H1, I1, r1, q1⟩ => ?_)
 obtain ⟨c, rfl, q1⟩ := q1
 cases r1
 refine wpAny_truthy_bool ?_
 cases c with
 | false => exact hb pins s1 σ H1 Q I1 q1
 | true => exact ⟨.bl true, H1, I1, rfl, q1⟩
theorem zk2 (ha : PE X a ta) : PE X (.UnaryOp .Not a pos) (zmA ta) := by
 intro pins s σ H Q I h
 refine UnaryOp_ (thn (ha pins s σ H _ I h) fun v s1 ⟨x, H1, I1, r1, q1⟩ => ?_)
 obtain ⟨c, rfl, q1⟩ := q1
 cases r1
 exact not_of (wpAny_truthy_bool ⟨.bl (!c), H1, I1, rfl, q1⟩)
def tIf (t : TT) (ta tb : TE) : TE := fun σ H Q => t σ H fun c H1 => if c = true then ta σ H1 Q else tb σ H1 Q
theorem zcp {c : Expr} (hc : PT X c tA) (ha : PE X a ta) (hb : PE X b tb) : PE X (.IfExp c a b pos) (tIf tA ta tb) := by
 intro pins s σ H Q I h
 refine wpAny_IfExp (thn (hc pins s σ H _ I h) fun d s1 ⟨H1, I1, q1⟩ => ?_)
 cases d with
 | true => exact ha pins s1 σ H1 Q I1 q1
 | false => exact hb pins s1 σ H1 Q I1 q1
end
def SqL (K : PySem.W.Frag) (H : Hp) (a : Addr) (xs : List V) : Prop :=
 Rd H a (.lst xs) ∨
  ∃ (o : Obj) (its : Array Value) (n : Nat), K.lookup a = some o ∧ o.cls = .type "list" ∧ o.dict = none ∧ o.data = .seq its n ∧ its.size ≤ sizeLine ∧ Vals xs its.toList
def SqT (K : PySem.W.Frag) (H : Hp) (a : Addr) (xs : List V) : Prop :=
 Rd H a (.tup xs) ∨
  ∃ (o : Obj) (its : Array Value) (n : Nat), K.lookup a = some o ∧ o.cls = .type "tuple" ∧ o.data = .seq its n ∧ its.size ≤ sizeLine ∧ Vals xs its.toList
def absV : Value → Option V
 | .none => some .non
 | .bool b => some (.bl b)
 | .int i _ => some (.int i)
 | .str x _ => some (.str x)
 | .bytes b _ => some (.byt b)
 | .float b _ => some (.flt b)
 | .ref a => some (.ref a)
 | .type n => some (.ty n)
 | _ => none
theorem RelV.abs {x : V} {u : Value} (r : RelV x u) : absV u = some x := by
 cases x with
 | non => cases r; rfl
 | bl _ => cases r; rfl
 | int _ => obtain ⟨t, rfl⟩ := r; rfl
 | str _ => obtain ⟨t, rfl⟩ := r; rfl
 | byt _ => obtain ⟨t, rfl⟩ := r; rfl
 | flt _ => obtain ⟨t, rfl⟩ := r; rfl
 | ref _ => cases r; rfl
 | ty _ => cases r; rfl
theorem RelV.inj {x y : V} {u : Value} (r : RelV x u) (q : RelV y u) : x = y := Option.some.inj (r.abs.symm.trans q.abs)
theorem Vals.inj : ∀ {xs ys : List V} {us : List Value}, Vals xs us → Vals ys us → xs = ys
 | _, _, _, .nil, .nil => rfl
 | _, _, _, .cons r t, .cons r' t' => by rw [r.inj r', Vals.inj t t']
section
variable {X : Cx} {pins : List (Addr × Obj)} {σ : St} {H : Hp} {s : Shared} {a : Addr} {xs ys : List V}
theorem SqL.of {K : PySem.W.Frag} (h : H a = some (.lst xs)) : SqL K H a xs := .inl (.inl h)
theorem SqT.of {K : PySem.W.Frag} (h : H a = some (.tup xs)) : SqT K H a xs := .inl (.inl h)
theorem Inv.list (I : Inv X pins σ H s) (h : SqL X.K H a xs) : ∃ its : List Value, Vals xs its ∧ PlainL s.heap a its.toArray ∧ xs.length ≤ sizeLine := by
 rcases h with h | ⟨o, its, n, hk, hc, hd, hs, hz, r⟩
 · obtain ⟨z, its, n, r, e⟩ := h.ok I.hok
   exact ⟨its, r, ⟨_, n, e, rfl, rfl, rfl⟩, z⟩
 · refine ⟨its.toList, r, ⟨o, n, I.kIn a o hk, hc, hd, by simpa using hs⟩, ?_⟩
   have e := r.length
   simp only [Array.length_toList] at e
   omega
theorem Inv.tuple (I : Inv X pins σ H s) (h : SqT X.K H a xs) : ∃ its : List Value, Vals xs its ∧ IsTup s.heap a its.toArray ∧ xs.length ≤ sizeLine := by
 rcases h with h | ⟨o, its, n, hk, hc, hs, hz, r⟩
 · obtain ⟨z, its, r, p⟩ := h.ok I.hok
   exact ⟨its, r, p.tup, z⟩
 · refine ⟨its.toList, r, ⟨o, I.kIn a o hk, hc, n, by simpa using hs⟩, ?_⟩
   have e := r.length
   simp only [Array.length_toList] at e
   omega
theorem Inv.list_inj (I : Inv X pins σ H s) (h : SqL X.K H a xs) (h' : SqL X.K H a ys) : xs = ys := by
 obtain ⟨its, r, ⟨o, n, e, _, _, d⟩, _⟩ := I.list h
 obtain ⟨its', r', ⟨o', n', e', _, _, d'⟩, _⟩ := I.list h'
 rw [e] at e'; cases e'
 rw [d] at d'
 injection d' with d1 _
 have : its = its' := by simpa using congrArg Array.toList d1
 subst this
 exact r.inj r'
theorem Inv.tuple_inj (I : Inv X pins σ H s) (h : SqT X.K H a xs) (h' : SqT X.K H a ys) : xs = ys := by
 obtain ⟨its, r, ⟨o, e, _, n, d⟩, _⟩ := I.tuple h
 obtain ⟨its', r', ⟨o', e', _, n', d'⟩, _⟩ := I.tuple h'
 rw [e] at e'; cases e'
 rw [d] at d'
 injection d' with d1 _
 have : its = its' := by simpa using congrArg Array.toList d1
 subst this
 exact r.inj r'
end
abbrev Cx.wish (X : Cx) (E : Value → Shared → Prop) : Cx := { X with xe := E }
abbrev Cx.nox (X : Cx) : Cx := X.wish fun _ _ => False
theorem Cx.Ok.wish {X : Cx} (ok : X.Ok) (E : Value → Shared → Prop) : (X.wish E).Ok :=
 ⟨ok.mod, ok.kind, ok.glob, ok.blt, ok.above, ok.inj, ok.has, ok.cab, ok.hd, ok.frames, ok.stk, ok.exf, ok.bs, ok.bsz, ok.noex, ok.exfs, ok.funs, ok.frf⟩
theorem Cx.Ok.unwish {X : Cx} {E : Value → Shared → Prop} (ok : (X.wish E).Ok) : X.Ok :=
 ⟨ok.mod, ok.kind, ok.glob, ok.blt, ok.above, ok.inj, ok.has, ok.cab, ok.hd, ok.frames, ok.stk, ok.exf, ok.bs, ok.bsz, ok.noex, ok.exfs, ok.funs, ok.frf⟩
section
variable {X : Cx} {pins : List (Addr × Obj)} {σ : St} {H : Hp} {s : Shared} {E : Value → Shared → Prop}
theorem Inv.wish (I : Inv X pins σ H s) (E : Value → Shared → Prop) : Inv (X.wish E) pins σ H s := ⟨I.ok.wish E, I.os, I.bare, I.base, I.loc, I.cell, I.free, I.freeC, I.pin, I.hok, I.len⟩
theorem Inv.unwish (I : Inv (X.wish E) pins σ H s) : Inv X pins σ H s := ⟨I.ok.unwish, I.os, I.bare, I.base, I.loc, I.cell, I.free, I.freeC, I.pin, I.hok, I.len⟩
theorem SP.unwish {D : Ends} {f : Flow} {s' : Shared} (h : SP (X.wish E) pins D f s') : SP X pins D f s' := by
 cases f with
 | next => obtain ⟨σ', H', I, q⟩ := h; exact ⟨σ', H', I.unwish, q⟩
 | brk => obtain ⟨σ', H', I, q⟩ := h; exact ⟨σ', H', I.unwish, q⟩
 | cont => obtain ⟨σ', H', I, q⟩ := h; exact ⟨σ', H', I.unwish, q⟩
 | ret u => obtain ⟨v, σ', H', I, r, q⟩ := h; exact ⟨v, σ', H', I.unwish, r, q⟩
theorem PSs.nox {st : List Stmt} {t : TS} (h : PSs X.nox st t) : PSs X st t := fun pins s σ H D I hw =>
 wpAny_mono (h pins s σ H D (I.wish _) hw) (fun _ _ q => q.unwish) fun _ _ z => False.elim z
end
section
variable {X : Cx} {st : Stmt} {rest : List Stmt} {t u : TS} {e : Expr} {te : TE} {pos : Pos}
def zmC : TS := fun D σ H => D.nx σ H
def tSeq (t u : TS) : TS := fun D σ H => t { D with nx := u D } σ H
theorem zap : PSs X [] zmC := fun _ _ σ H _ I h => wpAny_execs_nil ⟨σ, H, I, h⟩
theorem zad (h1 : PS X st t) (h2 : PSs X rest u) : PSs X (st :: rest) (tSeq t u) := by
 intro pins s σ H D I h
 refine wpAny_execs_cons (thn (h1 pins s σ H { D with nx := u D } I h) fun f s1 q => ?_)
 cases f with
 | next =>
  obtain ⟨σ', H', I', q⟩ := q
  exact h2 pins s1 σ' H' D I' q
 | ret v => exact q
 | brk => exact q
 | cont => exact q
theorem zag (h1 : PS X st t) : PSs X [st] t := by
 intro pins s σ H D I h
 refine wpAny_execs_cons (thn (h1 pins s σ H D I h) fun f s1 q => ?_)
 cases f with
 | next => exact wpAny_execs_nil q
 | ret v => exact q
 | brk => exact q
 | cont => exact q
theorem Inv.quiet {pins : List (Addr × Obj)} {σ : St} {H : Hp} {s : Shared} (I : Inv X pins σ H s) : interactive X.env = false := by simp [interactive, I.ok.kind]
def zmD (te : TE) : TS := fun D σ H => te σ H fun _ H1 => D.nx σ H1
theorem za2 (he : PE X e te) (hs : swapsWith e none pos.line X.env = pure false := by rfl) : PS X (.Expr e pos) (zmD te) := by
 intro pins s σ H D I h
 exact wpAny_Expr_any (thn (he pins s σ H _ I h) fun v s1 ⟨x, H1, I1, r1, q1⟩ => ⟨σ, H1, I1, q1⟩) I.quiet hs
def tRet (te : TE) : TS := fun D σ H => te σ H D.rt
theorem zal (he : PE X e te) : PS X (.Return (some e) pos) (tRet te) := by
 intro pins s σ H D I h
 exact wpAny_Return_some (thn (he pins s σ H _ I h) fun v s1 ⟨x, H1, I1, r1, q1⟩ => ⟨x, σ, H1, I1, r1, q1⟩)
def tIfS (c : TT) (t u : TS) : TS := fun D σ H => c σ H fun b H1 => if b = true then t D σ H1 else u D σ H1
theorem zaF {c : Expr} {a b : List Stmt} {tc : TT} (hc : PT X c tc) (ha : PSs X a t) (hb : PSs X b u) : PS X (.If c a b pos) (tIfS tc t u) := by
 intro pins s σ H D I h
 refine wpAny_If (thn (hc pins s σ H _ I h) fun d s1 ⟨H1, I1, q1⟩ => ?_)
 cases d with
 | true => exact ha pins s1 σ H1 D I1 q1
 | false => exact hb pins s1 σ H1 D I1 q1
def zlU : TS := fun _ _ _ => False
theorem zhL : PS X st zlU := fun _ _ _ _ _ _ h => h.elim
end
abbrev TG := V → St → Hp → (St → Hp → Prop) → Prop
abbrev TGs := List V → St → Hp → (St → Hp → Prop) → Prop
def PG (X : Cx) (target : Expr) (t : TG) : Prop :=
 ∀ (pins : List (Addr × Obj)) (s : Shared) (σ : St) (H : Hp) (v : V) (u : Value) (Q : St → Hp → Prop), Inv X pins σ H s → RelV v u → t v σ H Q →
  wpAny (model X.prog X.w) X.A (assign target X.env u) (fun _ s' => ∃ σ' H', Inv X pins σ' H' s' ∧ Q σ' H') X.xe s
def PGs (X : Cx) (ts : List Expr) (t : TGs) : Prop :=
 ∀ (pins : List (Addr × Obj)) (s : Shared) (σ : St) (H : Hp) (vs : List V) (us : List Value) (Q : St → Hp → Prop), Inv X pins σ H s → Vals vs us → t vs σ H Q →
  wpAny (model X.prog X.w) X.A (assignInOrder ((assignEach ts X.env).map (·.2)) us) (fun _ s' => ∃ σ' H', Inv X pins σ' H' s' ∧ Q σ' H') X.xe s
abbrev TSet := V → V → V → Hp → (Hp → Prop) → Prop
def PSet (X : Cx) (t : TSet) : Prop :=
 ∀ (pins : List (Addr × Obj)) (s : Shared) (σ : St) (H : Hp) (o i v : V) (ov iv u : Value) (Q : Hp → Prop), Inv X pins σ H s → RelV o ov → RelV i iv → RelV v u → t o i v H Q →
  wpAny (model X.prog X.w) X.A (setItem ov iv u) (fun _ s' => ∃ H', Inv X pins σ H' s' ∧ Q H') X.xe s
section
variable {X : Cx} {pos : Pos}
def zdG (i : Nat) : TG := fun v σ H Q => Q (σ.set i (some v)) H
theorem zai {i : Nat} {x : Str} (hN : X.N.Nodup) (hi : X.N[i]? = some x) (hx : Loc X.env.scope x) (hf : X.fn x = true ∨ X.env.scope.names.lookup x = some .local := by first | exact .inl rfl | exact .inr rfl | assumption) : PG X (.Name x pos) (zdG i) := by
 intro pins s σ H v u Q I r h
 exact wpAny_assign_Name (zhF I hN hi hx r (fun s' I' => ⟨_, H, I', h⟩) hf)
def gNil : TGs := fun vs σ H Q => vs = [] ∧ Q σ H
def zmR (t : TG) (u : TGs) : TGs := fun vs σ H Q => ∃ v r, vs = v :: r ∧ t v σ H fun σ' H' => u r σ' H' Q
theorem zaS : PGs X [] gNil := by
 intro pins s σ H vs us Q I r h
 obtain ⟨e, h⟩ := h
 subst e
 cases r
 exact assignInOrder_nil ⟨σ, H, I, h⟩
theorem zan {e : Expr} {es : List Expr} {t : TG} {u : TGs} (h1 : PG X e t) (h2 : PGs X es u)
 (hs : (assignEach (e :: es) X.env).map (·.2) = assign e X.env :: (assignEach es X.env).map (·.2) := by rfl) : PGs X (e :: es) (zmR t u) := by
 intro pins s σ H vs us Q I r h
 obtain ⟨v, vr, e1, h⟩ := h
 subst e1
 cases r with
 | cons r rr =>
  rw [hs]
  refine assignInOrder_cons (thn (h1 pins s σ H _ _ _ I r h) fun _ s1 ⟨σ1, H1, I1, q1⟩ => ?_)
  exact h2 pins s1 σ1 H1 _ _ Q I1 rr q1
def gTup (K : PySem.W.Frag) (n : Nat) (t : TGs) : TG := fun v σ H Q => ∃ a xs, v = .ref a ∧ SqT K H a xs ∧ xs.length = n ∧ t xs σ H Q
theorem zca {es : List Expr} {k : Nat} {t : TGs} {n : Nat} (hc : X.calm = true) (h : PGs X es t)
 (hn : (assignEach es X.env).length = n := by rfl) (hst : (assignEach es X.env).findIdx? (·.1) = none := by rfl) : PG X (.Tuple es k pos) (gTup X.K n t) := by
 intro pins s σ H v u Q I r hw
 obtain ⟨a, xs, e1, hq, hl, hw⟩ := hw
 subst e1
 cases r
 obtain ⟨its, rv, ht, hz⟩ := I.tuple hq
 refine assign_Tuple_tuple (I.ok.hd hc) ht (by simp [hn, ← hl, rv.length]) hst fun h' hx => ?_
 have I1 : Inv X pins σ H { s with heap := h' } := I.kept (t' := s.toks) fun b o e => hx b o (Nat.ne_of_lt (Heap.lt_size e)) e
 exact h pins _ σ H xs _ Q I1 (by simpa using rv) hw
def gSub (to ti : TE) (t : TSet) : TG := fun v σ H Q => to σ H fun o H1 => ti σ H1 fun i H2 => t o i v H2 fun H3 => Q σ H3
theorem zjk {o i : Expr} {to ti : TE} {t : TSet} (ho : PE X o to) (hi : PE X i ti) (hs : PSet X t)
 (ha : ∀ v, assign (.Subscript o i pos) X.env v = (do
  let ov ← holding [v] (eval o X.env)
  let iv ← holding [v, ov] (eval i X.env)
  standAt pos
  holding [v, ov, iv] (setItem ov iv v)
  release [v, ov, iv] []) := by intro _; rfl) : PG X (.Subscript o i pos) (gSub to ti t) := by
 intro pins s σ H v u Q I r h
 rw [ha]
 refine wpAny_bind (wpAny_holding (thn (ho pins s σ H _ I h) fun ov s1 ⟨x, H1, I1, r1, q1⟩ => ?_))
 refine wpAny_bind (wpAny_holding (thn (hi pins s1 σ H1 _ I1 q1) fun iv s2 ⟨y, H2, I2, r2, q2⟩ => ?_))
 refine wpAny_bind (wpAny_standAt (wpAny_bind (wpAny_holding (thn (hs pins s2 σ H2 x y v ov iv u _ I2 r1 r2 r q2) fun _ s3 ⟨H3, I3, q3⟩ => ?_))))
 exact wpAny_release ⟨σ, H3, I3, q3⟩
def tAsg (te : TE) (g : TG) : TS := fun D σ H => te σ H fun x H1 => g x σ H1 D.nx
theorem zcB {tg e : Expr} {te : TE} {g : TG} (he : PE X e te) (hg : PG X tg g) (hs : swapsWithSole [tg] e pos.line X.env = pure false := by rfl) (hw : swappedStores [tg] e X.env = pure none := by rfl)
 (h1 : (assignEach [tg] X.env).map (·.2) = [assign tg X.env] := by rfl) : PS X (.Assign [tg] e pos) (tAsg te g) := by
 intro pins s σ H D I h
 refine wpAny_Assign_stores (thn (he pins s σ H _ I h) fun v s1 ⟨x, H1, I1, r1, q1⟩ => ?_) hs hw
 rw [h1]
 exact thn (hg pins s1 σ H1 x v _ I1 r1 q1) fun _ s2 q => q
theorem zaw {i : Nat} {x : Str} {e : Expr} {te : TE} {pos' : Pos} (hN : X.N.Nodup) (hi : X.N[i]? = some x) (hx : Loc X.env.scope x) (he : PE X e te) (hs : swapsWith e (some (.Name x pos')) pos.line X.env = pure false := by rfl) (hf : X.fn x = true ∨ X.env.scope.names.lookup x = some .local := by first | exact .inl rfl | exact .inr rfl | assumption) :
 PS X (.Assign [.Name x pos'] e pos) (tAsg te (zdG i)) := by
 intro pins s σ H D I h
 refine wpAny_Assign_Name (thn (he pins s σ H _ I h) fun v s1 ⟨y, H1, I1, r1, q1⟩ => ?_) hs
 exact zhF I1 hN hi hx r1 (fun s2 I2 => ⟨_, H1, I2, q1⟩) hf
end
section
variable {X : Cx} {pos : Pos}
def zkW (c : TT) (tb : TS) : TS := fun D σ H => ∃ W : Nat → St → Hp → Prop, (∃ m, W m σ H) ∧ ∀ m σ H, W m σ H →
 c σ H fun b H1 => if b = true then ∃ N : St → Hp → Prop, (∀ σ' H', N σ' H' → ∃ m', m' < m ∧ W m' σ' H') ∧ tb { D with nx := N, ct := N, bk := D.nx } σ H1 else D.nx σ H1
theorem zkr {c : Expr} {body : List Stmt} {tc : TT} {tb : TS} (hp : PassesOwn (model X.prog X.w) X.A X.env X.xe) (hc : PT X c tc) (hb : PSs X body tb) : PS X (.While c body [] pos) (zkW tc tb) := by
 intro pins s σ H D I h
 obtain ⟨W, ⟨m0, w0⟩, turn⟩ := h
 refine wpAny_While (codeAny_whileLoop (fun n s' => ∃ σ' H', Inv X pins σ' H' s' ∧ W n σ' H') ?_ m0 ⟨σ, H, I, w0⟩)
 rintro n s1 ⟨σ1, H1, I1, w1⟩
 refine wpAny_passesOwn hp (thn (hc pins s1 σ1 H1 _ I1 (turn n σ1 H1 w1)) fun b s2 ⟨H2, I2, q2⟩ => ?_)
 cases b with
 | true =>
  obtain ⟨N, hN, q2⟩ := q2
  rw [if_pos rfl]
  refine wpAny_passesOwn hp (thn (hb pins s2 σ1 H2 _ I2 q2) fun f s3 q3 => ?_)
  cases f with
  | next =>
   obtain ⟨σ3, H3, I3, n3⟩ := q3
   obtain ⟨m', hm, w3⟩ := hN σ3 H3 n3
   exact ⟨m', hm, σ3, H3, I3, w3⟩
  | cont =>
   obtain ⟨σ3, H3, I3, n3⟩ := q3
   obtain ⟨m', hm, w3⟩ := hN σ3 H3 n3
   exact ⟨m', hm, σ3, H3, I3, w3⟩
  | brk => exact q3
  | ret v => exact q3
 | false =>
  rw [if_neg Bool.false_ne_true]
  exact wpAny_execs_nil ⟨σ1, H2, I2, q2⟩
end
structure It where
 go : Nat → Hp → Prop
 yld : Nat → Hp → V → Hp → Prop
 stop : Nat → Hp → Prop
def FpOk (X : Cx) (pins : List (Addr × Obj)) (H : Hp) (b : Addr) : Prop :=
 H b = none ∧ b ≠ X.env.locals ∧ b ∉ X.fs ∧ (b ∈ X.ex ∨ X.s₀.heap.objs.size ≤ b) ∧ (∀ x c, X.env.cells.lookup x = some c → c ≠ b) ∧ ∀ p ∈ X.pn ++ pins, p.1 ≠ b
theorem Inv.fpOk {X : Cx} {pins : List (Addr × Obj)} {σ : St} {H H' : Hp} {s : Shared} {b : Addr} (I : Inv X pins σ H s) (hb : s.heap.objs.size ≤ b) (hn : H' b = none) : FpOk X pins H' b := by
 refine ⟨hn, Nat.ne_of_gt (Nat.lt_of_lt_of_le I.lt hb), I.nofs hb, .inr (Nat.le_trans I.sz hb), fun x c e z => ?_, fun p hp z => ?_⟩
 · obtain ⟨v, q⟩ := I.cell x c e
   exact absurd (Nat.lt_of_lt_of_le q.lt (by rw [z]; exact hb)) (Nat.lt_irrefl _)
 · exact absurd (Nat.lt_of_lt_of_le (Heap.lt_size (I.pin p hp).1) (by rw [z]; exact hb)) (Nat.lt_irrefl _)
structure Turn (P : Program) (w : World) (K : PySem.W.Frag) (tg : Expr) (J : It) (fp : List Addr) (it : Addr) (tn : Nat → Heap → Prop) : Prop where
 mem : it ∈ fp
 obj : ∀ i h, tn i h → ∀ b ∈ fp, ∃ o, h.get? b = some o ∧ ∀ v, o.data ≠ .cell v
 keep : ∀ i h h', tn i h → (∀ b ∈ fp, ∀ o, h.get? b = some o → h'.get? b = some o) → tn i h'
 item : ∀ (X : Cx), X.prog = P → X.w = w → X.K = K → X.calm = true → ∀ (i : Nat) (pins : List (Addr × Obj)) (s : Shared) (σ : St) (H : Hp) (E : Value → Shared → Prop), Inv X pins σ H s → (∀ b ∈ fp, FpOk X pins H b) → tn i s.heap → J.go i H →
  wpAny (model P w) X.A (pyNext (.ref it)) (fun r s1 => ∃ u, r = some u ∧
   wpAny (model P w) X.A (letOwnedTupleGo tg (.ref it) u) (fun _ s2 => ∃ x H', Inv X pins σ H' s2 ∧ RelV x u ∧ J.yld i H x H' ∧ tn (i + 1) s2.heap ∧ ∀ b ∈ fp, H' b = none) E s1) E s
 done : ∀ (X : Cx), X.prog = P → X.w = w → X.K = K → X.calm = true → ∀ (i : Nat) (pins : List (Addr × Obj)) (s : Shared) (σ : St) (H : Hp) (E : Value → Shared → Prop), Inv X pins σ H s → (∀ b ∈ fp, FpOk X pins H b) → tn i s.heap → J.stop i H →
  wpAny (model P w) X.A (pyNext (.ref it)) (fun r s1 => r = none ∧ Inv X pins σ H s1) E s
 self : ∀ (A : Around) (i : Nat) (s : Shared) (Q : Value → Shared → Prop) (E : Value → Shared → Prop), tn i s.heap → Q (.ref it) s → wpAny (model P w) A (pyIter (.ref it)) Q E s
abbrev TI := St → Hp → (It → Hp → Prop) → Prop
def PIE (X : Cx) (pins : List (Addr × Obj)) (σ : St) (tg : Expr) (R : It → Hp → Prop) (itv : Value) (s2 : Shared) : Prop :=
 ∃ (it : Addr) (fp : List Addr) (tn : Nat → Heap → Prop) (J : It) (H' : Hp), itv = .ref it ∧ Inv X pins σ H' s2 ∧ Turn X.prog X.w X.K tg J fp it tn ∧ tn 0 s2.heap ∧ (∀ b ∈ fp, FpOk X pins H' b) ∧ R J H'
def PI (X : Cx) (tg iter : Expr) (wi : TI) : Prop :=
 ∀ (pins : List (Addr × Obj)) (s : Shared) (σ : St) (H : Hp) (R : It → Hp → Prop), Inv X pins σ H s → wi σ H R →
  wpAny (model X.prog X.w) X.A (eval iter X.env) (fun v s1 => wpAny (model X.prog X.w) X.A (pyIter v) (PIE X pins σ tg R) X.xe s1) X.xe s
theorem ziH {M : Model} {A : Around} {E : Value → Shared → Prop} {s : Shared} {tg : Expr} {it : Addr} {u : Value} {o : Obj} {n : String} {vs : Array Value} {Q : Unit → Shared → Prop} (ho : s.heap.get? it = some o) (hc : o.cls = .type n) (hd : o.data = .fields vs)
 (hn : ["enumerate", "zip", "dict_itemiterator", "dict_reverseitemiterator", "odict_iterator", "itertools.zip_longest", "itertools.pairwise"].contains n = false) (hQ : Q () s) : wpAny M A (letOwnedTupleGo tg (.ref it) u) Q E s := by
 unfold letOwnedTupleGo
 cases tg <;> first
  | exact wpAny_pure hQ
  | (cases u <;> first
   | exact wpAny_pure hQ
   | (refine wpAny_bind (wpAny_load ho ?_)
      rw [hc, hd]
      show wpAny M A (if (["enumerate", "zip", "dict_itemiterator", "dict_reverseitemiterator", "odict_iterator", "itertools.zip_longest", "itertools.pairwise"].contains n && vs[0]? == some (rawInt _)) = true then _ else _) Q E s
      rw [if_neg (by intro h; rw [hn, Bool.false_and] at h; cases h)]
      exact wpAny_pure hQ))
def Itl (K : PySem.W.Frag) (a : Addr) : It :=
 ⟨fun i H => ∃ xs x, SqL K H a xs ∧ xs[i]? = some x, fun i H x H' => H' = H ∧ ∀ xs, SqL K H a xs → xs[i]? = some x, fun i H => ∃ xs, SqL K H a xs ∧ xs.length ≤ i⟩
def Itt (K : PySem.W.Frag) (a : Addr) : It :=
 ⟨fun i H => ∃ xs x, SqT K H a xs ∧ xs[i]? = some x, fun i H x H' => H' = H ∧ ∀ xs, SqT K H a xs → xs[i]? = some x, fun i H => ∃ xs, SqT K H a xs ∧ xs.length ≤ i⟩
def Itr (lo : Int) (n : Nat) : It := ⟨fun i _ => i < n, fun i H x H' => H' = H ∧ x = .int (lo + i), fun i _ => n ≤ i⟩
theorem ziN {P : Program} {w : World} {K : PySem.W.Frag} {tg : Expr} (a it : Addr) : Turn P w K tg (Itl K a) [it] it (fun i h => h.IsListIter it a i) where
 mem := by simp
 obj := fun i h st b hb => by
  have e : b = it := by simpa using hb
  subst e
  obtain ⟨o, e, c, d⟩ := st
  exact ⟨o, e, fun v z => by rw [d] at z; cases z⟩
 keep := fun i h h' st k => st.at fun o e => k it (by simp) o e
 item := by
  intro X hP hw hK hc i pins s σ H E I hf st hg
  subst hP hw hK
  obtain ⟨xs, x, hq, hx⟩ := hg
  obtain ⟨its, rv, p, hz⟩ := I.list hq
  obtain ⟨u, hu, ru⟩ := rv.get hx
  obtain ⟨f0, f1, f2, f3, f4, f5⟩ := hf it (by simp)
  refine wpAny_pyNext_list_item st p.isList (x := u) (by simpa using hu) fun h' st' sb => ?_
  have I1 : Inv X pins σ H { s with heap := h' } := I.turned (t' := s.toks) (fun b o hb e => (sb.2 b hb).trans e) f0 f1 f3 f4 f5
  obtain ⟨o, e, c, d⟩ := id st'
  exact ⟨u, rfl, ziH (s := { s with heap := h' }) e c d (by decide) ⟨x, H, I1, ru, ⟨rfl, fun ys hy => by rw [I.list_inj hy hq]; exact hx⟩, st', fun b hb => (hf b hb).1⟩⟩
 done := by
  intro X hP hw hK hc i pins s σ H E I hf st hg
  subst hP hw hK
  obtain ⟨xs, hq, hx⟩ := hg
  obtain ⟨its, rv, p, hz⟩ := I.list hq
  obtain ⟨f0, f1, f2, f3, f4, f5⟩ := hf it (by simp)
  have hl := rv.length
  exact wpAny_pyNext_list_end (I.ok.hd hc) st p.isList (by simp; omega) fun h' eb => ⟨rfl, I.turned (t' := s.toks) (fun b o hb e => eb b o hb e) f0 f1 f3 f4 f5⟩
 self := fun _ _ _ _ _ st h => wpAny_pyIter_listiter st h
theorem zig {P : Program} {w : World} {K : PySem.W.Frag} {tg : Expr} (a it : Addr) : Turn P w K tg (Itt K a) [it] it (fun i h => h.IsTupleIter it a i) where
 mem := by simp
 obj := fun i h st b hb => by
  have e : b = it := by simpa using hb
  subst e
  obtain ⟨o, e, c, d⟩ := st
  exact ⟨o, e, fun v z => by rw [d] at z; cases z⟩
 keep := fun i h h' st k => st.at fun o e => k it (by simp) o e
 item := by
  intro X hP hw hK hc i pins s σ H E I hf st hg
  subst hP hw hK
  obtain ⟨xs, x, hq, hx⟩ := hg
  obtain ⟨its, rv, p, hz⟩ := I.tuple hq
  obtain ⟨u, hu, ru⟩ := rv.get hx
  obtain ⟨f0, f1, f2, f3, f4, f5⟩ := hf it (by simp)
  refine wpAny_pyNext_tuple_item st (show s.heap.IsTuple a its.toArray from p) (x := u) (by simpa using hu) fun h' st' sb => ?_
  have I1 : Inv X pins σ H { s with heap := h' } := I.turned (t' := s.toks) (fun b o hb e => (sb.2 b hb).trans e) f0 f1 f3 f4 f5
  obtain ⟨o, e, c, d⟩ := id st'
  exact ⟨u, rfl, ziH (s := { s with heap := h' }) e c d (by decide) ⟨x, H, I1, ru, ⟨rfl, fun ys hy => by rw [I.tuple_inj hy hq]; exact hx⟩, st', fun b hb => (hf b hb).1⟩⟩
 done := by
  intro X hP hw hK hc i pins s σ H E I hf st hg
  subst hP hw hK
  obtain ⟨xs, hq, hx⟩ := hg
  obtain ⟨its, rv, p, hz⟩ := I.tuple hq
  obtain ⟨f0, f1, f2, f3, f4, f5⟩ := hf it (by simp)
  have hl := rv.length
  exact wpAny_pyNext_tuple_end (I.ok.hd hc) st (show s.heap.IsTuple a its.toArray from p) (by simp; omega) fun h' eb => ⟨rfl, I.turned (t' := s.toks) (fun b o hb e => eb b o hb e) f0 f1 f3 f4 f5⟩
 self := fun _ _ _ _ _ st h => wpAny_pyIter_tupleiter st h
theorem zih {P : Program} {w : World} {K : PySem.W.Frag} {tg : Expr} (it : Addr) (lo : Int) (n : Nat) : Turn P w K tg (Itr lo n) [it] it (fun i h => IsRangeIter h it (lo + (i : Nat) * 1) ((n : Int) - (i : Nat)) 1) where
 mem := by simp
 obj := fun i h st b hb => by
  have e : b = it := by simpa using hb
  subst e
  exact ⟨_, st, fun v z => by
   have z' : Data.fields _ = Data.cell v := z
   cases z'⟩
 keep := fun i h h' st k => k it (by simp) _ st
 item := by
  intro X hP hw hK hc i pins s σ H E I hf st hg
  subst hP hw hK
  obtain ⟨f0, f1, f2, f3, f4, f5⟩ := hf it (by simp)
  have W := Walks.range (prog := X.prog) (w := X.w) (I.ok.hd hc) it lo 1 n
  refine W.item i s _ _ hg st fun v h' tk hv st' kk => ?_
  obtain ⟨t, rfl⟩ := hv
  have I1 : Inv X pins σ H { s with heap := h', toks := tk } := I.turned (fun b o hb e => kk b o (by simpa using hb) e) f0 f1 f3 f4 f5
  refine ⟨_, rfl, ziH (s := { s with heap := h', toks := tk }) (n := "range_iterator") st' rfl rfl (by decide) ⟨.int (lo + i), H, I1, ⟨t, ?_⟩, ⟨rfl, rfl⟩, st', fun b hb => (hf b hb).1⟩⟩
  rw [Int.mul_one]
 done := by
  intro X hP hw hK hc i pins s σ H E I hf st hg
  subst hP hw hK
  obtain ⟨f0, f1, f2, f3, f4, f5⟩ := hf it (by simp)
  exact wpAny_pyNext_range_end (I.ok.hd hc) st (by have : n ≤ i := hg; omega) fun h' eb => ⟨rfl, I.turned (t' := s.toks) (fun b o hb e => eb b o hb e) f0 f1 f3 f4 f5⟩
 self := fun _ _ _ _ _ st h => wpAny_pyIter_rangeiter st h
section
variable {X : Cx} {tg : Expr}
def zmP (K : PySem.W.Frag) (tl : TE) : TI := fun σ H R => tl σ H fun x H1 => ∃ a, x = .ref a ∧ (∃ xs, SqL K H1 a xs) ∧ R (Itl K a) H1
def iTup (K : PySem.W.Frag) (tl : TE) : TI := fun σ H R => tl σ H fun x H1 => ∃ a, x = .ref a ∧ (∃ xs, SqT K H1 a xs) ∧ R (Itt K a) H1
theorem zaR {l : Expr} {tl : TE} (hl : PE X l tl) : PI X tg l (zmP X.K tl) := by
 intro pins s σ H R I h
 refine thn (hl pins s σ H _ I h) fun v s1 ⟨x, H1, I1, r1, q1⟩ => ?_
 obtain ⟨a, e, ⟨xs, hq⟩, q⟩ := q1
 subst e
 cases r1
 obtain ⟨its, rv, p, hz⟩ := I1.list hq
 refine wpAny_pyIter_list p.isList ?_
 refine ⟨s1.heap.objs.size, [s1.heap.objs.size], _, _, H1, rfl, I1.kept (t' := s1.toks) fun b o e => Heap.get?_push_of_some _ e, ziN a _, ⟨_, Heap.get?_push_size _ rfl, rfl, rfl⟩, fun b hb => ?_, q⟩
 have e : b = s1.heap.objs.size := by simpa using hb
 subst e
 exact I1.fpOk (Nat.le_refl _) (I1.hok.fresh (Nat.le_refl _))
theorem zbX {l : Expr} {tl : TE} (hl : PE X l tl) : PI X tg l (iTup X.K tl) := by
 intro pins s σ H R I h
 refine thn (hl pins s σ H _ I h) fun v s1 ⟨x, H1, I1, r1, q1⟩ => ?_
 obtain ⟨a, e, ⟨xs, hq⟩, q⟩ := q1
 subst e
 cases r1
 obtain ⟨its, rv, p, hz⟩ := I1.tuple hq
 refine wpAny_pyIter_tuple (show s1.heap.IsTuple a its.toArray from p) ?_
 refine ⟨s1.heap.objs.size, [s1.heap.objs.size], _, _, H1, rfl, I1.kept (t' := s1.toks) fun b o e => Heap.get?_push_of_some _ e, zig a _, ⟨_, Heap.get?_push_size _ rfl, rfl, rfl⟩, fun b hb => ?_, q⟩
 have e : b = s1.heap.objs.size := by simpa using hb
 subst e
 exact I1.fpOk (Nat.le_refl _) (I1.hok.fresh (Nat.le_refl _))
theorem zkl {pins : List (Addr × Obj)} {σ : St} {H : Hp} {s : Shared} {R : It → Hp → Prop} {E : Value → Shared → Prop} {lo hi : Int} {t u v : Tok} {tk : Nat} (I : Inv X pins σ H s) (h1 : -(2 ^ 62) ≤ lo) (h2 : lo < 2 ^ 62) (h3 : -(2 ^ 62) ≤ hi) (h4 : hi < 2 ^ 62)
 (q : R (Itr lo (hi - lo).toNat) H) : wpAny (model X.prog X.w) X.A (pyIter (.ref s.heap.objs.size)) (PIE X pins σ tg R) E { s with heap := s.heap.push { cls := .type "range", data := .fields #[.int lo t, .int hi u, .int 1 v] }, toks := tk } := by
 refine wpAny_pyIter_range (IsRange.new ..) (small_one h1 h2 h3 h4) ?_
 have I1 : Inv X pins σ H { s with heap := s.heap.push { cls := .type "range", data := .fields #[.int lo t, .int hi u, .int 1 v] }, toks := tk } := I.kept fun b o e => Heap.get?_push_of_some _ e
 refine ⟨(s.heap.push { cls := .type "range", data := .fields #[.int lo t, .int hi u, .int 1 v] }).objs.size, [(s.heap.push { cls := .type "range", data := .fields #[.int lo t, .int hi u, .int 1 v] }).objs.size], _, _, H, rfl,
  I1.kept (t' := tk) fun b o e => Heap.get?_push_of_some _ e, zih _ lo (hi - lo).toNat, ?_, fun b hb => ?_, q⟩
 · have e1 : lo + ((0 : Nat) : Int) * 1 = lo := by simp
   have e2 : (((hi - lo).toNat : Nat) : Int) - ((0 : Nat) : Int) = Builtin.Range.rangeSize lo hi 1 := by rw [rangeSize_one]; split <;> omega
   show IsRangeIter _ _ (lo + ((0 : Nat) : Int) * 1) ((((hi - lo).toNat : Nat) : Int) - ((0 : Nat) : Int)) 1
   rw [e1, e2]
   exact Heap.get?_push_size _ rfl
 · have e : b = (s.heap.push { cls := .type "range", data := .fields #[.int lo t, .int hi u, .int 1 v] }).objs.size := by simpa using hb
   subst e
   exact I1.fpOk (Nat.le_refl _) (I1.hok.fresh (Nat.le_refl _))
def zmO (ta : TA) : TI := fun σ H R => ta σ H fun vs H1 => ∃ j : Int, vs = [.int j] ∧ -(2 ^ 62) ≤ j ∧ j < 2 ^ 62 ∧ R (Itr 0 j.toNat) H1
theorem zcC {a : Expr} {ta : TA} {p pos : Pos} (hg : Gl X "range") (hm : X.mg "range" = none) (ha : PA X [a] ta) (hs : starEach [a] X.env = [(false, eval a X.env)] := by rfl) : PI X tg (.Call (.Name "range" p) [a] [] pos) (zmO ta) := by
 intro pins s σ H R I h
 refine Call_ (zdA I hg hm boot_range (PyProof.Rows.callWith_type1 (thn (ha pos pins s σ H _ I h) fun us s1 ⟨vs, H1, I1, r1, q1⟩ => ?_) hs rfl))
 obtain ⟨j, e, q1, q2, q⟩ := q1
 subst e
 cases r1 with
 | cons r rr =>
  cases rr
  obtain ⟨t, rfl⟩ := r
  exact call_range_1 (zkl I1 (by omega) (by omega) q1 q2 (by simpa using q))
def tFor (wi : TI) (g : TG) (tb : TS) : TS := fun D σ H => wi σ H fun J H1 => ∃ W : Nat → Nat → St → Hp → Prop, (∃ m, W 0 m σ H1) ∧ ∀ i m σ H, W i m σ H →
 (J.stop i H ∧ D.nx σ H) ∨ (J.go i H ∧ ∃ N : St → Hp → Prop, (∀ σ' H', N σ' H' → ∃ m', m' < m ∧ W (i + 1) m' σ' H') ∧ ∀ x H', J.yld i H x H' → g x σ H' fun σ2 H2 => tb { D with nx := N, ct := N, bk := D.nx } σ2 H2)
def zex (fp : List Addr) (h : Heap) : List (Addr × Obj) := fp.filterMap fun b => (h.get? b).map fun o => (b, o)
theorem zbT {fp : List Addr} {h : Heap} {b : Addr} {o : Obj} (hb : b ∈ fp) (e : h.get? b = some o) : (b, o) ∈ zex fp h := List.mem_filterMap.mpr ⟨b, hb, by rw [e]; rfl⟩
theorem zjt {fp : List Addr} {h : Heap} {p : Addr × Obj} (hp : p ∈ zex fp h) : p.1 ∈ fp ∧ h.get? p.1 = some p.2 := by
 obtain ⟨b, hb, e⟩ := List.mem_filterMap.mp hp
 cases q : h.get? b with
 | none => rw [q] at e; cases e
 | some o =>
  rw [q] at e
  have e' : (b, o) = p := Option.some.inj e
  subst e'
  exact ⟨hb, q⟩
theorem Inv.pinned {pins : List (Addr × Obj)} {σ : St} {H : Hp} {s : Shared} {fp : List Addr} (I : Inv X pins σ H s) (hf : ∀ b ∈ fp, FpOk X pins H b) (ho : ∀ b ∈ fp, ∃ o, s.heap.get? b = some o ∧ ∀ v, o.data ≠ .cell v) : Inv X (pins ++ zex fp s.heap) σ H s :=
 I.pins_of fun p hp => (List.mem_append.mp hp).elim (fun z => I.pin p (List.mem_append_right _ z)) fun z => by
  obtain ⟨hb, e⟩ := zjt z
  obtain ⟨f0, f1, f2, _⟩ := hf p.1 hb
  obtain ⟨o, e', d⟩ := ho p.1 hb
  rw [e] at e'; cases e'
  exact ⟨e, f0, f1, f2, d⟩
theorem Inv.unpinned {pins pl : List (Addr × Obj)} {σ : St} {H : Hp} {s : Shared} (I : Inv X (pins ++ pl) σ H s) : Inv X pins σ H s := I.pins_of fun p hp => I.pin p (List.mem_append_right _ (List.mem_append_left _ hp))
theorem zbl {iter : Expr} {body : List Stmt} {wi : TI} {g : TG} {tb : TS} {pos : Pos} (hp : PassesOwn (model X.prog X.w) X.A X.env X.xe) (hc : X.calm = true) (hi : PI X tg iter wi) (hg : PG X tg g) (hb : PSs X body tb)
 (hs : ∀ x, foldedSetIterable iter X.env x = pure x := by intro _; rfl) : PS X (.For tg iter body [] pos) (tFor wi g tb) := by
 intro pins s σ H D I h
 refine wpAny_For (thn (hi pins s σ H _ I h) fun v s1 h1 => thn h1 fun itv s2 h2 => ?_) hs
 obtain ⟨it, fp, tn, J, H2, e, I2, T, st2, f2, W, ⟨m0, w0⟩, turn⟩ := h2
 subst e
 have stat : ∀ {H' : Hp}, (∀ b ∈ fp, H' b = none) → ∀ b ∈ fp, FpOk X pins H' b := fun hn b hb => ⟨hn b hb, (f2 b hb).2⟩
 refine codeAny_forLoop_any (fun n s' => ∃ i σ' H', Inv X pins σ' H' s' ∧ tn i s'.heap ∧ (∀ b ∈ fp, H' b = none) ∧ W i n σ' H') ?_ m0 ⟨0, σ, H2, I2, st2, fun b hb => (f2 b hb).1, w0⟩
 rintro n s3 ⟨i, σ3, H3, I3, st3, fr3, w3⟩
 rcases turn i n σ3 H3 w3 with ⟨stop, qn⟩ | ⟨go, N, hN, step⟩
 · refine wpAny_passesOwn hp (thn (T.done X rfl rfl rfl hc i pins s3 σ3 H3 X.xe I3 (stat fr3) st3 stop) fun r s4 ⟨hr, I4⟩ => ?_)
   subst hr
   exact wpAny_execs_nil ⟨σ3, H3, I4, qn⟩
 · refine wpAny_passesOwn hp (thn (T.item X rfl rfl rfl hc i pins s3 σ3 H3 X.xe I3 (stat fr3) st3 go) fun r s4 ⟨u, hr, h4⟩ => ?_)
   subst hr
   refine wpAny_passesOwn hp (thn h4 fun _ s5 ⟨x, H5, I5, r5, y5, st5, fr5⟩ => ?_)
   have I5' := I5.pinned (stat fr5) (T.obj _ _ st5)
   refine wpAny_passesOwn hp (thn (hg _ s5 σ3 H5 x u _ I5' r5 (step x H5 y5)) fun _ s6 ⟨σ6, H6, I6, q6⟩ => ?_)
   refine wpAny_passesOwn hp (thn (hb _ s6 σ6 H6 _ I6 q6) fun f s7 q7 => ?_)
   have again : ∀ {σ7 : St} {H7 : Hp}, Inv X (pins ++ zex fp s5.heap) σ7 H7 s7 → N σ7 H7 → ∃ m, m < n ∧ ∃ i σ' H', Inv X pins σ' H' s7 ∧ tn i s7.heap ∧ (∀ b ∈ fp, H' b = none) ∧ W i m σ' H' := fun {σ7 H7} I7 n7 => by
    obtain ⟨m', hm, w7⟩ := hN σ7 H7 n7
    refine ⟨m', hm, i + 1, σ7, H7, I7.unpinned, T.keep _ _ _ st5 fun b hb o e => (I7.pin (b, o) (List.mem_append_right _ (List.mem_append_right _ (zbT hb e)))).1, fun b hb => ?_, w7⟩
    obtain ⟨o, e, d⟩ := T.obj _ _ st5 b hb
    exact (I7.pin (b, o) (List.mem_append_right _ (List.mem_append_right _ (zbT hb e)))).2.1
   cases f with
   | next => obtain ⟨σ7, H7, I7, n7⟩ := q7; exact again I7 n7
   | cont => obtain ⟨σ7, H7, I7, n7⟩ := q7; exact again I7 n7
   | brk => obtain ⟨σ7, H7, I7, q7⟩ := q7; exact ⟨σ7, H7, I7.unpinned, q7⟩
   | ret v => obtain ⟨x7, σ7, H7, I7, r7, q7⟩ := q7; exact ⟨x7, σ7, H7, I7.unpinned, r7, q7⟩
end
theorem zbz {K : PySem.W.Frag} {a : Addr} {xs : List V} {g : TG} {tb : TS} {D : Ends} {σ : St} {H : Hp} (Pv : Nat → St → Hp → Prop) (h0 : Pv 0 σ H) (hl : ∀ i σ H, i ≤ xs.length → Pv i σ H → SqL K H a xs)
 (hs : ∀ i x σ H, xs[i]? = some x → Pv i σ H → g x σ H fun σ2 H2 => tb { D with nx := Pv (i + 1), ct := Pv (i + 1), bk := D.nx } σ2 H2) (hd : ∀ σ H, Pv xs.length σ H → D.nx σ H) :
 ∃ W : Nat → Nat → St → Hp → Prop, (∃ m, W 0 m σ H) ∧ ∀ i m σ H, W i m σ H →
  ((Itl K a).stop i H ∧ D.nx σ H) ∨ ((Itl K a).go i H ∧ ∃ N : St → Hp → Prop, (∀ σ' H', N σ' H' → ∃ m', m' < m ∧ W (i + 1) m' σ' H') ∧ ∀ x H', (Itl K a).yld i H x H' → g x σ H' fun σ2 H2 => tb { D with nx := N, ct := N, bk := D.nx } σ2 H2) := by
 refine ⟨fun i m σ H => m = xs.length - i ∧ i ≤ xs.length ∧ Pv i σ H, ⟨xs.length, by simp, Nat.zero_le _, h0⟩, ?_⟩
 rintro i m σ H ⟨rfl, hi, p⟩
 have q := hl i σ H hi p
 by_cases hlt : i < xs.length
 · refine .inr ⟨⟨xs, xs[i], q, by simp [hlt]⟩, Pv (i + 1), fun σ' H' p' => ⟨xs.length - (i + 1), by omega, rfl, hlt, p'⟩, fun x H' y => ?_⟩
   obtain ⟨e, y⟩ := y
   subst e
   exact hs i x σ _ (y xs q) p
 · have e : i = xs.length := by omega
   subst e
   exact .inl ⟨⟨xs, q, Nat.le_refl _⟩, hd σ H p⟩
theorem zc3 {K : PySem.W.Frag} {a : Addr} {xs : List V} {g : TG} {tb : TS} {D : Ends} {σ : St} {H : Hp} (Pv : Nat → St → Hp → Prop) (h0 : Pv 0 σ H) (hl : ∀ i σ H, i ≤ xs.length → Pv i σ H → SqT K H a xs)
 (hs : ∀ i x σ H, xs[i]? = some x → Pv i σ H → g x σ H fun σ2 H2 => tb { D with nx := Pv (i + 1), ct := Pv (i + 1), bk := D.nx } σ2 H2) (hd : ∀ σ H, Pv xs.length σ H → D.nx σ H) :
 ∃ W : Nat → Nat → St → Hp → Prop, (∃ m, W 0 m σ H) ∧ ∀ i m σ H, W i m σ H →
  ((Itt K a).stop i H ∧ D.nx σ H) ∨ ((Itt K a).go i H ∧ ∃ N : St → Hp → Prop, (∀ σ' H', N σ' H' → ∃ m', m' < m ∧ W (i + 1) m' σ' H') ∧ ∀ x H', (Itt K a).yld i H x H' → g x σ H' fun σ2 H2 => tb { D with nx := N, ct := N, bk := D.nx } σ2 H2) := by
 refine ⟨fun i m σ H => m = xs.length - i ∧ i ≤ xs.length ∧ Pv i σ H, ⟨xs.length, by simp, Nat.zero_le _, h0⟩, ?_⟩
 rintro i m σ H ⟨rfl, hi, p⟩
 have q := hl i σ H hi p
 by_cases hlt : i < xs.length
 · refine .inr ⟨⟨xs, xs[i], q, by simp [hlt]⟩, Pv (i + 1), fun σ' H' p' => ⟨xs.length - (i + 1), by omega, rfl, hlt, p'⟩, fun x H' y => ?_⟩
   obtain ⟨e, y⟩ := y
   subst e
   exact hs i x σ _ (y xs q) p
 · have e : i = xs.length := by omega
   subst e
   exact .inl ⟨⟨xs, q, Nat.le_refl _⟩, hd σ H p⟩
theorem zga {lo : Int} {n : Nat} {g : TG} {tb : TS} {D : Ends} {σ : St} {H : Hp} (Pv : Nat → St → Hp → Prop) (h0 : Pv 0 σ H)
 (hs : ∀ i σ H, i < n → Pv i σ H → g (.int (lo + i)) σ H fun σ2 H2 => tb { D with nx := Pv (i + 1), ct := Pv (i + 1), bk := D.nx } σ2 H2) (hd : ∀ σ H, Pv n σ H → D.nx σ H) :
 ∃ W : Nat → Nat → St → Hp → Prop, (∃ m, W 0 m σ H) ∧ ∀ i m σ H, W i m σ H →
  ((Itr lo n).stop i H ∧ D.nx σ H) ∨ ((Itr lo n).go i H ∧ ∃ N : St → Hp → Prop, (∀ σ' H', N σ' H' → ∃ m', m' < m ∧ W (i + 1) m' σ' H') ∧ ∀ x H', (Itr lo n).yld i H x H' → g x σ H' fun σ2 H2 => tb { D with nx := N, ct := N, bk := D.nx } σ2 H2) := by
 refine ⟨fun i m σ H => m = n - i ∧ i ≤ n ∧ Pv i σ H, ⟨n, by simp, Nat.zero_le _, h0⟩, ?_⟩
 rintro i m σ H ⟨rfl, hi, p⟩
 by_cases hlt : i < n
 · refine .inr ⟨hlt, Pv (i + 1), fun σ' H' p' => ⟨n - (i + 1), by omega, rfl, hlt, p'⟩, fun x H' y => ?_⟩
   obtain ⟨e, y⟩ := y
   subst e y
   exact hs i σ _ hlt p
 · have e : i = n := by omega
   subst e
   exact .inl ⟨Nat.le_refl _, hd σ H p⟩
abbrev R2 := V → V → Hp → VK → Prop
def OpR (X : Cx) (f : Value → Value → Sem Value) (r : R2) : Prop :=
 ∀ (pins : List (Addr × Obj)) (s : Shared) (σ : St) (H : Hp) (x y : V) (v u : Value) (Q : VK), Inv X pins σ H s → RelV x v → RelV y u → r x y H Q →
  wpAny (model X.prog X.w) X.A (f v u) (EP X pins σ Q) X.xe s
def UnR (X : Cx) (f : Value → Sem Value) (r : V → Hp → VK → Prop) : Prop :=
 ∀ (pins : List (Addr × Obj)) (s : Shared) (σ : St) (H : Hp) (x : V) (v : Value) (Q : VK), Inv X pins σ H s → RelV x v → r x H Q →
  wpAny (model X.prog X.w) X.A (f v) (EP X pins σ Q) X.xe s
def zdj (X : Cx) (f : Value) (r : List V → Hp → VK → Prop) : Prop :=
 ∀ (pins : List (Addr × Obj)) (s : Shared) (σ : St) (H : Hp) (xs : List V) (us : List Value) (Q : VK), Inv X pins σ H s → Vals xs us → r xs H Q →
  wpAny (model X.prog X.w) X.A (call f us) (EP X pins σ Q) X.xe s
def tOp (r : R2) (ta tb : TE) : TE := fun σ H Q => ta σ H fun x H1 => tb σ H1 fun y H2 => r x y H2 Q
def tUn (r : V → Hp → VK → Prop) (ta : TE) : TE := fun σ H Q => ta σ H fun x H1 => r x H1 Q
def rI (C : Int → Int → Prop) (g : Int → Int → V) : R2 := fun x y H Q => ∃ i j, x = .int i ∧ y = .int j ∧ C i j ∧ Q (g i j) H
def rI0 (g : Int → Int → V) : R2 := fun x y H Q => ∃ i j, x = .int i ∧ y = .int j ∧ Q (g i j) H
def rU (g : Int → V) : V → Hp → VK → Prop := fun x H Q => ∃ i, x = .int i ∧ Q (g i) H
section
variable {X : Cx} {a b c : Expr} {ta tb tc : TE} {pos : Pos}
theorem binT (ha : PE X a ta) (hb : PE X b tb) {pins : List (Addr × Obj)} {s : Shared} {σ : St} {H : Hp} {R : V → V → Hp → Prop} (I : Inv X pins σ H s)
 (h : ta σ H fun x H1 => tb σ H1 fun y H2 => R x y H2) {Q : Value → Shared → Prop} {f : Value → Value → Sem Value}
 (hf : ∀ v u s2 x y H2, Inv X pins σ H2 s2 → RelV x v → RelV y u → R x y H2 → wpAny (model X.prog X.w) X.A (f v u) Q X.xe s2) :
 wpAny (model X.prog X.w) X.A (eval a X.env) (fun v s₁ => wpAny (model X.prog X.w) X.A (eval b X.env) (fun u s₂ => wpAny (model X.prog X.w) X.A (f v u) Q X.xe s₂) X.xe s₁) X.xe s := by
 refine thn (ha pins s σ H _ I h) fun v s1 ⟨x, H1, I1, r1, q1⟩ => ?_
 refine thn (hb pins s1 σ H1 _ I1 q1) fun u s2 ⟨y, H2, I2, r2, q2⟩ => ?_
 exact hf v u s2 x y H2 I2 r1 r2 q2
theorem zaA {op : Operator} {r : R2} (ho : OpR X (binaryOp op) r) (ha : PE X a ta) (hb : PE X b tb) : PE X (.BinOp a op b pos) (tOp r ta tb) := by
 intro pins s σ H Q I h
 exact wpAny_BinOp (binT ha hb I h fun v u s2 x y H2 I2 rx ry q => ho pins s2 σ H2 x y v u Q I2 rx ry q)
theorem zmJ {op : UnaryOp} {r : V → Hp → VK → Prop} (ho : UnR X (unaryOp op) r) (ha : PE X a ta) : PE X (.UnaryOp op a pos) (tUn r ta) := by
 intro pins s σ H Q I h
 exact UnaryOp_ (thn (ha pins s σ H _ I h) fun v s1 ⟨x, H1, I1, r1, q1⟩ => ho pins s1 σ H1 x v Q I1 r1 q1)
theorem opI {f : Value → Value → Sem Value} {C : Int → Int → Prop} {g : Int → Int → Int}
 (rule : ∀ (i j : Int) (t u : Tok) (s : Shared) (Q : Value → Shared → Prop) (E : Value → Shared → Prop), C i j → Q (.int (g i j) s.toks) { s with toks := s.toks + 1 } → wpAny (model X.prog X.w) X.A (f (.int i t) (.int j u)) Q E s) :
 OpR X f (rI C fun i j => .int (g i j)) := by
 intro pins s σ H x y v u Q I rx ry h
 obtain ⟨i, j, rfl, rfl, hc, q⟩ := h
 obtain ⟨t, rfl⟩ := rx
 obtain ⟨t', rfl⟩ := ry
 exact rule i j t t' s _ _ hc ⟨.int (g i j), H, I.tok _, ⟨_, rfl⟩, q⟩
theorem opI0 {f : Value → Value → Sem Value} {g : Int → Int → Int}
 (rule : ∀ (i j : Int) (t u : Tok) (s : Shared) (Q : Value → Shared → Prop) (E : Value → Shared → Prop), Q (.int (g i j) s.toks) { s with toks := s.toks + 1 } → wpAny (model X.prog X.w) X.A (f (.int i t) (.int j u)) Q E s) :
 OpR X f (rI0 fun i j => .int (g i j)) := by
 intro pins s σ H x y v u Q I rx ry h
 obtain ⟨i, j, rfl, rfl, q⟩ := h
 obtain ⟨t, rfl⟩ := rx
 obtain ⟨t', rfl⟩ := ry
 exact rule i j t t' s _ _ ⟨.int (g i j), H, I.tok _, ⟨_, rfl⟩, q⟩
theorem opB0 {f : Value → Value → Sem Value} {g : Int → Int → Bool}
 (rule : ∀ (i j : Int) (t u : Tok) (s : Shared) (Q : Value → Shared → Prop) (E : Value → Shared → Prop), Q (.bool (g i j)) s → wpAny (model X.prog X.w) X.A (f (.int i t) (.int j u)) Q E s) :
 OpR X f (rI0 fun i j => .bl (g i j)) := by
 intro pins s σ H x y v u Q I rx ry h
 obtain ⟨i, j, rfl, rfl, q⟩ := h
 obtain ⟨t, rfl⟩ := rx
 obtain ⟨t', rfl⟩ := ry
 exact rule i j t t' s _ _ ⟨.bl (g i j), H, I, rfl, q⟩
def CMul (i j : Int) : Prop := (-(2 ^ 64) < i ∧ i < 2 ^ 64) ∨ (-(2 ^ 64) < j ∧ j < 2 ^ 64)
theorem CMul.ok {i j : Int} (h : CMul i j) : IntMulOk i j := by
 rcases h with ⟨h1, h2⟩ | ⟨h1, h2⟩
 · exact .of_left (intBits_le_64 h1 h2)
 · exact .of_right (intBits_le_64 h1 h2)
theorem zbM : OpR X (binaryOp .Add) (rI0 fun i j => .int (i + j)) := opI0 fun _ _ _ _ _ _ _ q => add_int q
theorem zch : OpR X (binaryOp .Sub) (rI0 fun i j => .int (i - j)) := opI0 fun _ _ _ _ _ _ _ q => sub_int q
theorem zez : OpR X (binaryOp .Mult) (rI CMul fun i j => .int (i * j)) := opI fun _ _ _ _ _ _ _ hc q => mul_int q hc.ok
theorem zeA : OpR X (binaryOp .Mod) (rI (fun _ j => 0 < j) fun i j => .int (i % j)) := opI fun i j _ _ _ _ _ hc q => by
 have h1 : (0 : Int) < j := hc
 exact mod_int' (by omega) (by rw [Int.fmod_eq_emod_of_nonneg i (by omega)]; exact q)
theorem unI {f : Value → Sem Value} {g : Int → Int}
 (rule : ∀ (i : Int) (t : Tok) (s : Shared) (Q : Value → Shared → Prop) (E : Value → Shared → Prop), Q (.int (g i) s.toks) { s with toks := s.toks + 1 } → wpAny (model X.prog X.w) X.A (f (.int i t)) Q E s) :
 UnR X f (rU fun i => .int (g i)) := by
 intro pins s σ H x v Q I rx h
 obtain ⟨i, rfl, q⟩ := h
 obtain ⟨t, rfl⟩ := rx
 exact rule i t s _ _ ⟨.int (g i), H, I.tok _, ⟨_, rfl⟩, q⟩
theorem zlP : UnR X (unaryOp .USub) (rU fun i => .int (-i)) := unI fun _ _ _ _ _ q => neg_int q
end
def scal : V → V → Bool
 | .non, .non => true | .non, .int _ => true | .int _, .non => true | .non, .bl _ => true | .bl _, .non => true | .non, .str _ => true | .str _, .non => true
 | .int _, .int _ => true | .bl _, .bl _ => true | .str _, .str _ => true | .byt _, .byt _ => true
 | .int _, .str _ => true | .str _, .int _ => true | .bl _, .str _ => true | .str _, .bl _ => true
 | _, _ => false
def rEq : R2 := fun x y H Q => scal x y = true ∧ Q (.bl (decide (x = y))) H
def rNe : R2 := fun x y H Q => scal x y = true ∧ Q (.bl (!decide (x = y))) H
theorem zj1 {i j : Int} : decide (V.int i = V.int j) = (i == j) := by
 rw [Bool.eq_iff_iff]
 simp
theorem zk7 {i j : Bool} : decide (V.bl i = V.bl j) = (i == j) := by
 rw [Bool.eq_iff_iff]
 simp
theorem zj0 {i j : Str} : decide (V.str i = V.str j) = (i == j) := by
 rw [Bool.eq_iff_iff]
 simp
theorem zj2 {i j : Array UInt8} : decide (V.byt i = V.byt j) = (i.toList == j.toList) := by
 rw [Bool.eq_iff_iff]
 cases i
 cases j
 simp
section
variable {X : Cx} {a b c : Expr} {ta tb tc : TE} {pos : Pos}
theorem zaH {pins : List (Addr × Obj)} {σ : St} {H : Hp} {s : Shared} {Q : VK} {k k' : Bool} (I : Inv X pins σ H s) (q : Q (.bl k) H) (e : k = k') : EP X pins σ Q (.bool k') s := by
 subst e
 exact ⟨.bl k, H, I, rfl, q⟩
theorem zb0 : OpR X (compareOp .Eq) rEq := by
 intro pins s σ H x y v u Q I rx ry h
 obtain ⟨hs, q⟩ := h
 cases x with
 | non =>
  cases rx
  cases y with
  | non => cases ry; exact PySem.EqNone.eq_none_none (zaH I q (by simp))
  | bl j => cases ry; exact PySem.EqNone.eq_none_bool (zaH I q (by simp))
  | int j => obtain ⟨t', rfl⟩ := ry; exact PySem.EqNone.eq_none_int (zaH I q (by simp))
  | str j => obtain ⟨t', rfl⟩ := ry; exact PySem.EqNone.eq_none_str (zaH I q (by simp))
  | _ => exact absurd (show false = true from hs) Bool.false_ne_true
 | bl i =>
  cases rx
  cases y with
  | non => cases ry; exact PySem.EqNone.eq_bool_none (zaH I q (by simp))
  | bl j => cases ry; exact eq_bool (zaH I q zk7)
  | str j => obtain ⟨t', rfl⟩ := ry; exact PySem.EqMixed.eq_bool_str (zaH I q (by simp))
  | _ => exact absurd (show false = true from hs) Bool.false_ne_true
 | int i =>
  obtain ⟨t, rfl⟩ := rx
  cases y with
  | non => cases ry; exact PySem.EqNone.eq_int_none (zaH I q (by simp))
  | int j => obtain ⟨t', rfl⟩ := ry; exact eq_int (zaH I q zj1)
  | str j => obtain ⟨t', rfl⟩ := ry; exact PySem.EqMixed.eq_int_str (zaH I q (by simp))
  | _ => exact absurd (show false = true from hs) Bool.false_ne_true
 | str i =>
  obtain ⟨t, rfl⟩ := rx
  cases y with
  | non => cases ry; exact PySem.EqNone.eq_str_none (zaH I q (by simp))
  | bl j => cases ry; exact PySem.EqMixed.eq_str_bool (zaH I q (by simp))
  | int j => obtain ⟨t', rfl⟩ := ry; exact PySem.EqMixed.eq_str_int (zaH I q (by simp))
  | str j => obtain ⟨t', rfl⟩ := ry; exact eq_str (zaH I q zj0)
  | _ => exact absurd (show false = true from hs) Bool.false_ne_true
 | byt i =>
  obtain ⟨t, rfl⟩ := rx
  cases y with
  | byt j => obtain ⟨t', rfl⟩ := ry; exact PySem.W.eq_bytes (zaH I q zj2)
  | _ => exact absurd (show false = true from hs) Bool.false_ne_true
 | _ => cases y <;> exact absurd (show false = true from hs) Bool.false_ne_true
theorem zir : OpR X (compareOp .NotEq) rNe := by
 intro pins s σ H x y v u Q I rx ry h
 obtain ⟨hs, q⟩ := h
 cases x with
 | non =>
  cases rx
  cases y with
  | non => cases ry; exact PySem.EqNone.ne_none_none (zaH I q (by simp))
  | bl j => cases ry; exact PySem.EqNone.ne_none_bool (zaH I q (by simp))
  | int j => obtain ⟨t', rfl⟩ := ry; exact PySem.EqNone.ne_none_int (zaH I q (by simp))
  | str j => obtain ⟨t', rfl⟩ := ry; exact PySem.EqNone.ne_none_str (zaH I q (by simp))
  | _ => exact absurd (show false = true from hs) Bool.false_ne_true
 | bl i =>
  cases rx
  cases y with
  | non => cases ry; exact PySem.EqNone.ne_bool_none (zaH I q (by simp))
  | bl j => cases ry; exact ne_bool (zaH I q (congrArg not zk7))
  | str j => obtain ⟨t', rfl⟩ := ry; exact PySem.EqMixed.ne_bool_str (zaH I q (by simp))
  | _ => exact absurd (show false = true from hs) Bool.false_ne_true
 | int i =>
  obtain ⟨t, rfl⟩ := rx
  cases y with
  | non => cases ry; exact PySem.EqNone.ne_int_none (zaH I q (by simp))
  | int j => obtain ⟨t', rfl⟩ := ry; exact ne_int (zaH I q (congrArg not zj1))
  | str j => obtain ⟨t', rfl⟩ := ry; exact PySem.EqMixed.ne_int_str (zaH I q (by simp))
  | _ => exact absurd (show false = true from hs) Bool.false_ne_true
 | str i =>
  obtain ⟨t, rfl⟩ := rx
  cases y with
  | non => cases ry; exact PySem.EqNone.ne_str_none (zaH I q (by simp))
  | bl j => cases ry; exact PySem.EqMixed.ne_str_bool (zaH I q (by simp))
  | int j => obtain ⟨t', rfl⟩ := ry; exact PySem.EqMixed.ne_str_int (zaH I q (by simp))
  | str j => obtain ⟨t', rfl⟩ := ry; exact ne_str (zaH I q (congrArg not zj0))
  | _ => exact absurd (show false = true from hs) Bool.false_ne_true
 | byt i =>
  obtain ⟨t, rfl⟩ := rx
  cases y with
  | byt j => obtain ⟨t', rfl⟩ := ry; exact PySem.W.ne_bytes (zaH I q (congrArg not zj2))
  | _ => exact absurd (show false = true from hs) Bool.false_ne_true
 | _ => cases y <;> exact absurd (show false = true from hs) Bool.false_ne_true
theorem zjn : OpR X (compareOp .Lt) (rI0 fun i j => .bl (decide (i < j))) := opB0 fun _ _ _ _ _ _ _ q => lt_int q
theorem zg0 : OpR X (compareOp .LtE) (rI0 fun i j => .bl (decide (i ≤ j))) := opB0 fun _ _ _ _ _ _ _ q => le_int q
theorem zis : OpR X (compareOp .Gt) (rI0 fun i j => .bl (decide (j < i))) := opB0 fun _ _ _ _ _ _ _ q => gt_int q
theorem zmL : OpR X (compareOp .GtE) (rI0 fun i j => .bl (decide (j ≤ i))) := opB0 fun _ _ _ _ _ _ _ q => ge_int q
theorem zfQ : OpR X (compareOp .Lt) (fun x y H Q => ∃ i j, x = .str i ∧ y = .str j ∧ Q (.bl (decide (i.cps.toList < j.cps.toList))) H) := by
 intro pins s σ H x y v u Q I rx ry h
 obtain ⟨i, j, rfl, rfl, q⟩ := h
 obtain ⟨t, rfl⟩ := rx
 obtain ⟨t', rfl⟩ := ry
 exact lt_str (zaH I q rfl)
theorem zau (b : Expr) {op : CmpOp} (h : op ≠ .In := by decide) (h2 : op ≠ .NotIn := by decide) : behindInMarks op b = false := by
 have e1 : (op == CmpOp.In) = false := by cases op <;> first | rfl | exact absurd rfl h
 have e2 : (op == CmpOp.NotIn) = false := by cases op <;> first | rfl | exact absurd rfl h2
 cases b <;> simp [behindInMarks, e1, e2]
theorem zbq {op : CmpOp} {r : R2} (ho : OpR X (compareOp op) r) (ha : PE X a ta) (hb : PE X b tb) (hm : behindInMarks op b = false) : PE X (.Compare a [op] [b] pos) (tOp r ta tb) := by
 intro pins s σ H Q I h
 exact wpAny_Compare1 (binT ha hb I h fun v u s2 x y H2 I2 rx ry q => ho pins s2 σ H2 x y v u Q I2 rx ry q) hm
def zlS (t : TE) : TT := fun σ H Q => t σ H fun x H' => ∃ k, x = .bl k ∧ Q k H'
theorem zas {op : CmpOp} {r : R2} (ho : OpR X (compareOp op) r) (ha : PE X a ta) (hb : PE X b tb) (hm : behindInMarks op b = false) : PT X (.Compare a [op] [b] pos) (zlS (tOp r ta tb)) := by
 intro pins s σ H Q I h
 refine wpAny_isTrue_Compare1 (thn (ha pins s σ H _ I h) fun v s1 ⟨x, H1, I1, r1, q1⟩ => thn (hb pins s1 σ H1 _ I1 q1) fun u s2 ⟨y, H2, I2, r2, q2⟩ =>
  thn (ho pins s2 σ H2 x y v u _ I2 r1 r2 q2) fun c s3 ⟨z, H3, I3, r3, k, e, q3⟩ => ?_) hm
 subst e
 cases r3
 exact wpAny_truthy_bool ⟨H3, I3, q3⟩
def zkX (r r' : R2) (ta tb tc : TE) : TE := fun σ H Q => ta σ H fun x H1 => tb σ H1 fun y H2 => r x y H2 fun z H3 => ∃ k, z = .bl k ∧
 (if k = true then tc σ H3 fun w' H4 => r' y w' H4 Q else Q (.bl false) H3)
theorem zku {op op' : CmpOp} {r r' : R2} (ho : OpR X (compareOp op) r) (ho' : OpR X (compareOp op') r') (ha : PE X a ta) (hb : PE X b tb) (hc : PE X c tc)
 (hm : lastMarks [op, op'] [b, c] = false := by with_unfolding_all rfl) : PE X (.Compare a [op, op'] [b, c] pos) (zkX r r' ta tb tc) := by
 intro pins s σ H Q I h
 refine Compare_chain (thn (ha pins s σ H _ I h) fun v s1 ⟨x, H1, I1, r1, q1⟩ => chain_link (thn (hb pins s1 σ H1 _ I1 q1) fun u s2 ⟨y, H2, I2, r2, q2⟩ =>
  thn (ho pins s2 σ H2 x y v u _ I2 r1 r2 q2) fun d s3 ⟨z, H3, I3, r3, k, e, q3⟩ => ?_)) hm
 subst e
 cases r3
 refine wpAny_truthy_bool ?_
 cases k with
 | false => exact ite_ff ⟨.bl false, H3, I3, rfl, q3⟩
 | true => exact ite_tt (chain_last (thn (hc pins s3 σ H3 _ I3 q3) fun w' s4 ⟨z', H4, I4, r4, q4⟩ => ho' pins s4 σ H4 y z' u w' Q I4 r2 r4 q4))
theorem zkq {op op' : CmpOp} {r r' : R2} (ho : OpR X (compareOp op) r) (ho' : OpR X (compareOp op') r') (ha : PE X a ta) (hb : PE X b tb) (hc : PE X c tc)
 (hm : lastMarks [op, op'] [b, c] = false := by with_unfolding_all rfl) : PT X (.Compare a [op, op'] [b, c] pos) (zlS (zkX r r' ta tb tc)) := by
 intro pins s σ H Q I h
 refine isTrue_chain (thn (ha pins s σ H _ I h) fun v s1 ⟨x, H1, I1, r1, q1⟩ => test_link (thn (hb pins s1 σ H1 _ I1 q1) fun u s2 ⟨y, H2, I2, r2, q2⟩ =>
  thn (ho pins s2 σ H2 x y v u _ I2 r1 r2 q2) fun d s3 ⟨z, H3, I3, r3, k, e, q3⟩ => ?_)) hm
 subst e
 cases r3
 refine wpAny_truthy_bool ?_
 cases k with
 | false =>
  obtain ⟨k', e', q'⟩ := q3
  cases e'
  exact ite_ff ⟨H3, I3, q'⟩
 | true =>
  refine ite_tt (test_last (thn (hc pins s3 σ H3 _ I3 q3) fun w' s4 ⟨z', H4, I4, r4, q4⟩ => thn (ho' pins s4 σ H4 y z' u w' _ I4 r2 r4 q4) fun d' s5 ⟨z2, H5, I5, r5, k2, e2, q5⟩ => ?_))
  subst e2
  cases r5
  exact wpAny_truthy_bool ⟨H5, I5, q5⟩
theorem zeE : (sizeLine : Nat) < 2 ^ 63 := by rw [sizeLine_eq]; decide
theorem zcu {x : V} {us : List Value} (r : Vals [x] us) : ∃ u, us = [u] ∧ RelV x u := by
 cases r with
 | cons r1 r2 => cases r2; exact ⟨_, rfl, r1⟩
theorem ziM {x y : V} {us : List Value} (r : Vals [x, y] us) : ∃ u w', us = [u, w'] ∧ RelV x u ∧ RelV y w' := by
 cases r with
 | cons r1 r2 =>
  cases r2 with
  | cons r3 r4 => cases r4; exact ⟨_, _, rfl, r1, r3⟩
theorem zgn (hc : X.calm = true) : zdj X (.builtin "max") (fun xs H Q => ∃ i j, xs = [.int i, .int j] ∧ Q (.int (if j > i then j else i)) H) := by
 intro pins s σ H xs us Q I r h
 obtain ⟨i, j, rfl, q⟩ := h
 obtain ⟨u, w', rfl, ⟨t, rfl⟩, ⟨t', rfl⟩⟩ := ziM r
 refine max_two_ints (I.ok.hd hc) fun h' tk k => ⟨_, H, I.kept k, ?_, q⟩
 by_cases hj : j > i
 · rw [if_pos hj, if_pos hj]; exact ⟨_, rfl⟩
 · rw [if_neg hj, if_neg hj]; exact ⟨_, rfl⟩
theorem zgm (hc : X.calm = true) : zdj X (.builtin "min") (fun xs H Q => ∃ i j, xs = [.int i, .int j] ∧ Q (.int (if j < i then j else i)) H) := by
 intro pins s σ H xs us Q I r h
 obtain ⟨i, j, rfl, q⟩ := h
 obtain ⟨u, w', rfl, ⟨t, rfl⟩, ⟨t', rfl⟩⟩ := ziM r
 refine min_two_ints (I.ok.hd hc) fun h' tk k => ⟨_, H, I.kept k, ?_, q⟩
 by_cases hj : j < i
 · rw [if_pos hj, if_pos hj]; exact ⟨_, rfl⟩
 · rw [if_neg hj, if_neg hj]; exact ⟨_, rfl⟩
theorem zgo : zdj X (.type "int") (fun xs H Q => (∃ i, xs = [.int i] ∧ Q (.int i) H) ∨ ∃ k, xs = [.bl k] ∧ Q (.int (if k then 1 else 0)) H) := by
 intro pins s σ H xs us Q I r h
 rcases h with ⟨i, rfl, q⟩ | ⟨k, rfl, q⟩
 · obtain ⟨u, rfl, t, rfl⟩ := zcu r
   exact call_int_int ⟨.int i, H, I, ⟨_, rfl⟩, q⟩
 · obtain ⟨u, rfl, r1⟩ := zcu r
   cases r1
   exact call_int_bool ⟨.int (if k then 1 else 0), H, I.tok _, ⟨_, rfl⟩, q⟩
end
structure ObjM (h : Heap) (x dx C : Addr) (mA : Str → Option Value) : Prop where
 obj : h.get? x = some (PySem.W.instObj C dx)
 ns : h.Ns1 dx mA
 ne : dx ≠ x
theorem zjE {h : Heap} {dx : Addr} {mA : Str → Option Value} (n : h.Ns1 dx mA) : ∃ od, h.get? dx = some od ∧ ∀ name, PySem.W.lookIn name od = some (mA name) := by
 obtain ⟨o, es, ep, ho, hd, hk, _, hm⟩ := n
 refine ⟨o, ho, fun name => ?_⟩
 have e := hm name
 unfold nsFind findBy at e
 rw [← Array.find?_toList] at e
 unfold PySem.W.lookIn
 rw [hd]
 dsimp only
 split
 · rename_i y q
   rw [q] at e
   exact congrArg some e
 · rename_i q
   rw [q] at e
   have a : es.toList.any (·.refKey) = false := by
    rw [List.any_eq_false]
    intro y hy
    obtain ⟨z, t, hkey⟩ := hk y (Array.mem_toList_iff.mp hy)
    simp [DictEntry.refKey, hkey]
   have a' : ¬ es.toList.any (·.refKey) = true := by rw [a]; exact Bool.false_ne_true
   rw [if_neg a']
   exact congrArg some e
theorem ObjM.look {h : Heap} {x dx C : Addr} {mA : Str → Option Value} (I : ObjM h x dx C mA) : ∃ od, PySem.W.InstAt h x (PySem.W.instObj C dx) C (some od) ∧ ∀ name, PySem.W.lookIn name od = some (mA name) :=
 let ⟨od, ho, hl⟩ := zjE I.ns
 ⟨od, ⟨I.obj, rfl, rfl, ho⟩, hl⟩
section
variable {prog : Program} {w : World} {A : Around} {E : Value → Shared → Prop} {s : Shared} {K : PySem.W.Frag} {x dx C f : Addr} {mA : Str → Option Value} {name : Str} {v : Value}
end
theorem RelO.some_of {v : V} {o : Option Value} (r : RelO (some v) o) : ∃ u, o = some u ∧ RelV v u := by
 cases o with
 | none => exact (show False from r).elim
 | some u => exact ⟨u, rfl, r⟩
section
variable {P : Program} {w : World} {H H' : Hp} {h h' : Heap} {a C dx : Addr} {fs fs' : List (Str × V)}
theorem zlD (hok : HOk P w H h) (e : H a = some (.ins C dx fs)) : ∃ mA, ObjM h a dx C mA ∧ (∀ f, RelO (fs.lookup f) (mA f)) ∧ PySem.Within mA (fs.map (·.1)) ∧ fs.length ≤ 1000 ∧ H dx = some (.own a) := by
 obtain ⟨d, z, ne, ob, mA, n, r, q⟩ := (show ObjOk P w H h a (.ins C dx fs) from hok a _ e)
 exact ⟨mA, ⟨ob, n, ne⟩, r, q, z, d⟩
end
structure Cls (K : PySem.W.Frag) (C : Addr) : Prop where
 pg : PySem.W.plainGet K C Str.empty = true
 hd : PySem.W.hasDictIn K C = true
 po : PySem.W.plainOver K C = true
 sa : PySem.W.findIn K (.ref C) "__setattr__" = some (some (.builtin "object.__setattr__"))
theorem Cls.get {K : PySem.W.Frag} {C : Addr} (c : Cls K C) (f : Str) : PySem.W.plainGet K C f = true := c.pg
section
variable {X : Cx} {pins : List (Addr × Obj)} {σ : St} {H : Hp} {s : Shared} {a C dx : Addr} {fs : List (Str × V)} {f : Str} {v : V} {A : Around} {E : Value → Shared → Prop}
end
section
variable {X : Cx} {o e value : Expr} {f : Str} {pos pos' tpos : Pos} {ta tv : TE}
end
section
variable {X : Cx} {pins : List (Addr × Obj)} {σ : St} {H : Hp} {s : Shared} {A : Around} {E : Value → Shared → Prop} {Q : Value → Shared → Prop} {c : Value} {b : Bool}
inductive TyOf (K : PySem.W.Frag) (H : Hp) : V → Value → Prop where
 | non : TyOf K H .non (.type "NoneType")
 | bl (x : Bool) : TyOf K H (.bl x) (.type "bool")
 | int (i : Int) : TyOf K H (.int i) (.type "int")
 | str (x : Str) : TyOf K H (.str x) (.type "str")
 | flt (x : UInt64) : TyOf K H (.flt x) (.type "float")
 | lst {a : Addr} {xs : List V} (e : H a = some (.lst xs)) : TyOf K H (.ref a) (.type "list")
 | frz {a : Addr} {o : Obj} {xs : List V} (e : H a = some (.frz o (.lst xs))) : TyOf K H (.ref a) (.type "list")
 | tup {a : Addr} {xs : List V} (e : H a = some (.tup xs)) : TyOf K H (.ref a) (.type "tuple")
 | dK {a : Addr} {kvs : List (Key × V)} (e : H a = some (.dK kvs)) : TyOf K H (.ref a) (.type "dict")
 | dT {a : Addr} {kvs : List (List Key × V)} (e : H a = some (.dT kvs)) : TyOf K H (.ref a) (.type "dict")
 | ins {a C dx : Addr} {fs : List (Str × V)} (e : H a = some (.ins C dx fs)) (cl : Cls K C) (ha : PySem.W.findIn K (.ref C) "__class__" = some (some (.builtin "object.__class__")))
  (hn : PySem.W.specialIn K (.builtin "object.__class__") "__get__" = some (some (.builtin "getset_descriptor.__get__"))) (htk : PySem.W.takesIn K (.builtin "object.__class__") = some true)
  (hm : PySem.W.mroIn K C (.type "object") = some true) : TyOf K H (.ref a) (.ref C)
theorem zjP {x : V} {u t : Value} (I : Inv X pins σ H s) (rx : RelV x u) (ty : TyOf X.K H x t) (e : PySem.W.kitOne X.K t c = some b) (h : ∀ tk, Q (.bool b) { s with toks := tk }) :
 wpAny (model X.prog X.w) A (call (.builtin "isinstance") [u, c]) Q E s := by
 cases ty with
 | non => cases (show u = Value.none from rx); exact PySem.W.kia_one PySem.W.kitx_none I.kIn True.intro e (fun z => nomatch z) h
 | bl y => cases (show u = Value.bool y from rx); exact PySem.W.kia_one PySem.W.kitx_bool I.kIn True.intro e (fun z => nomatch z) h
 | int i => obtain ⟨t, q⟩ := (show ∃ t, u = Value.int i t from rx); cases q; exact PySem.W.kia_one PySem.W.kitx_int I.kIn True.intro e (fun z => nomatch z) h
 | str y => obtain ⟨t, q⟩ := (show ∃ t, u = Value.str y t from rx); cases q; exact PySem.W.kia_one PySem.W.kitx_str I.kIn True.intro e (fun z => nomatch z) h
 | flt y => obtain ⟨t, q⟩ := (show ∃ t, u = Value.float y t from rx); cases q; exact PySem.W.kia_one PySem.W.kitx_float I.kIn True.intro e (fun z => nomatch z) h
 | @lst a xs ea =>
  cases (show u = Value.ref a from rx)
  obtain ⟨_, _, n, _, h1⟩ := (show ObjOk X.prog X.w H s.heap a (.lst xs) from I.hok a _ ea)
  exact PySem.W.kia_one PySem.W.kitx_list I.kIn ⟨_, h1, rfl⟩ e (fun z => nomatch z) h
 | @frz a ob xs ea =>
  cases (show u = Value.ref a from rx)
  obtain ⟨_, _, _, n, _, h1⟩ := (show ObjOk X.prog X.w H s.heap a (.frz ob (.lst xs)) from I.hok a _ ea)
  exact PySem.W.kia_one PySem.W.kitx_list I.kIn ⟨_, h1, rfl⟩ e (fun z => nomatch z) h
 | @tup a xs ea =>
  cases (show u = Value.ref a from rx)
  obtain ⟨_, _, _, p⟩ := (show ObjOk X.prog X.w H s.heap a (.tup xs) from I.hok a _ ea)
  obtain ⟨o, h1, h2, _⟩ := p
  exact PySem.W.kia_one PySem.W.kitx_tuple I.kIn ⟨o, h1, h2⟩ e (fun z => nomatch z) h
 | @dK a kvs ea =>
  cases (show u = Value.ref a from rx)
  obtain ⟨_, _, vs, _, p⟩ := (show ObjOk X.prog X.w H s.heap a (.dK kvs) from I.hok a _ ea)
  obtain ⟨o, es, ep, h1, h2, _⟩ := p
  exact PySem.W.kia_one PySem.W.kitx_dict I.kIn ⟨o, h1, h2.1⟩ e (fun z => nomatch z) h
 | @dT a kvs ea =>
  cases (show u = Value.ref a from rx)
  obtain ⟨_, _, xs, _, o, es, ep, h1, h2, _⟩ := (show ObjOk X.prog X.w H s.heap a (.dT kvs) from I.hok a _ ea)
  exact PySem.W.kia_one PySem.W.kitx_dict I.kIn ⟨o, h1, h2.1⟩ e (fun z => nomatch z) h
 | @ins a C dx fs ea cl ha hn htk hm =>
  cases (show u = Value.ref a from rx)
  obtain ⟨mA, O, _⟩ := zlD I.hok ea
  obtain ⟨od, J, _⟩ := O.look
  exact PySem.W.kia_one (PySem.W.kitx_own (cl.get _) cl.hd ha hn htk hm) I.kIn J e (fun z => nomatch z) h
end
structure Room (k : Nat) (A : Around) : Prop where
 hd : A.handled = none
 dp : A.depth + 3 * k + 5 < recursionLimit
 un : A.units + 16 * k + 200 < cLine
 gd : A.guards = some []
theorem Room.mono {j k : Nat} {A : Around} (r : Room k A) (h : j ≤ k) : Room j A := ⟨r.hd, by have := r.dp; omega, by have := r.un; omega, r.gd⟩
theorem Room.deeper {k : Nat} {A : Around} (r : Room (k + 1) A) (env : Env) : Room k (A.deeper env) :=
 ⟨r.hd, by have := r.dp; show A.depth + 1 + 3 * k + 5 < _; omega, by have := r.un; show A.units + 3 + 16 * k + 200 < _; omega, r.gd⟩
theorem Room.in1 {k : Nat} {A : Around} (r : Room (k + 1) A) : Room k A.in1 :=
 ⟨r.hd, by have := r.dp; show A.depth + 3 * k + 5 < _; omega, by have := r.un; show A.units + 1 + 16 * k + 200 < _; omega, r.gd⟩
theorem Room.depth {k : Nat} {A : Around} (r : Room k A) : A.depth < recursionLimit := by have := r.dp; omega
theorem Room.units {k : Nat} {A : Around} (r : Room k A) : A.units + 64 < cLine := by have := r.un; omega
def tNil : TA := fun _ H Q => Q [] H
def zlX (ta : TE) (tr : TA) : TA := fun σ H Q => ta σ H fun x H1 => tr σ H1 fun xs H2 => Q (x :: xs) H2
section
variable {X : Cx} {e : Expr} {es : List Expr} {te : TE} {t : TA} {pos : Pos}
theorem zac : PA X [] tNil := fun _ _ _ _ H Q I h => Calls.spliced_nil ⟨[], H, I, .nil, h⟩
theorem zaa (ha : PE X e te) (hr : PA X es t) (hs : starEach (e :: es) X.env = (false, eval e X.env) :: starEach es X.env := by rfl) : PA X (e :: es) (zlX te t) := by
 intro pos pins s σ H Q I h
 rw [hs]
 show wpAny _ _ (spliced ((false, eval e X.env) :: backTo pos (starEach es X.env))) _ _ s
 refine Calls.spliced_cons (thn (ha pins s σ H _ I h) fun u s1 ⟨x, H1, I1, r1, q1⟩ => ?_)
 exact thn (hr pos pins s1 σ H1 _ I1 q1) fun us s2 ⟨xs, H2, I2, r2, q2⟩ => ⟨x :: xs, H2, I2, .cons r1 r2, q2⟩
def tTup (t : TA) : TE := fun σ H Q => t σ H fun xs H1 => xs.length ≤ sizeLine ∧ ∀ p, H1 p = none → Q (.ref p) (upd H1 p (.tup xs))
def tLst (t : TA) : TE := fun σ H Q => t σ H fun xs H1 => xs.length ≤ sizeLine ∧ ∀ p, H1 p = none → Q (.ref p) (upd H1 p (.lst xs))
theorem zay {x1} (h : PA X es t) : PE X (.Tuple es x1 pos) (tTup t) := by
 intro pins s σ H Q I hq
 refine wpAny_Tuple_spliced (thn (h pos pins s σ H _ I hq) fun us s1 ⟨xs, H1, I1, r, z, q⟩ => ⟨by rw [← r.length]; exact z, ?_⟩)
 have hf : H1 s1.heap.objs.size = none := I1.hok.fresh (Nat.le_refl _)
 refine ⟨.ref s1.heap.objs.size, upd H1 s1.heap.objs.size (.tup xs), I1.laid (t' := s1.toks) (fun b u e => Heap.get?_push_of_some _ e) (Nat.le_refl _) ?_, rfl, q _ hf⟩
 exact ⟨z, us, r, ⟨_, Heap.get?_push_size _ rfl, rfl, rfl, _, rfl⟩⟩
theorem za6 (h : PA X es t) : PE X (.List es pos) (tLst t) := by
 intro pins s σ H Q I hq
 refine wpAny_List_spliced (thn (h pos pins s σ H _ I hq) fun us s1 ⟨xs, H1, I1, r, z, q⟩ => ⟨by rw [← r.length]; exact z, ?_⟩)
 have hf : H1 s1.heap.objs.size = none := I1.hok.fresh (Nat.le_refl _)
 refine ⟨.ref s1.heap.objs.size, upd H1 s1.heap.objs.size (.lst xs), I1.laid (t' := s1.toks) (fun b u e => Heap.get?_push_of_some _ e) (Nat.le_refl _) ?_, rfl, q _ hf⟩
 exact ⟨z, us, 0, r, Heap.get?_push_size _ rfl⟩
end
abbrev Sp := List V → Hp → VK → XK → Prop
abbrev CXT := List Env → Hp → Shared → XK → Value → Shared → Prop
structure Env0 (P : Program) (w : World) (K : PySem.W.Frag) (mg : Str → Option Value) (base : Heap) (A : Around) (outer : List Env) (s : Shared) (H : Hp) : Prop where
 frames : A.frames = some outer
 mod : Mod K mg base
 bs : ∀ b o, base.get? b = some o → s.heap.get? b = some o ∧ H b = none
 bsz : base.objs.size ≤ s.heap.objs.size
 funs : s.heap.FunFrames base outer
 frf : ∀ b ∈ frs outer, H b = none
 hok : HOk P w H s.heap
 bare : AllBare s.gens
def CE (outer : List Env) (P : Program) (w : World) (H : Hp) (s : Shared) (Q : VK) (u : Value) (s' : Shared) : Prop :=
 ∃ v H', s'.os = s.os ∧ AllBare s'.gens ∧ Un (frs outer) [] H H' s.heap s'.heap ∧ HOk P w H' s'.heap ∧ RelV v u ∧ Q v H'
def CR (CX : CXT) (outer : List Env) (P : Program) (w : World) (H : Hp) (s : Shared) (Q : VK) (E : XK) (r : Result) (s' : Shared) : Prop :=
 match r with
 | .ok (.ret u) => CE outer P w H s Q u s'
 | .ok _ => False
 | .error e => CX outer H s E e s'
structure FnOk (P : Program) (w : World) (K : PySem.W.Frag) (mg : Str → Option Value) (base : Heap) (CX : CXT) (k : Nat) (f : Addr) (fd : FuncData) (ps : List Str) (sp : Sp) : Prop where
 len : ∀ vs H Q E, sp vs H Q E → vs.length = ps.length
 run : ∀ (A : Around) (outer : List Env) (s : Shared) (H : Hp) (args : Args) (us : List Value) (vs : List V) (Q : VK) (E : XK), Room k A → Env0 P w K mg base A outer s H → BindsTo s fd args (ps.zip us) → Vals vs us → sp vs H Q E →
  codeAny (model P w) A (.call (.ref f) args) (CR CX outer P w H s Q E) s
section
variable {X : Cx} {pins : List (Addr × Obj)} {σ : St} {H : Hp} {s s' : Shared}
theorem Inv.env0 (I : Inv X pins σ H s) : Env0 X.prog X.w X.K X.mg X.base X.A X.stack s H :=
 ⟨I.ok.frames, I.ok.mod, I.bs, Nat.le_trans I.ok.bsz I.sz, I.stack, I.stkFree, I.hok, I.bare⟩
theorem Inv.after {Q : VK} {u : Value} (I : Inv X pins σ H s) (h : CE X.stack X.prog X.w H s Q u s') : EP X pins σ Q u s' := by
 obtain ⟨v, H', os, bare, un, hok, r, q⟩ := h
 obtain ⟨hh, g, d, t, os'⟩ := s'
 obtain rfl : os' = s.os := os
 exact ⟨v, H', I.call (h' := hh) (g' := g) (d' := d) (t' := t) (ch := []) un hok bare (fun b z => absurd z (by simp)), r, q⟩
end
def zlY (sp : Sp) (dvs : List V) (E : XK) (t : TA) : TE := fun σ H Q => t σ H fun vs H1 => sp (vs ++ dvs) H1 Q E
def Binds (K : PySem.W.Frag) (fd : FuncData) (ps : List Str) (ds : List Value) : Prop :=
 ∀ (s : Shared) (us : List Value), K.In s.heap → (us ++ ds).length = ps.length → BindsTo s fd ⟨us, []⟩ (ps.zip (us ++ ds))
theorem Binds.all {K : PySem.W.Frag} {fd : FuncData} {ps : List Str} (h : ∀ us : List Value, us.length = ps.length → bindArgs fd ⟨us, []⟩ = pure (ps.zip us)) : Binds K fd ps [] := fun s us _ hl => by
 rw [List.append_nil] at hl ⊢
 exact .of_eq (h us hl)
def zke (CX : CXT) (X : Cx) (E : XK) : Prop := ∀ (pins : List (Addr × Obj)) (σ : St) (H : Hp) (s : Shared) (e : Value) (s' : Shared), Inv X pins σ H s → CX X.stack H s E e s' → X.xe e s'
section
variable {X : Cx} {CX : CXT} {k : Nat} {f C : Addr} {fd : FuncData} {ps : List Str} {sp : Sp} {dvs : List V} {ds : List Value} {E : XK} {x m : Str} {p pos apos : Pos} {e o : Expr} {es : List Expr} {ta : TE} {t : TA}
theorem zkY {pins : List (Addr × Obj)} {σ : St} {H : Hp} {s : Shared} {Q : VK} {us : List Value} {vs : List V} (F : FnOk X.prog X.w X.K X.mg X.base CX k f fd ps sp) (hr : Room k X.A) (hb : Binds X.K fd ps ds) (hd : Vals dvs ds) (hx : zke CX X E)
 (I : Inv X pins σ H s) (r : Vals vs us) (h : sp (vs ++ dvs) H Q E) : wpAny (model X.prog X.w) X.A (call (.ref f) us) (EP X pins σ Q) X.xe s := by
 have r2 : Vals (vs ++ dvs) (us ++ ds) := r.append hd
 have hl : (us ++ ds).length = ps.length := by rw [← r2.length]; exact F.len _ _ _ _ h
 refine wpAny_call (codeAny_mono (F.run X.A X.stack s H ⟨us, []⟩ (us ++ ds) (vs ++ dvs) Q E hr I.env0 (hb s us I.kIn hl) r2 h) fun r s' hq => ?_)
 cases r with
 | error e => exact hx pins σ H s e s' I hq
 | ok fl =>
  cases fl with
  | ret u => exact I.after hq
  | next => exact False.elim hq
  | brk => exact False.elim hq
  | cont => exact False.elim hq
theorem zls (F : FnOk X.prog X.w X.K X.mg X.base CX k f fd ps sp) (hr : Room k X.A) (hg : Gl X x) (hm : X.mg x = some (.ref f)) (hk : PySem.W.keepIn X.K (.ref f) = true) (hb : Binds X.K fd ps ds) (hd : Vals dvs ds) (hx : zke CX X E)
 (ha : PA X (e :: es) t) (hdb : (x == ("__debug__" : Str)) = false := by decide) (he : starEach (e :: es) X.env = (false, eval e X.env) :: starEach es X.env := by rfl) (hpl : (backTo pos (starEach es X.env)).any (·.1) = false := by rfl) :
 PE X (.Call (.Name x p) (e :: es) [] pos) (zlY sp dvs E t) := by
 intro pins s σ H Q I h
 refine wpAny_Call_Name_kw (zjF I hg hm ?_ hdb)
 refine PySem.W.callWith_K (h₀ := X.base) I.ok.mod.kin hk (thn (ha pos pins s σ H _ I h) fun us s1 ⟨vs, H1, I1, r, q⟩ => ⟨I1.kIn, ?_⟩) he hpl
 exact zkY F hr hb hd hx I1 r q
end
def PK (X : Cx) (kws : List Keyword) (t : TA) : Prop :=
 ∀ (pos : Pos) (pins : List (Addr × Obj)) (s : Shared) (σ : St) (H : Hp) (Q : List V → Hp → Prop), Inv X pins σ H s → t σ H Q → wpAny (model X.prog X.w) X.A (evalAll ((backToKw pos (keywordEach kws X.env)).map (·.2))) (AP X pins σ Q) X.xe s
section
variable {X : Cx} {CX : CXT} {k : Nat} {f C : Addr} {fd : FuncData} {ps ks : List Str} {sp : Sp} {E : XK} {x m : Str} {p pos apos kpos : Pos} {e o : Expr} {es : List Expr} {kws : List Keyword} {te ta : TE} {t tk : TA} {nm : Option Str}
theorem zji : PK X [] tNil := fun _ _ _ _ H Q I h => wpAny_evalAll_nil ⟨[], H, I, .nil, h⟩
theorem zgZ (ha : PE X e te) (hr : PK X kws t) : PK X (⟨nm, e, kpos⟩ :: kws) (zlX te t) := by
 intro pos pins s σ H Q I h
 show wpAny _ _ (evalAll ((do let v ← eval e X.env; standAt pos; pure v) :: (backToKw pos (keywordEach kws X.env)).map (·.2))) _ _ s
 refine wpAny_evalAll_cons (wpAny_bind (thn (ha pins s σ H _ I h) fun u s1 ⟨x, H1, I1, r1, q1⟩ => wpAny_bind (wpAny_standAt (wpAny_pure ?_))))
 exact thn (hr pos pins s1 σ H1 _ I1 q1) fun us s2 ⟨xs, H2, I2, r2, q2⟩ => ⟨x :: xs, H2, I2, .cons r1 r2, q2⟩
variable {g : List Value → List Value → List Value} {gV : List V → List V → List V}
end
structure FnScope (N P : List Str) (sc : Scope) : Prop where
 kind : sc.kind = .function
 co : sc.isCoroutine = false
 gen : sc.isGenerator = false
 nd : N.Nodup
 pre : N.take P.length = P
 par : ∀ x ∈ P, sc.names.lookup x = some .local ∨ sc.names.lookup x = some .cell
 nofree : ∀ y ∈ sc.names, y.2 ≠ .free
theorem zgp {kindOf : Str → Option NameKind} {x : Str} : ∀ {binds : List (Str × Value)} {m : Str → Option Value}, (∀ v, (x, v) ∉ binds) → bindL kindOf binds m x = m x
 | [], _, _ => rfl
 | (n, v) :: r, m, h => by
  unfold bindL
  rw [zgp fun w hw => h w (List.mem_cons_of_mem _ hw)]
  split
  · have : x ≠ n := by rintro rfl; exact h v List.mem_cons_self
    simp [this]
  · rfl
theorem zgr {kindOf : Str → Option NameKind} {x : Str} : ∀ {binds : List (Str × Value)} {m : Str → Option Value}, (∀ v, (x, v) ∉ binds) → bindC kindOf binds m x = m x
 | [], _, _ => rfl
 | (n, v) :: r, m, h => by
  unfold bindC
  rw [zgr fun w hw => h w (List.mem_cons_of_mem _ hw)]
  split
  · rfl
  · have : x ≠ n := by rintro rfl; exact h v List.mem_cons_self
    simp [this]
theorem zgq {kindOf : Str → Option NameKind} {x : Str} {v : Value} : ∀ {P : List Str} {vs : List Value} {i : Nat} {m : Str → Option Value}, P.Nodup → P[i]? = some x → vs[i]? = some v → kindOf x = some .local →
 bindL kindOf (P.zip vs) m x = some v
 | [], _, _, _, _, h, _, _ => by simp at h
 | _ :: _, [], _, _, _, _, h, _ => by simp at h
 | p :: P, w :: vs, 0, m, nd, h1, h2, hk => by
  simp at h1 h2; subst h1; subst h2
  show bindL kindOf ((p, w) :: P.zip vs) m p = _
  unfold bindL
  rw [zgp fun v hv => (List.nodup_cons.mp nd).1 (List.of_mem_zip hv).1, if_pos hk]
  simp
 | p :: P, w :: vs, i + 1, m, nd, h1, h2, hk => by
  show bindL kindOf ((p, w) :: P.zip vs) m x = _
  unfold bindL
  exact zgq (i := i) (List.nodup_cons.mp nd).2 (by simpa using h1) (by simpa using h2) hk
theorem zgs {kindOf : Str → Option NameKind} {x : Str} {v : Value} : ∀ {P : List Str} {vs : List Value} {i : Nat} {m : Str → Option Value}, P.Nodup → P[i]? = some x → vs[i]? = some v → kindOf x ≠ some .local →
 bindC kindOf (P.zip vs) m x = some v
 | [], _, _, _, _, h, _, _ => by simp at h
 | _ :: _, [], _, _, _, _, h, _ => by simp at h
 | p :: P, w :: vs, 0, m, nd, h1, h2, hk => by
  simp at h1 h2; subst h1; subst h2
  show bindC kindOf ((p, w) :: P.zip vs) m p = _
  unfold bindC
  rw [zgr fun v hv => (List.nodup_cons.mp nd).1 (List.of_mem_zip hv).1, if_neg hk]
  simp
 | p :: P, w :: vs, i + 1, m, nd, h1, h2, hk => by
  show bindC kindOf ((p, w) :: P.zip vs) m x = _
  unfold bindC
  exact zgs (i := i) (List.nodup_cons.mp nd).2 (by simpa using h1) (by simpa using h2) hk
def zfC (N : List Str) (vs : List V) : St := vs.map some ++ List.replicate (N.length - vs.length) none
def cxOf (CX : CXT) (P : Program) (w : World) (K : PySem.W.Frag) (mg : Str → Option Value) (base : Heap) (N : List Str) (qual : Str) (scope : Scope) (f : Addr) (cd : Value) (A : Around) (outer : List Env) (s : Shared) (H : Hp) (E : XK) : Cx where
 prog := P
 w := w
 K := K
 mg := mg
 base := base
 A := A.deeper (envOfC qual scope s.heap.objs.size f cd)
 N := N
 s₀ := s
 H₀ := H
 env := envOfC qual scope s.heap.objs.size f cd
 outer := outer
 stack := envOfC qual scope s.heap.objs.size f cd :: outer
 ex := []
 calm := true
 fn := fun _ => true
 pn := []
 xe := fun e s' => wpAny (model P w) (A.deeper (envOfC qual scope s.heap.objs.size f cd)) (leaving (envOfC qual scope s.heap.objs.size f cd) e) (fun _ s'' => CX outer H s E e s'') (fun e' s'' => CX outer H s E e' s'') s'
theorem zh7 {sc : Scope} {n : Nat} {x : Str} (h : sc.names.lookup x = some .cell) : ∃ c, (cellsFrom n sc.names []).lookup x = some c := by
 have q := PySem.W.cellsFrom_some sc.names n [] (.inl h)
 exact Option.isSome_iff_exists.mp q
theorem zjR {CX : CXT} {P : Program} {w : World} {K : PySem.W.Frag} {mg : Str → Option Value} {base : Heap} {N ps : List Str} {qual : Str} {scope : Scope} {f : Addr} {cd : Value} {A : Around} {outer : List Env} {s s1 : Shared} {H : Hp} {E : XK} {us : List Value} {vs : List V}
 (S : FnScope N ps scope) (hd : A.handled = none) (e0 : Env0 P w K mg base A outer s H) (hl : vs.length = ps.length) (r : Vals vs us)
 (x : InCallC s s.heap.objs.size (bindL (envOfC qual scope s.heap.objs.size f cd).kindOf (ps.zip us) fun _ => none) (cellsFrom (s.heap.objs.size + 1) scope.names []) (bindC (envOfC qual scope s.heap.objs.size f cd).kindOf (ps.zip us) fun _ => none) s1) :
 Inv (cxOf CX P w K mg base N qual scope f cd A outer s H E) [] (zfC N vs) H s1 := by
 have hpl : ps.length ≤ N.length := by have := congrArg List.length S.pre; rw [List.length_take] at this; omega
 obtain ⟨h1, tk, rfl, hk⟩ := x.done
 have noA : ∀ b : Addr, b ∉ (cxOf CX P w K mg base N qual scope f cd A outer s H E).ex := fun b z => absurd (show b ∈ ([] : List Addr) from z) (by simp)
 refine ⟨⟨e0.mod, S.kind, rfl, rfl, Nat.le_refl _, fun y z c h1 h2 => ?_, fun y hy => ?_, fun y c _ h => ?_, fun _ => hd, Around.frames_deeper e0.frames, .inr ⟨rfl, rfl⟩, fun b z => absurd z (noA b), e0.bs, e0.bsz, fun b _ _ => noA b, fun b z => absurd z (noA b), e0.funs, e0.frf⟩,
  rfl, e0.bare, Un.kept hk, ⟨_, x.toInCall.ns, fun i y v h1 h2 h3 => ?_⟩, fun y c h => ⟨_, x.cell y c h⟩, e0.hok.fresh (Nat.le_refl _), fun y c h => ?_, fun p hp => absurd (show p ∈ ([] : List (Addr × Obj)) from hp) (by simp), e0.hok.kept hk, ?_⟩
 · exact name_of_addr x.apart (PySem.mem_of_lookup h1) (PySem.mem_of_lookup h2)
 · have hy : scope.names.lookup y = some .cell ∨ scope.names.lookup y = some .free := hy
   rcases hy with hy | hy
   · exact zh7 hy
   · exact absurd rfl (S.nofree _ (PySem.mem_of_lookup hy))
 · exact Nat.le_of_lt (x.above y c (PySem.mem_of_lookup h))
 · have hi : i < vs.length := by
    unfold zfC at h2
    by_cases hi : i < vs.length
    · exact hi
    · rw [List.getElem?_append_right (by simpa using hi)] at h2
      rw [List.getElem?_replicate] at h2
      split at h2 <;> cases h2
   have ha : vs[i]? = some v := by
    unfold zfC at h2
    rw [List.getElem?_append_left (by simpa using hi), List.getElem?_map] at h2
    cases e : vs[i]? with
    | none => rw [e] at h2; cases h2
    | some a => rw [e] at h2; cases h2; rfl
   obtain ⟨u, hu, rv⟩ := r.get ha
   have hp : ps[i]? = some y := by
    rw [← S.pre, List.getElem?_take_of_lt (by omega)]; exact h1
   have ndP : ps.Nodup := by rw [← S.pre]; exact S.nd.sublist (List.take_sublist _ _)
   refine ⟨u, rv, ?_⟩
   rcases S.par y (List.mem_of_getElem? hp) with k | k
   · exact .inl ⟨k, zgq ndP hp hu k⟩
   · obtain ⟨c, e⟩ := zh7 (n := s.heap.objs.size + 1) k
     refine .inr ⟨.inl k, c, e, ?_⟩
     have q := x.cell y c e
     rw [zgs ndP hp hu (by show scope.names.lookup y ≠ _; rw [k]; decide)] at q
     exact q
 · exact e0.hok.fresh (Nat.le_of_lt (x.above y c (PySem.mem_of_lookup h)))
 · unfold zfC
   show _ = N.length
   rw [List.length_append, List.length_map, List.length_replicate]
   omega
theorem zmS {CX : CXT} {P : Program} {w : World} {K : PySem.W.Frag} {mg : Str → Option Value} {base : Heap} {k : Nat} {f : Addr} {name qual : Str} {params : Arguments} {body : List Stmt} {scope : Scope} {dV kV doc pm cdv ct oc : Value} {an od : Option Addr}
 {osl : Array (Option Value)} {N ps : List Str} {sp : Sp} (lk : K.lookup f = some ⟨oc, od, .func (PySem.W.fnOf name qual params body scope dV kV doc pm an cdv ct), osl⟩) (hcd : PySem.W.codeIn K cdv qual = true) (S : FnScope N ps scope)
 (len : ∀ vs H Q E, sp vs H Q E → vs.length = ps.length)
 (hbody : ∀ (A : Around) (outer : List Env) (s : Shared) (H : Hp) (vs : List V) (Q : VK) (E : XK), Room k (A.deeper (envOfC qual scope s.heap.objs.size f cdv)) → sp vs H Q E →
  ∃ t, PSs (cxOf CX P w K mg base N qual scope f cdv A outer s H E) body t ∧ t { nx := fun _ H' => Q .non H', rt := Q } (zfC N vs) H) :
 FnOk P w K mg base CX (k + 1) f (PySem.W.fnOf name qual params body scope dV kV doc pm an cdv ct) ps sp := by
 refine ⟨len, fun A outer s H args us vs Q E hr e0 hb r hsp => ?_⟩
 have hl := len _ _ _ _ hsp
 have KX : K.In s.heap := e0.mod.kin.keeps fun b o e => (e0.bs b o e).1
 have lim : s.heap.NoLimit := e0.mod.nolimit.keeps fun b o e => (e0.bs b o e).1
 have hkind : ∀ y ∈ ps.zip us, scope.names.lookup y.1 = some .local ∨ (scope.names.lookup y.1 = some .cell ∧ ((cellsFrom (s.heap.objs.size + 1) scope.names []).lookup y.1).isSome = true) := fun ⟨n, v⟩ hy => by
  rcases S.par n (List.of_mem_zip hy).1 with q | q
  · exact .inl q
  · exact .inr ⟨q, PySem.W.cellsFrom_some _ _ _ (.inl q)⟩
 refine codeAny_call_function hr.depth (KX _ _ lk) rfl S.co S.gen rfl (PySem.W.codeRec_of KX hcd) (hb _ _ _ _ ?_)
 refine wpAny_newFunctionEnv_cells S.kind hkind fun env he s1 x => ?_
 subst he
 refine ⟨lim.keeps x.toInCall.keep, codeAny_func ?_⟩
 obtain ⟨t, ht, hq⟩ := hbody A outer s H vs Q E (hr.deeper _) hsp
 have I : Inv (cxOf CX P w K mg base N qual scope f cdv A outer s H E) [] (zfC N vs) H s1 := zjR S hr.hd e0 hl r x
 refine wpAny_mono (ht [] s1 (zfC N vs) H _ I hq) (fun fl s' hs => ?_) fun e s' hs => hs
 have fin : ∀ {σ' : St} {H' : Hp} {v : V} {u : Value}, Inv (cxOf CX P w K mg base N qual scope f cdv A outer s H E) [] σ' H' s' → RelV v u → Q v H' → CE outer P w H s Q u s' :=
  fun {σ' H' v u} J rv q => ⟨v, H', J.os, J.bare, J.base, J.hok, rv, q⟩
 cases fl with
 | ret u =>
  obtain ⟨v, σ', H', J, rv, q⟩ := hs
  exact fin J rv q
 | next =>
  obtain ⟨σ', H', J, q⟩ := hs
  exact fin (v := V.non) (u := Value.none) J rfl q
 | brk =>
  obtain ⟨_, _, _, q⟩ := hs
  exact False.elim q
 | cont =>
  obtain ⟨_, _, _, q⟩ := hs
  exact False.elim q
section
variable {X : Cx} {x : Str} {p pos : Pos} {e : Expr} {es : List Expr} {t : TA} {id T : String} {r : List V → Hp → VK → Prop}
def tCB (r : List V → Hp → VK → Prop) (t : TA) : TE := fun σ H Q => t σ H fun vs H1 => r vs H1 Q
theorem zat (hc : zdj X (.builtin id) r) (hg : Gl X x) (hm : X.mg x = none) (hv : bootBuiltins x = some (.builtin id)) (ha : PA X (e :: es) t) (hn : x ≠ "__name__" := by decide) (hdb : (x == ("__debug__" : Str)) = false := by decide)
 (he : starEach (e :: es) X.env = (false, eval e X.env) :: starEach es X.env := by rfl) (hpl : (backTo pos (starEach es X.env)).any (·.1) = false := by rfl) : PE X (.Call (.Name x p) (e :: es) [] pos) (tCB r t) := by
 intro pins s σ H Q I h
 refine wpAny_Call_Name_kw (zdA I hg hm hv ?_ hn hdb)
 exact PyProof.Rows.callWith_builtin1 (thn (ha pos pins s σ H _ I h) fun us s1 ⟨vs, H1, I1, r1, q1⟩ => hc pins s1 σ H1 vs us Q I1 r1 q1) he hpl
theorem za7 (hc : zdj X (.type T) r) (hg : Gl X x) (hm : X.mg x = none) (hv : bootBuiltins x = some (.type T)) (ha : PA X (e :: es) t) (hn : x ≠ "__name__" := by decide) (hdb : (x == ("__debug__" : Str)) = false := by decide)
 (he : starEach (e :: es) X.env = (false, eval e X.env) :: starEach es X.env := by rfl) (hpl : (backTo pos (starEach es X.env)).any (·.1) = false := by rfl) : PE X (.Call (.Name x p) (e :: es) [] pos) (tCB r t) := by
 intro pins s σ H Q I h
 refine wpAny_Call_Name_kw (zdA I hg hm hv ?_ hn hdb)
 exact PyProof.Rows.callWith_type1 (thn (ha pos pins s σ H _ I h) fun us s1 ⟨vs, H1, I1, r1, q1⟩ => hc pins s1 σ H1 vs us Q I1 r1 q1) he hpl
end
end L2
namespace HT
open PySem PyProof.Rows
section
open PySem.SeqAt
open PySem.AutoSeq1 (wpAny_loadPart')
open PySem.MeetsSeq PySem.MeetsSeq2 PySem.MeetsSeq3
end
section
variable {prog : Program} {w : World} {A : Around} {E : Value → Shared → Prop} {s : Shared}
def sIx (n d : Nat) : Option Int → Nat
 | none => d
 | some v => if v < 0 then (v + (n : Int)).toNat else min v.toNat n
theorem sIx_nat (n d k : Nat) : sIx n d (some (k : Int)) = min k n := by
 show (if (k : Int) < 0 then ((k : Int) + (n : Int)).toNat else min (k : Int).toNat n) = min k n
 rw [if_neg (by omega), Int.toNat_natCast]
theorem zl0 (n d : Nat) (hd : d ≤ n) (o : Option Int) : sIx n d o ≤ n := by
 cases o with
 | none => exact hd
 | some v =>
  show (if v < 0 then (v + (n : Int)).toNat else min v.toNat n) ≤ n
  by_cases hv : v < 0
  · rw [if_pos hv]; omega
  · rw [if_neg hv]; exact Nat.min_le_right _ _
theorem zj7 (v : Int) (n d : Nat) : (if v < 0 then max (v + (n : Int)) 0 else min v (n : Int)) = ((sIx n d (some v) : Nat) : Int) := by
 show (if v < 0 then max (v + (n : Int)) 0 else min v (n : Int)) = (((if v < 0 then (v + (n : Int)).toNat else min v.toNat n) : Nat) : Int)
 by_cases hv : v < 0
 · simp only [if_pos hv]; omega
 · simp only [if_neg hv]; omega
theorem ziK (lo hi : Option Int) (n : Nat) : Builtin.Slice.sliceAdjust lo hi 1 (n : Int) = (((sIx n 0 lo : Nat) : Int), ((sIx n n hi : Nat) : Int)) := by
 have h1 : ¬ ((1 : Int) < 0) := by omega
 unfold Builtin.Slice.sliceAdjust
 simp only [h1, if_false]
 refine Prod.ext ?_ ?_
 · cases lo with
   | none => rfl
   | some v => exact zj7 v n 0
 · cases hi with
   | none => rfl
   | some v => exact zj7 v n n
theorem zin (i j : Nat) : Builtin.Slice.slicePlaces (i : Int) (j : Int) 1 = j - i := by
 unfold Builtin.Slice.slicePlaces
 have h1 : (1 : Int) > 0 := by omega
 simp only [h1, if_true, Int.ediv_one]
 split <;> omega
theorem zeu {v : Value} {o : Option Int} {Q : Option Int → Shared → Prop} (p : IsPart v o) (h : Q o s) : wpAny (model prog w) A (Builtin.Slice.slicePartIndex v) Q E s := by
 cases p with
 | none => exact slicePart_none h
 | int i t => exact slicePart_int h
theorem sliceApplied_gen {sl : Addr} {vl vu : Value} {lo hi : Option Int} {n : Nat} {Q : Int × Int × Nat → Shared → Prop} (hs : s.heap.IsSliceOf sl vl vu .none) (pl : IsPart vl lo) (pu : IsPart vu hi)
 (h : Q (((sIx n 0 lo : Nat) : Int), 1, sIx n n hi - sIx n 0 lo) s) : wpAny (model prog w) A (Builtin.Slice.sliceApplied (.ref sl) (pure (n : Int))) Q E s := by
 obtain ⟨os, hos, hcs, hds⟩ := id hs
 unfold Builtin.Slice.sliceApplied Builtin.Slice.sliceFields
 refine wpAny_bind (wpAny_bind (wpAny_field hos hds (x := vl) rfl (wpAny_bind (wpAny_field hos hds (x := vu) rfl (wpAny_bind (wpAny_field hos hds (x := .none) rfl (wpAny_pure ?_)))))))
 refine wpAny_bind (slicePart_none ?_)
 show wpAny _ _ (if ((1 : Int) == 0) = true then _ else _) _ _ s
 rw [if_neg (by decide)]
 refine wpAny_bind (zeu pl (wpAny_bind (zeu pu (wpAny_bind (wpAny_pure ?_)))))
 show wpAny _ _ (match Builtin.Slice.sliceAdjust lo hi 1 (n : Int) with | (lo, hi) => pure (lo, (1 : Int), Builtin.Slice.slicePlaces lo hi 1)) _ _ s
 rw [ziK lo hi n]
 show wpAny _ _ (pure (((sIx n 0 lo : Nat) : Int), (1 : Int), Builtin.Slice.slicePlaces ((sIx n 0 lo : Nat) : Int) ((sIx n n hi : Nat) : Int) 1)) _ _ s
 rw [zin]
 exact wpAny_pure h
theorem zks (xs : Array Value) (i k : Nat) : ((List.range k).filterMap fun (m : Nat) => xs[((i : Int) + (m : Int) * 1).toNat]?).toArray = ((xs.toList.drop i).take k).toArray := by
 have e : (fun (m : Nat) => xs[((i : Int) + (m : Int) * 1).toNat]?) = fun m => xs[i + m]? := by
  funext m
  have : ((i : Int) + (m : Int) * 1).toNat = i + m := by omega
  rw [this]
 rw [e]
 have := pick_run xs i k
 rw [List.filterMap_map] at this
 have e2 : ((fun x => xs[x]?) ∘ fun x => i + x) = fun m => xs[i + m]? := rfl
 rw [e2] at this
 rw [this]
theorem getItem_tuple_cut {t sl : Addr} {items : Array Value} {vl vu : Value} {lo hi : Option Int} {Q : Value → Shared → Prop} (ht : IsTup s.heap t items) (hs : s.heap.IsSliceOf sl vl vu .none) (pl : IsPart vl lo) (pu : IsPart vu hi)
 (hw : ¬ (sIx items.size 0 lo = 0 ∧ sIx items.size items.size hi = items.size))
 (h : Q (.ref s.heap.objs.size) { s with heap := s.heap.push { cls := .type "tuple", data := .seq ((items.toList.drop (sIx items.size 0 lo)).take (sIx items.size items.size hi - sIx items.size 0 lo)).toArray } })
 (hsz : items.size ≤ sizeLine) : wpAny (model prog w) A (getItem (.ref t) (.ref sl)) Q E s := by
 have htake : sizeOk (.seq ((items.toList.drop (sIx items.size 0 lo)).take (sIx items.size items.size hi - sIx items.size 0 lo)).toArray) := by
  show ((items.toList.drop (sIx items.size 0 lo)).take (sIx items.size items.size hi - sIx items.size 0 lo)).toArray.size ≤ sizeLine
  rw [List.size_toArray, List.length_take, List.length_drop, Array.length_toList]
  omega
 have hj : sIx items.size items.size hi ≤ items.size := zl0 _ _ (Nat.le_refl _) hi
 obtain ⟨os, hos, hcs, hds⟩ := id hs
 have hTs : s.TypeIs (.ref sl) "slice" := ⟨os, hos, hcs⟩
 unfold getItem
 try with_reducible refine wpAny_holding ?_
 first | refine wpAny_bind (wpAny_pure ?_) | skip
 refine wpAny_bind (wpAny_sequenceKey ht.typeIs (by decide) ?_)
 refine wpAny_bind (wpAny_callSpecial?_slot (name := Str.ofString "__getitem__") ht.typeIs PyProof.Rows.slot_tuple_getitem
  (wpAny_call_entry PyProof.Rows.slot_tuple_getitem ht.typeIs entry_tuple_getitem ?_ (args_tuple_getitem _ _)))
 show wpAny _ _ (Builtin.Tuple.tupleItemsOf (.ref t) >>= _) _ _ s
 refine wpAny_bind (tupleItemsOf_ ht ?_)
 refine wpAny_bind (wpAny_typeOf hTs ?_)
 rw [if_pos (by decide)]
 refine wpAny_bind (sliceApplied_gen hs pl pu ?_)
 have hno : ¬ ((((sIx items.size 0 lo : Nat) : Int) == 0 && (1 : Int) == 1 && (sIx items.size items.size hi - sIx items.size 0 lo) == items.size) = true) := by
  intro q
  rw [Bool.and_eq_true, Bool.and_eq_true] at q
  have q1 : ((sIx items.size 0 lo : Nat) : Int) = 0 := eq_of_beq q.1.1
  have q2 : sIx items.size items.size hi - sIx items.size 0 lo = items.size := eq_of_beq q.2
  exact hw ⟨by omega, by omega⟩
 show wpAny _ _ (if (((sIx items.size 0 lo : Nat) : Int) == 0 && (1 : Int) == 1 && (sIx items.size items.size hi - sIx items.size 0 lo) == items.size) = true then _ else _) _ _ s
 rw [if_neg hno, zks]
 first
  | exact wpAny_bind (m := Builtin.Tuple.tupleExact _) (wpAny_newObj_type (wpAny_pure ⟨_, rfl, wpAny_pure h⟩) htake)
  | exact wpAny_bind (m := Builtin.Tuple.tupleExact _) (wpAny_newObj_type (wpAny_bind (wpAny_pure (wpAny_pure ⟨_, rfl, wpAny_pure h⟩))) htake)
  | exact wpAny_bind (wpAny_bind (m := Builtin.Tuple.tupleExact _) (wpAny_newObj_type (wpAny_pure (wpAny_pure ⟨_, rfl, wpAny_pure h⟩)) htake))
  | exact wpAny_bind (wpAny_bind (m := Builtin.Tuple.tupleExact _) (wpAny_newObj_type (wpAny_pure ⟨_, rfl, wpAny_pure h⟩) htake))
end
end HT
namespace L2
open PySem PySem.Spec PyProof.Rows
abbrev TO := St → Hp → (Option Int → Hp → Prop) → Prop
def PO (X : Cx) (e : Option Expr) (t : TO) : Prop :=
 ∀ (pins : List (Addr × Obj)) (s : Shared) (σ : St) (H : Hp) (Q : Option Int → Hp → Prop), Inv X pins σ H s → t σ H Q →
  wpAny (model X.prog X.w) X.A (evalPart e X.env) (fun u s' => ∃ o H', Inv X pins σ H' s' ∧ IsPart u o ∧ Q o H') X.xe s
def ziS : TO := fun _ H Q => Q none H
def zmz (t : TE) : TO := fun σ H Q => t σ H fun x H1 => ∃ i, x = .int i ∧ Q (some i) H1
section
variable {X : Cx} {e : Expr} {te : TE} {lo hi : Option Expr} {tl th : TO} {pos p2 : Pos}
theorem zgY : PO X none ziS := by
 intro pins s σ H Q I h
 rw [evalPart_none]
 exact wpAny_pure ⟨none, H, I, .none, h⟩
theorem zgX (h : PE X e te) : PO X (some e) (zmz te) := by
 intro pins s σ H Q I hw
 rw [evalPart_some]
 refine thn (h pins s σ H _ I hw) fun u s1 ⟨x, H1, I1, r1, q1⟩ => ?_
 obtain ⟨i, rfl, q⟩ := q1
 obtain ⟨t, rfl⟩ := r1
 exact ⟨some i, H1, I1, .int i t, q⟩
def SlR (X : Cx) (r : V → Option Int → Option Int → Hp → VK → Prop) : Prop :=
 ∀ (pins : List (Addr × Obj)) (s : Shared) (σ : St) (H : Hp) (x : V) (v vl vu : Value) (lo hi : Option Int) (sl : Addr) (Q : VK), Inv X pins σ H s → RelV x v → s.heap.IsSliceOf sl vl vu .none → IsPart vl lo → IsPart vu hi → r x lo hi H Q →
  ∃ T id, typeLookup (.type T) "__getitem__" = pure (some (.builtin id)) ∧ s.TypeIs v T ∧ wpAny (model X.prog X.w) X.A (getItem v (.ref sl)) (EP X pins σ Q) X.xe s
def tSl (r : V → Option Int → Option Int → Hp → VK → Prop) (te : TE) (tl th : TO) : TE := fun σ H Q => te σ H fun x H1 => tl σ H1 fun l H2 => th σ H2 fun u H3 => r x l u H3 Q
theorem ze9 {r : V → Option Int → Option Int → Hp → VK → Prop} (hr : SlR X r) (he : PE X e te) (hl : PO X lo tl) (hu : PO X hi th) : PE X (.Subscript e (.Slice lo hi none p2) pos) (tSl r te tl th) := by
 intro pins s σ H Q I h
 refine Subscript_ (thn (he pins s σ H _ I h) fun v s1 ⟨x, H1, I1, r1, q1⟩ => ?_)
 refine wpAny_Slice (thn (hl pins s1 σ H1 _ I1 q1) fun vl s2 ⟨l, H2, I2, pl, q2⟩ => thn (hu pins s2 σ H2 _ I2 q2) fun vu s3 ⟨u, H3, I3, pu, q3⟩ => ?_)
 rw [evalPart_none]
 refine wpAny_pure ?_
 have I4 : Inv X pins σ H3 { s3 with heap := s3.heap.push { cls := .type "slice", data := .fields #[vl, vu, .none] } } := I3.kept (t' := s3.toks) fun b ob q => Heap.get?_push_of_some _ q
 obtain ⟨T, id, hT, ht, hg⟩ := hr pins { s3 with heap := s3.heap.push { cls := .type "slice", data := .fields #[vl, vu, .none] } } σ H3 x v vl vu l u s3.heap.objs.size Q I4 r1 (Heap.IsSliceOf.new ..) pl pu q3
 show wpAny (model X.prog X.w) X.A (subscriptTail e (.Slice lo hi none p2) v (.ref s3.heap.objs.size)) (EP X pins σ Q) X.xe { s3 with heap := s3.heap.push { cls := .type "slice", data := .fields #[vl, vu, .none] } }
 exact tail_any (ops := [.ref s3.heap.objs.size, v]) ht hT hg (by with_unfolding_all rfl)
def cutV (xs : List V) (lo hi : Option Int) : List V := (xs.drop (HT.sIx xs.length 0 lo)).take (HT.sIx xs.length xs.length hi - HT.sIx xs.length 0 lo)
theorem zek (xs : List V) (lo hi : Option Int) : (cutV xs lo hi).length ≤ xs.length := by
 unfold cutV
 rw [List.length_take, List.length_drop]
 omega
def rSlT (K : PySem.W.Frag) : V → Option Int → Option Int → Hp → VK → Prop := fun x lo hi H Q => ∃ a xs, x = .ref a ∧ SqT K H a xs ∧
 ¬ (HT.sIx xs.length 0 lo = 0 ∧ HT.sIx xs.length xs.length hi = xs.length) ∧ ∀ p, H p = none → Q (.ref p) (upd H p (.tup (cutV xs lo hi)))
theorem zlZ : SlR X (rSlT X.K) := by
 intro pins s σ H x v vl vu lo hi sl Q I rx hs pl pu h
 obtain ⟨a, xs, rfl, hx, hw, q⟩ := h
 cases rx
 obtain ⟨its, r, ht, hz⟩ := I.tuple hx
 have hlen : its.toArray.size = xs.length := by rw [List.size_toArray]; exact r.length.symm
 refine ⟨"tuple", _, PyProof.Rows.slot_tuple_getitem.lookup, ht.typeIs, ?_⟩
 refine HT.getItem_tuple_cut ht hs pl pu (by rw [hlen]; exact hw) ?_ (by rw [hlen]; exact hz)
 rw [hlen]
 refine ⟨.ref s.heap.objs.size, _, I.laid (t' := s.toks) (o := .tup (cutV xs lo hi)) (fun b ob q => Heap.get?_push_of_some _ q) (Nat.le_refl _) ?_, rfl, q _ (I.hok.fresh (Nat.le_refl _))⟩
 exact ⟨Nat.le_trans (zek xs lo hi) hz, _, (r.drop (HT.sIx xs.length 0 lo)).take (HT.sIx xs.length xs.length hi - HT.sIx xs.length 0 lo), IsTupP.new _ _⟩
end
def ixN (n : Nat) (i : Int) : Option Nat := if 0 ≤ i then (if i < n then some i.toNat else none) else if -(n : Int) ≤ i then some (i + n).toNat else none
def atI {α : Type} (xs : List α) (i : Int) : Option α := (ixN xs.length i).bind fun j => xs[j]?
theorem zhn {n : Nat} {i : Int} {j : Nat} (h : ixN n i = some j) : seqIndex? i n = some j ∧ j < n ∧ -(n : Int) ≤ i ∧ i < n := by
 unfold ixN at h
 by_cases h0 : 0 ≤ i
 · rw [if_pos h0] at h
   by_cases h1 : i < n
   · rw [if_pos h1] at h
     have e : i.toNat = j := Option.some.inj h
     exact ⟨by rw [seqIndex_of h0 h1, e], by omega, by omega, h1⟩
   · rw [if_neg h1] at h; cases h
 · rw [if_neg h0] at h
   by_cases h1 : -(n : Int) ≤ i
   · rw [if_pos h1] at h
     have e : (i + n).toNat = j := Option.some.inj h
     exact ⟨by rw [seqIndex_neg (by omega) h1, e], by omega, h1, by omega⟩
   · rw [if_neg h1] at h; cases h
theorem zhx {α : Type} {xs : List α} {i : Int} {v : α} (h : atI xs i = some v) : ∃ j, seqIndex? i xs.length = some j ∧ xs[j]? = some v ∧ j < xs.length ∧ -(xs.length : Int) ≤ i ∧ i < xs.length := by
 unfold atI at h
 cases e : ixN xs.length i with
 | none => rw [e] at h; cases h
 | some j =>
  rw [e] at h
  obtain ⟨h1, h2, h3, h4⟩ := zhn e
  exact ⟨j, h1, h, h2, h3, h4⟩
theorem zdw {α : Type} {xs : List α} {j : Nat} {v : α} (h : xs[j]? = some v) : atI xs (j : Int) = some v := by
 have hj : j < xs.length := (List.getElem?_eq_some_iff.mp h).1
 have e : ixN xs.length (j : Int) = some j := by
  unfold ixN
  rw [if_pos (by omega), if_pos (by omega)]; simp
 unfold atI; rw [e]; exact h
def zlL (b : Expr) : Prop := ∀ o i, subscripted b false o i = operate [o, i] (getItem o i)
def IxR (X : Cx) (r : R2) : Prop :=
 ∀ (value slice : Expr) (pins : List (Addr × Obj)) (s : Shared) (σ : St) (H : Hp) (x y : V) (v u : Value) (Q : VK), Inv X pins σ H s → RelV x v → RelV y u → r x y H Q →
  subscripted slice false v u = operate [v, u] (getItem v u) → wpAny (model X.prog X.w) X.A (subscriptTail value slice v u) (EP X pins σ Q) X.xe s
def MtR (X : Cx) (id : String) (r : V → List V → Hp → VK → Prop) : Prop :=
 ∀ (pins : List (Addr × Obj)) (s : Shared) (σ : St) (H : Hp) (x : V) (xs : List V) (v : Value) (us : List Value) (Q : VK), Inv X pins σ H s → RelV x v → Vals xs us → r x xs H Q →
  wpAny (model X.prog X.w) X.A (call (.builtin id) (v :: us)) (EP X pins σ Q) X.xe s
section
variable {X : Cx} {a b : Expr} {ta tb : TE} {pos : Pos}
theorem zaE {r : R2} (hr : IxR X r) (ha : PE X a ta) (hb : PE X b tb) (hs : zlL b) : PE X (.Subscript a b pos) (tOp r ta tb) := by
 intro pins s σ H Q I h
 exact Subscript_ (binT ha hb I h fun v u s2 x y H2 I2 rx ry q => hr a b pins s2 σ H2 x y v u Q I2 rx ry q (hs _ _))
def rIxL (K : PySem.W.Frag) : R2 := fun x y H Q => ∃ p xs i v, x = .ref p ∧ y = .int i ∧ SqL K H p xs ∧ atI xs i = some v ∧ Q v H
def rIxT (K : PySem.W.Frag) : R2 := fun x y H Q => ∃ p xs i v, x = .ref p ∧ y = .int i ∧ SqT K H p xs ∧ atI xs i = some v ∧ Q v H
def rIxS : R2 := fun x y H Q => ∃ z i c, x = .str z ∧ y = .int i ∧ z.length ≤ sizeLine ∧ atI z.cps.toList i = some c ∧ Q (.str ⟨#[c]⟩) H
theorem zaJ : IxR X (rIxL X.K) := by
 intro value slice pins s σ H x y v u Q I rx ry h hs
 obtain ⟨p, xs, i, z, rfl, rfl, hq, he, q⟩ := h
 cases rx
 obtain ⟨t, rfl⟩ := ry
 obtain ⟨its, r, pl, hz⟩ := I.list hq
 obtain ⟨j, h1, h2, h3, h4, h5⟩ := zhx he
 obtain ⟨w, ew, rw'⟩ := r.get h2
 have hl := r.length
 have hn := zeE
 have fin : EP X pins σ Q w s := ⟨z, H, I, rw', q⟩
 by_cases h0 : 0 ≤ i
 · have hj : i.toNat = j := by
    rw [seqIndex_of h0 h5] at h1
    exact Option.some.inj h1
   exact item_listR pl.isList h0 (by omega) (by rw [hj]; simpa using ew) fin hs
 · have hj : (i + (its.toArray.size : Int)).toNat = j := by
    rw [seqIndex_neg (by omega) h4] at h1
    rw [List.size_toArray, ← hl]
    exact Option.some.inj h1
   exact subscriptTail_builtinR (x := w) pl.isList.typeIs slot_list_getitem.lookup
    (wpAny_getItem_list_neg (Q := fun r s' => r = w ∧ EP X pins σ Q r s') pl.isList (by omega) (by rw [List.size_toArray] <;> omega) (by omega) (by rw [hj]; simpa using ew) ⟨rfl, fin⟩) hs
theorem za8 : IxR X (rIxT X.K) := by
 intro value slice pins s σ H x y v u Q I rx ry h hs
 obtain ⟨p, xs, i, z, rfl, rfl, hq, he, q⟩ := h
 cases rx
 obtain ⟨t, rfl⟩ := ry
 obtain ⟨its, r, pl, hz⟩ := I.tuple hq
 obtain ⟨j, h1, h2, h3, h4, h5⟩ := zhx he
 obtain ⟨w, ew, rw'⟩ := r.get h2
 have hl := r.length
 have hn := zeE
 have fin : EP X pins σ Q w s := ⟨z, H, I, rw', q⟩
 exact subscriptTail_builtinR (x := w) pl.typeIs slot_tuple_getitem.lookup
  (getItem_tuple (j := j) (Q := fun r s' => r = w ∧ EP X pins σ Q r s') pl (by omega) (by omega) (by rw [List.size_toArray, ← hl]; exact h1) (by simpa using ew) ⟨rfl, fin⟩) hs
theorem zk5 : IxR X rIxS := by
 intro value slice pins s σ H x y v u Q I rx ry h hs
 obtain ⟨z, i, c, rfl, rfl, hz, he, q⟩ := h
 obtain ⟨t, rfl⟩ := rx
 obtain ⟨t', rfl⟩ := ry
 obtain ⟨j, h1, h2, h3, h4, h5⟩ := zhx he
 have hl : z.cps.toList.length = z.length := by simp [Str.length]
 rw [hl] at h1 h4 h5
 have hn := zeE
 exact tail_any (typeIs_str s z t) slot_str_getitem.lookup (getItem_str (c := c) (by
  have e1 : decide (i < -(2 ^ 63 : Int)) = false := decide_eq_false (by omega)
  have e2 : decide (i ≥ 2 ^ 63) = false := decide_eq_false (by omega)
  rw [e1, e2, Bool.or_false]) (by rw [h1]; simpa using h2) ⟨.str ⟨#[c]⟩, H, I.tok _, ⟨_, rfl⟩, q⟩) hs
theorem ziF (its : List Value) (n j : Nat) (u : Value) : Obj.mapSeq (·.setIfInBounds j u) { cls := .type "list", data := .seq its.toArray n } = { cls := .type "list", data := .seq (its.set j u).toArray n } := by
 simp [Obj.mapSeq]
theorem Inv.lst {pins : List (Addr × Obj)} {σ : St} {H : Hp} {s : Shared} {p : Addr} {xs : List V} (I : Inv X pins σ H s) (h : H p = some (.lst xs)) :
 ∃ (its : List Value) (n : Nat), Vals xs its ∧ s.heap.get? p = some { cls := .type "list", data := .seq its.toArray n } ∧ xs.length ≤ sizeLine := by
 obtain ⟨z, its, n, r, e⟩ := I.hok p _ h
 exact ⟨its, n, r, e, z⟩
theorem Inv.lstUpd {pins : List (Addr × Obj)} {σ : St} {H : Hp} {s : Shared} {p : Addr} {xs ys : List V} {its its' : List Value} {n n' : Nat} {f : Obj → Obj} (I : Inv X pins σ H s) (h : H p = some (.lst xs))
 (ho : s.heap.get? p = some { cls := .type "list", data := .seq its.toArray n }) (hf : f { cls := .type "list", data := .seq its.toArray n } = { cls := .type "list", data := .seq its'.toArray n' }) (r : Vals ys its') (hz : ys.length ≤ sizeLine) (t : Nat) :
 Inv X pins σ (upd H p (.lst ys)) { s with heap := s.heap.update p f, toks := t } := by
 have e : (s.heap.update p f).get? p = some { cls := .type "list", data := .seq its'.toArray n' } := by
  rw [Heap.get?_update_self f ho (by rw [hf] <;> rfl), hf]
 refine I.write (x := p) (e := p) (by rw [h]; trivial) (.inl rfl) (fun b u hb q => (Heap.get?_update_other _ _ (Ne.symm hb)).trans q) ⟨_, e⟩ ?_
 exact ⟨hz, its', n', r, e⟩
def zmH : V → V → V → Hp → (Hp → Prop) → Prop := fun o i v H Q => ∃ p xs k j, o = .ref p ∧ i = .int k ∧ H p = some (.lst xs) ∧ ixN xs.length k = some j ∧ Q (upd H p (.lst (xs.set j v)))
theorem zeY : PSet X zmH := by
 intro pins s σ H o i v ov iv u Q I ro ri rv h
 obtain ⟨p, xs, k, j, rfl, rfl, hp, hj, q⟩ := h
 cases ro
 obtain ⟨t, rfl⟩ := ri
 obtain ⟨its, n, r, ho, hz⟩ := I.lst hp
 obtain ⟨h1, h2, h3, h4⟩ := zhn hj
 have hl := r.length
 have hn := zeE
 have I' : Inv X pins σ (upd H p (.lst (xs.set j v))) { s with heap := s.heap.update p (Obj.mapSeq (·.setIfInBounds j u)) } :=
  I.lstUpd hp ho (ziF its n j u) (r.set rv j) (by rw [List.length_set]; exact hz) s.toks
 by_cases h0 : 0 ≤ k
 · have hk : k.toNat = j := by
    rw [seqIndex_of h0 h4] at h1
    exact Option.some.inj h1
   exact PySem.W.ki_setAt ho h0 (by omega) (by rw [List.size_toArray, ← hl]; exact h4) (by rw [hk]; exact ⟨_, I', q⟩)
 · have hk : (k + (its.toArray.size : Int)).toNat = j := by
    rw [seqIndex_neg (by omega) h3] at h1
    rw [List.size_toArray, ← hl]
    exact Option.some.inj h1
   exact PySem.W.ki_setBack ho (by omega) (by rw [List.size_toArray, ← hl]; exact h3) (by omega) (by rw [hk]; exact ⟨_, I', q⟩)
theorem zfF (lo hi : Option Int) (n : Nat) : (sliceBounds lo hi none n).1 = ((HT.sIx n 0 lo : Nat) : Int) ∧ (sliceBounds lo hi none n).2.1 = ((HT.sIx n n hi : Nat) : Int) ∧ (sliceBounds lo hi none n).2.2 = 1 := by
 refine ⟨?_, ?_, rfl⟩
 · cases lo with
   | none => simp [sliceBounds, HT.sIx]
   | some i =>
    simp only [sliceBounds, HT.sIx, Option.getD_none, show (1 : Int) > 0 by decide, if_true]
    by_cases h : i < 0
    · simp only [h, if_true] <;> omega
    · simp only [h, if_false] <;> omega
 · cases hi with
   | none => simp [sliceBounds, HT.sIx]
   | some i =>
    simp only [sliceBounds, HT.sIx, Option.getD_none, show (1 : Int) > 0 by decide, if_true]
    by_cases h : i < 0
    · simp only [h, if_true] <;> omega
    · simp only [h, if_false] <;> omega
theorem zeX (its : List Value) (lo hi : Option Int) : slicePick its.toArray lo hi none = ((its.drop (HT.sIx its.length 0 lo)).take (HT.sIx its.length its.length hi - HT.sIx its.length 0 lo)).toArray := by
 obtain ⟨h1, h2, h3⟩ := zfF lo hi its.toArray.size
 unfold slicePick
 rw [h1, h2, h3]
 simp only [sliceRange_one, pick_run, List.size_toArray] <;> rfl
def rSlL (K : PySem.W.Frag) : V → Option Int → Option Int → Hp → VK → Prop := fun x lo hi H Q => ∃ a xs, x = .ref a ∧ SqL K H a xs ∧ ∀ p, H p = none → Q (.ref p) (upd H p (.lst (cutV xs lo hi)))
theorem zi3 : SlR X (rSlL X.K) := by
 intro pins s σ H x v vl vu lo hi sl Q I rx hs pl pu h
 obtain ⟨a, xs, rfl, hx, q⟩ := h
 cases rx
 obtain ⟨its, r, ht, hz⟩ := I.list hx
 have hlen := r.length
 refine ⟨"list", _, slot_list_getitem.lookup, ht.isList.typeIs, ?_⟩
 refine wpAny_getItem_list_slice ht.isList hs pl pu .none (by simp) ?_ (by rw [List.size_toArray] <;> omega)
 rw [zeX, ← hlen]
 refine ⟨.ref s.heap.objs.size, _, I.laid (t' := s.toks) (o := .lst (cutV xs lo hi)) (fun b ob q => Heap.get?_push_of_some _ q) (Nat.le_refl _) ?_, rfl, q _ (I.hok.fresh (Nat.le_refl _))⟩
 exact ⟨Nat.le_trans (zek xs lo hi) hz, _, 0, (r.drop (HT.sIx xs.length 0 lo)).take (HT.sIx xs.length xs.length hi - HT.sIx xs.length 0 lo), Heap.get?_push_size _ rfl⟩
def zfp : V → Bool
 | .non => true
 | .bl _ => true
 | .int _ => true
 | .str _ => true
 | _ => false
def eqV : V → V → Bool
 | .non, .non => true
 | .bl a, .bl b => a == b
 | .bl a, .int b => (if a then 1 else 0) == b
 | .int a, .bl b => a == (if b then 1 else 0)
 | .int a, .int b => a == b
 | .str a, .str b => a == b
 | _, _ => false
theorem zmn {A : Around} {s : Shared} {y x : V} {u v : Value} (ry : RelV y u) (rx : RelV x v) (fy : zfp y = true) (fx : zfp x = true) : SeqAt.EqAt A s u v (eqV y x) := by
 cases y with
 | non =>
  cases ry
  cases x with
  | non => cases rx; exact SeqAt.EqAt.same _
  | bl b => cases rx; exact SeqAt.EqAt.none_bool b
  | int b => obtain ⟨t, rfl⟩ := rx; exact SeqAt.EqAt.none_int b t
  | str b => obtain ⟨t, rfl⟩ := rx; exact SeqAt.EqAt.none_str b t
  | _ => exact absurd (show false = true from fx) Bool.false_ne_true
 | bl a =>
  cases ry
  cases x with
  | non => cases rx; exact SeqAt.EqAt.bool_none a
  | bl b => cases rx; exact SeqAt.EqAt.bool_bool a b
  | int b => obtain ⟨t, rfl⟩ := rx; exact SeqAt.EqAt.bool_int a b t
  | str b => obtain ⟨t, rfl⟩ := rx; exact SeqAt.EqAt.bool_str a b t
  | _ => exact absurd (show false = true from fx) Bool.false_ne_true
 | int a =>
  obtain ⟨t', rfl⟩ := ry
  cases x with
  | non => cases rx; exact SeqAt.EqAt.int_none a t'
  | bl b => cases rx; exact SeqAt.EqAt.int_bool a t' b
  | int b => obtain ⟨t, rfl⟩ := rx; exact SeqAt.EqAt.int_int a t' b t
  | str b => obtain ⟨t, rfl⟩ := rx; exact SeqAt.EqAt.int_str a t' b t
  | _ => exact absurd (show false = true from fx) Bool.false_ne_true
 | str a =>
  obtain ⟨t', rfl⟩ := ry
  cases x with
  | non => cases rx; exact SeqAt.EqAt.str_none a t'
  | bl b => cases rx; exact SeqAt.EqAt.str_bool a t' b
  | int b => obtain ⟨t, rfl⟩ := rx; exact SeqAt.EqAt.str_int a t' b t
  | str b => obtain ⟨t, rfl⟩ := rx; exact SeqAt.EqAt.str_str a t' b t
  | _ => exact absurd (show false = true from fx) Bool.false_ne_true
 | _ => exact absurd (show false = true from fy) Bool.false_ne_true
def eqU (x : V) (u : Value) : Bool := match u with
 | .none => eqV .non x
 | .bool b => eqV (.bl b) x
 | .int i _ => eqV (.int i) x
 | .str z _ => eqV (.str z) x
 | _ => false
theorem zk6 {x y : V} {u : Value} (r : RelV y u) (f : zfp y = true) : eqU x u = eqV y x := by
 cases y with
 | non => cases r; rfl
 | bl b => cases r; rfl
 | int i => obtain ⟨t, rfl⟩ := r; rfl
 | str z => obtain ⟨t, rfl⟩ := r; rfl
 | _ => exact absurd (show false = true from f) Bool.false_ne_true
theorem zhz {x : V} : ∀ {xs : List V} {us : List Value}, Vals xs us → xs.all zfp = true → us.any (eqU x) = xs.any fun y => eqV y x
 | _, _, .nil, _ => rfl
 | y :: xs, u :: us, .cons r t, f => by
  rw [List.all_cons, Bool.and_eq_true] at f
  rw [List.any_cons, List.any_cons, zk6 r f.1, zhz t f.2]
theorem zfk {A : Around} {s : Shared} {x : V} {v : Value} (rx : RelV x v) (fx : zfp x = true) : ∀ {xs : List V} {us : List Value}, Vals xs us → xs.all zfp = true → ∀ u ∈ us, SeqAt.EqAt A s u v (eqU x u)
 | _, _, .nil, _ => fun u hu => by cases hu
 | y :: xs, u :: us, .cons r t, f => fun u' hu => by
  rw [List.all_cons, Bool.and_eq_true] at f
  rcases List.mem_cons.mp hu with rfl | hu
  · rw [zk6 r f.1]; exact zmn r rx f.1 fx
  · exact zfk rx fx t f.2 u' hu
def inV (x : V) (xs : List V) : Bool := xs.any fun y => eqV y x
def rIn (K : PySem.W.Frag) (neg : Bool) : R2 := fun x y H Q => ∃ p xs, y = .ref p ∧ (SqL K H p xs ∨ SqT K H p xs) ∧ zfp x = true ∧ xs.all zfp = true ∧ Q (.bl (if neg then !inV x xs else inV x xs)) H
theorem zjo : OpR X (compareOp .In) (rIn X.K false) := by
 intro pins s σ H x y v u Q I rx ry h
 obtain ⟨p, xs, rfl, hq, fx, fs, q⟩ := h
 cases ry
 rcases hq with hq | hq
 · obtain ⟨its, r, pl, hz⟩ := I.list hq
   refine SeqAt.in_listAt (eqU x) pl.isList (fun w hw => zfk rx fx r fs w (by simpa using hw)) ⟨.bl _, H, I, rfl, ?_⟩
   rw [show its.toArray.any (eqU x) = its.any (eqU x) by simp, zhz r fs]
   exact q
 · obtain ⟨its, r, pl, hz⟩ := I.tuple hq
   refine SeqAt.in_tupleAt (eqU x) pl (fun w hw => zfk rx fx r fs w (by simpa using hw)) ⟨.bl _, H, I, rfl, ?_⟩
   rw [show its.toArray.any (eqU x) = its.any (eqU x) by simp, zhz r fs]
   exact q
theorem zfO : OpR X (compareOp .NotIn) (fun x y H Q => ∃ i j, x = .str i ∧ y = .str j ∧ Q (.bl (!(!(Builtin.Str.occurrences j i 0 j.length 1).isEmpty))) H) := by
 intro pins s σ H x y v u Q I rx ry h
 obtain ⟨i, j, rfl, rfl, q⟩ := h
 obtain ⟨t, rfl⟩ := rx
 obtain ⟨t', rfl⟩ := ry
 exact notIn_str ⟨.bl _, H, I, rfl, q⟩
theorem zbe : zdj X (.builtin "len") (fun xs H Q => ∃ p ys, xs = [.ref p] ∧ (SqL X.K H p ys ∨ SqT X.K H p ys) ∧ Q (.int ys.length) H) := by
 intro pins s σ H xs us Q I r h
 obtain ⟨p, ys, rfl, hq, q⟩ := h
 obtain ⟨u, rfl, rx⟩ := zcu r
 cases rx
 have hn := zeE
 rcases hq with hq | hq
 · obtain ⟨its, r', pl, hz⟩ := I.list hq
   have hlen := r'.length
   exact Calls.call_len_list pl.isList (by simp only [List.size_toArray] <;> omega) ⟨.int ys.length, H, I.tok _, ⟨s.toks + 1, by rw [List.size_toArray, hlen]⟩, q⟩
 · obtain ⟨its, r', pl, hz⟩ := I.tuple hq
   have hlen := r'.length
   exact len_tuple pl (by simp only [List.size_toArray] <;> omega) ⟨.int ys.length, H, I.tok _, ⟨s.toks + 1, by rw [List.size_toArray, hlen]⟩, q⟩
theorem zcH : zdj X (.builtin "len") (fun xs H Q => ∃ z, xs = [.str z] ∧ z.length ≤ sizeLine ∧ Q (.int z.length) H) := by
 intro pins s σ H xs us Q I r h
 obtain ⟨z, rfl, hz, q⟩ := h
 obtain ⟨u, rfl, t, rfl⟩ := zcu r
 have hn := zeE
 exact len_str (by omega) ⟨.int z.length, H, I.tok _, ⟨_, rfl⟩, q⟩
theorem zaO : zdj X (.type "tuple") (fun xs H Q => ∃ p ys, xs = [.ref p] ∧ ((SqL X.K H p ys ∧ ∀ l, H l = none → Q (.ref l) (upd H l (.tup ys))) ∨ (SqT X.K H p ys ∧ Q (.ref p) H))) := by
 intro pins s σ H xs us Q I r h
 obtain ⟨p, ys, rfl, h⟩ := h
 obtain ⟨u, rfl, rx⟩ := zcu r
 cases rx
 rcases h with ⟨hq, q⟩ | ⟨hq, q⟩
 · obtain ⟨its, r', pl, hz⟩ := I.list hq
   have hlen := r'.length
   refine call_tuple_list pl.isList (fun h' kp => ?_) (by simp only [List.size_toArray] <;> omega)
   have I1 : Inv X pins σ H { s with heap := h' } := I.kept (t' := s.toks) kp
   have I2 : Inv X pins σ (upd H h'.objs.size (.tup ys)) { s with heap := h'.push { cls := .type "tuple", data := .seq its.toArray } } :=
    I1.laid (t' := s.toks) (fun b o e => Heap.get?_push_of_some _ e) (Nat.le_refl _) (show ObjOk X.prog X.w _ _ _ (.tup ys) from ⟨hz, its, r', IsTupP.new _ _⟩)
   exact ⟨.ref h'.objs.size, _, I2, rfl, q _ (I1.hok.fresh (Nat.le_refl _))⟩
 · obtain ⟨its, r', pl, hz⟩ := I.tuple hq
   exact call_tuple_same pl ⟨.ref p, H, I, rfl, q⟩
def tyV (K : PySem.W.Frag) (T : String) (x : V) (H : Hp) : Prop := match x with
 | .str _ => T = "str"
 | .int _ => T = "int"
 | .ref p => (T = "list" ∧ ∃ xs, SqL K H p xs) ∨ (T = "tuple" ∧ ∃ o, K.lookup p = some o ∧ o.cls = .type "tuple" ∧ o.dict = none) ∨
  (T = "dict" ∧ ((∃ kvs, H p = some (.dK kvs)) ∨ ∃ kvs, H p = some (.dT kvs))) ∨ (T = "set" ∧ ∃ S n, H p = some (.set S n))
 | _ => False
theorem zlR {pins : List (Addr × Obj)} {σ : St} {H : Hp} {s : Shared} {T : String} {x : V} {v : Value} (I : Inv X pins σ H s) (r : RelV x v) (ty : tyV X.K T x H) :
 s.TypeIs v T ∧ ∀ a, v = .ref a → ∃ ob, s.heap.get? a = some ob ∧ ob.dict = none := by
 cases x with
 | str z =>
  obtain ⟨t, rfl⟩ := r
  cases (show T = "str" from ty)
  exact ⟨typeIs_str s z t, fun _ e => nomatch e⟩
 | int i =>
  obtain ⟨t, rfl⟩ := r
  cases (show T = "int" from ty)
  exact ⟨typeIs_int s i t, fun _ e => nomatch e⟩
 | ref p =>
  cases r
  rcases ty with ⟨rfl, xs, hq⟩ | ⟨rfl, o, hk, hc, hd⟩ | ⟨rfl, hk⟩ | ⟨rfl, S, n, hk⟩
  · obtain ⟨its, _, pl, _⟩ := I.list hq
    refine ⟨pl.isList.typeIs, fun a e => ?_⟩
    cases e
    obtain ⟨o, n, e, c, hd, _⟩ := pl
    exact ⟨o, e, hd⟩
  · refine ⟨⟨o, I.kIn p o hk, hc⟩, fun a e => ?_⟩
    cases e
    exact ⟨o, I.kIn _ o hk, hd⟩
  · have z : ∃ o, s.heap.get? p = some o ∧ o.ExactDict := by
     rcases hk with ⟨kvs, hk⟩ | ⟨kvs, hk⟩
     · obtain ⟨_, _, _, _, o, _, _, e, ex, _⟩ := I.hok p _ hk
       exact ⟨o, e, ex⟩
     · obtain ⟨_, _, _, _, o, _, _, e, ex, _⟩ := I.hok p _ hk
       exact ⟨o, e, ex⟩
    obtain ⟨o, e, ex⟩ := z
    refine ⟨⟨o, e, ex.1⟩, fun a e2 => ?_⟩
    cases e2
    exact ⟨o, e, ex.2.1⟩
  · obtain ⟨o, _, _, _, e, ex, _⟩ := I.hok p _ hk
    refine ⟨⟨o, e, ex.1⟩, fun a e2 => ?_⟩
    cases e2
    exact ⟨o, e, ex.2.1⟩
 | _ => exact False.elim ty
def tBM (K : PySem.W.Frag) (T : String) (r : V → List V → Hp → VK → Prop) (to : TE) (t : TA) : TE := fun σ H Q => to σ H fun x H1 => tyV K T x H1 ∧ t σ H1 fun xs H2 => r x xs H2 Q
variable {o e : Expr} {es : List Expr} {to : TE} {t : TA} {name : Str} {apos cpos : Pos} {T id : String} {r : V → List V → Hp → VK → Prop}
theorem zdq (pa : PlainAttrs T) (slot : Slot T name id) (hty : typeOf (.builtin id) = pure (.type "method_descriptor")) (hm : MtR X id r) (ho : PE X o to) (ha : PA X (e :: es) t)
 (hbase : attributeBase o name X.env (eval o X.env) = eval o X.env := by rfl)
 (hfew : ((backTo cpos (starEach (e :: es) X.env)).all (fun x => !x.1) && (backToKw cpos (keywordEach [] X.env)).all (fun x => x.1.isSome)
  && decide ((e :: es).length + ([] : List Keyword).length + (if ([] : List Keyword).isEmpty then 0 else 1) < 30)) = true := by rfl)
 (hline : (apos.endLine == cpos.line) = true := by rfl) (hs : starEach (e :: es) X.env = (false, eval e X.env) :: starEach es X.env := by rfl) (hplain : (backTo cpos (starEach es X.env)).any (·.1) = false := by rfl) :
 PE X (.Call (.Attribute o name apos) (e :: es) [] cpos) (tBM X.K T r to t) := by
 intro pins s σ H Q I h
 refine wpAny_Call_method_late hbase hfew hline rfl (thn (ho pins s σ H _ I h) fun v s1 ⟨x, H1, I1, r1, ty, q1⟩ => ?_)
 obtain ⟨h1, h2⟩ := zlR I1 r1 ty
 refine ⟨T, id, pa, slot, hty, h1, h2, ?_⟩
 have hA := ha cpos pins s1 σ H1 _ I1 q1
 rw [hs] at hA ⊢
 refine Calls.callWith_builtin (by show (false || (backTo cpos (starEach es X.env)).any (·.1)) = false; rw [hplain] <;> rfl) (Calls.evalArgs_plain ?_)
 exact thn hA fun us s2 ⟨vs, H2, I2, r2, q2⟩ => hm pins s2 σ H2 x vs v us Q I2 r1 r2 q2
end
def MtM (X : Cx) (id : String) (r : V → List V → Hp → VK → Prop) : Prop :=
 ∀ (pins : List (Addr × Obj)) (s : Shared) (σ : St) (H : Hp) (x : V) (xs : List V) (v : Value) (us : List Value) (Q : VK), Inv X pins σ H s → RelV x v → Vals xs us → r x xs H Q →
  wpAny (model X.prog X.w) X.A (call (.builtin id) (v :: us)) (EP X pins σ Q) X.xe s
theorem Vals.one : ∀ {x : V} {us : List Value}, Vals [x] us → ∃ u, us = [u] ∧ RelV x u
 | _, _, .cons r .nil => ⟨_, rfl, r⟩
theorem Vals.eraseIdx : ∀ {xs : List V} {us : List Value} (i : Nat), Vals xs us → Vals (xs.eraseIdx i) (us.eraseIdx i)
 | _, _, _, .nil => .nil
 | _, _, 0, .cons _ t => t
 | _, _, i + 1, .cons r t => .cons r (Vals.eraseIdx i t)
theorem zf3 {α : Type} : ∀ (l : List α) (i : Nat), (l.eraseIdx i).length ≤ l.length
 | [], _ => Nat.le_refl _
 | _ :: _, 0 => Nat.le_succ _
 | _ :: r, i + 1 => Nat.succ_le_succ (zf3 r i)
section
variable {X : Cx} {pins : List (Addr × Obj)} {σ : St} {H : Hp} {s : Shared} {l b : Addr} {xs ys zs : List V}
theorem Inv.lset {its its' : List Value} {n : Nat} {f : Array Value → Array Value} {t' : Nat} (I : Inv X pins σ H s) (hH : H l = some (.lst xs))
 (e : s.heap.get? l = some { cls := .type "list", data := .seq its.toArray n }) (hf : f its.toArray = its'.toArray) (hv : Vals ys its') (hz : ys.length ≤ sizeLine) :
 Inv X pins σ (upd H l (.lst ys)) { s with heap := s.heap.update l (Obj.mapSeq f), toks := t' } := by
 have q := PySem.IsL.update e f
 rw [hf] at q
 refine I.write (x := l) (e := l) (by rw [hH]; exact trivial) (.inl rfl) (fun b' u hb hu => (Heap.get?_update_other s.heap (Obj.mapSeq f) (Ne.symm hb)).trans hu) ⟨_, q⟩ ?_
 exact ⟨hz, its', _, hv, q⟩
theorem Inv.lnew {its : List Value} {t' : Nat} (I : Inv X pins σ H s) (hv : Vals ys its) (hz : ys.length ≤ sizeLine) :
 Inv X pins σ (upd H s.heap.objs.size (.lst ys)) { s with heap := s.heap.push { cls := .type "list", data := .seq its.toArray }, toks := t' } :=
 I.laid (fun _ _ q => Heap.get?_push_of_some _ q) (Nat.le_refl _) ⟨hz, its, 0, hv, Heap.get?_push_size _ rfl⟩
theorem Inv.fresh (I : Inv X pins σ H s) : H s.heap.objs.size = none := I.hok.fresh (Nat.le_refl _)
theorem Inv.lstM (I : Inv X pins σ H s) (hH : H l = some (.lst xs)) : xs.length ≤ sizeLine ∧ ∃ (its : List Value) (n : Nat), Vals xs its ∧ xs.length = its.length ∧ s.heap.get? l = some { cls := .type "list", data := .seq its.toArray n } := by
 obtain ⟨z, its, n, r, e⟩ := I.hok l _ hH
 exact ⟨z, its, n, r, r.length, e⟩
theorem notLongL {n : Nat} (h : n ≤ sizeLine) : Builtin.List.listTooLong n = false := by
 unfold Builtin.List.listTooLong
 exact decide_eq_false (by omega)
end
section
variable {X : Cx}
def zln : V → List V → Hp → VK → Prop := fun x vs H Q => ∃ l xs y, x = .ref l ∧ vs = [y] ∧ H l = some (.lst xs) ∧ xs.length < sizeLine ∧ Q .non (upd H l (.lst (xs ++ [y])))
theorem zbm : MtM X "list.append" zln := by
 intro pins s σ H x vs v us Q I rx rv h
 obtain ⟨l, xs, y, rfl, rfl, hH, hz, q⟩ := h
 cases rx
 obtain ⟨u, rfl, ru⟩ := rv.one
 obtain ⟨z, its, n, r, hl, e⟩ := I.lstM hH
 refine call_meets F.slot_list_append ⟨_, e, rfl⟩ F.entry_list_append (F.args_list_append_2 _ _) (PySem.list_append l its.toArray n u (by rw [List.size_toArray]; omega)) ⟨e, ?_⟩
 refine ⟨.non, _, I.lset (its' := its ++ [u]) hH e (by simp) (r.append (.cons ru .nil)) ?_, rfl, q⟩
 rw [List.length_append, List.length_singleton]
 omega
def zl5 : V → List V → Hp → VK → Prop := fun x vs H Q => ∃ l xs i k y, x = .ref l ∧ vs = [.int i] ∧ H l = some (.lst xs) ∧ -(2 ^ 63) ≤ i ∧ i < 2 ^ 63 ∧ seqIndex? i xs.length = some k ∧ xs[k]? = some y ∧ Q y (upd H l (.lst (xs.eraseIdx k)))
theorem zkz : MtM X "list.pop" zl5 := by
 intro pins s σ H x vs v us Q I rx rv h
 obtain ⟨l, xs, i, k, y, rfl, rfl, hH, h1, h2, hk, hy, q⟩ := h
 cases rx
 obtain ⟨u, rfl, ru⟩ := rv.one
 obtain ⟨t, rfl⟩ := ru
 obtain ⟨z, its, n, r, hl, e⟩ := I.lstM hH
 obtain ⟨w, hw, rw'⟩ := r.get hy
 refine call_meets F.slot_list_pop ⟨_, e, rfl⟩ F.entry_list_pop (F.args_list_pop_2 _ _)
  (MeetsSeq.list_pop_at l its.toArray n i t k w (fitsIndex_both h1 h2) (by rw [List.size_toArray, ← hl]; exact hk) (by rw [← Array.getElem?_toList]; exact hw) (by rw [List.size_toArray]; omega)) ⟨e, ?_⟩
 refine ⟨y, _, I.lset (its' := its.eraseIdx k) hH e ?_ (r.eraseIdx k) ?_, rw', q⟩
 · show its.toArray.eraseIdxIfInBounds k = (its.eraseIdx k).toArray
   rw [List.eraseIdxIfInBounds_toArray]
 · have := zf3 xs k
   omega
def rCat : R2 := fun x y H Q => ∃ l b xs zs, x = .ref l ∧ y = .ref b ∧ H l = some (.lst xs) ∧ H b = some (.lst zs) ∧ xs.length + zs.length ≤ sizeLine ∧ ∀ p, H p = none → Q (.ref p) (upd H p (.lst (xs ++ zs)))
theorem zhR : OpR X (binaryOp .Add) rCat := by
 intro pins s σ H x y v u Q I rx ry h
 obtain ⟨l, b, xs, zs, rfl, rfl, hH, hB, hz, q⟩ := h
 cases rx
 cases ry
 obtain ⟨z, its, n, r, hl, e⟩ := I.lstM hH
 obtain ⟨z2, its2, n2, r2, hl2, e2⟩ := I.lstM hB
 refine PySem.P.add_list e e2 ?_ (by rw [List.size_toArray, List.size_toArray]; omega)
 have ea : its.toArray ++ its2.toArray = (its ++ its2).toArray := by simp
 rw [ea]
 exact ⟨.ref _, _, I.lnew (t' := s.toks) (r.append r2) (by rw [List.length_append]; omega), rfl, q _ I.fresh⟩
end
section
variable {prog : Program} {w : World} {A : Around} {E : Value → Shared → Prop} {s : Shared}
set_option maxRecDepth 100000 in
end
section
variable {X : Cx}
end
section
variable {κ : Type} [DecidableEq κ]
def valV (kvs : List (κ × V)) (k : κ) : Option V := (kvs.find? fun kv => decide (kv.1 = k)).map (·.2)
def putK (kvs : List (κ × V)) (k : κ) (v : V) : List (κ × V) :=
 if (kvs.any fun kv => decide (kv.1 = k)) = true then kvs.map (fun kv => if kv.1 = k then (kv.1, v) else kv) else kvs ++ [(k, v)]
theorem za9 {p : κ × V} {r : List (κ × V)} {k : κ} (e : p.1 = k) : valV (p :: r) k = some p.2 := by simp [valV, List.find?_cons, e]
theorem zba {p : κ × V} {r : List (κ × V)} {k : κ} (e : ¬ p.1 = k) : valV (p :: r) k = valV r k := by simp [valV, List.find?_cons, e]
theorem zdI (k : κ) : ∀ kvs : List (κ × V), (kvs.any fun kv => decide (kv.1 = k)) = (valV kvs k).isSome
 | [] => rfl
 | p :: r => by
  rw [List.any_cons]
  by_cases e : p.1 = k
  · simp only [za9 e, decide_eq_true e, Bool.true_or, Option.isSome_some]
  · rw [zba e, decide_eq_false e, Bool.false_or]; exact zdI k r
theorem zhD (k j : κ) (y : V) : ∀ kvs : List (κ × V), valV (kvs.map fun kv => if kv.1 = k then (kv.1, y) else kv) j = (valV kvs j).map fun x => if j = k then y else x
 | [] => rfl
 | p :: r => by
  have ih := zhD k j y r
  rw [List.map_cons]
  by_cases h : p.1 = k
  · rw [if_pos h]
    by_cases e : p.1 = j
    · rw [za9 (p := (p.1, y)) e, za9 e, Option.map_some, if_pos (e.symm.trans h)]
    · rw [zba (p := (p.1, y)) e, zba e, ih]
  · rw [if_neg h]
    by_cases e : p.1 = j
    · rw [za9 (p := p) e, za9 e, Option.map_some, if_neg (fun z => h (e.trans z))]
    · rw [zba (p := p) e, zba e, ih]
theorem zfy (k j : κ) (y : V) : ∀ kvs : List (κ × V), valV kvs k = none → valV (kvs ++ [(k, y)]) j = if j = k then some y else valV kvs j
 | [], _ => by
  by_cases e : k = j
  · rw [if_pos e.symm]; exact za9 (p := (k, y)) e
  · rw [if_neg (fun z => e z.symm)]; exact zba (p := (k, y)) e
 | p :: r, hn => by
  rw [List.cons_append]
  have hk : ¬ p.1 = k := fun z => by rw [za9 z] at hn; cases hn
  rw [zba hk] at hn
  have ih := zfy k j y r hn
  by_cases e : p.1 = j
  · rw [za9 e, za9 e, if_neg (fun z => hk (e.trans z))]
  · rw [zba e, zba e, ih]
theorem zdH (kvs : List (κ × V)) (k j : κ) (y : V) : valV (putK kvs k y) j = if j = k then some y else valV kvs j := by
 unfold putK
 by_cases a : (kvs.any fun kv => decide (kv.1 = k)) = true
 · rw [if_pos a, zhD]
   rw [zdI] at a
   by_cases e : j = k
   · obtain ⟨x, hx⟩ := Option.isSome_iff_exists.mp a
     rw [if_pos e, e, hx, Option.map_some, if_pos rfl]
   · rw [if_neg e]
     cases valV kvs j with
     | none => rfl
     | some x => rw [Option.map_some, if_neg e]
 · rw [if_neg a]
   refine zfy k j y kvs ?_
   rw [zdI] at a
   cases q : valV kvs k with
   | none => rfl
   | some x => rw [q] at a; exact (a rfl).elim
theorem zbr (kvs : List (κ × V)) (k : κ) (v : V) : (putK kvs k v).length ≤ kvs.length + 1 := by
 unfold putK
 split
 · rw [List.length_map]; omega
 · rw [List.length_append, List.length_cons, List.length_nil]; omega
theorem RelO.isSome_eq {o : Option V} {u : Option Value} (r : RelO o u) : o.isSome = u.isSome := by
 cases o with
 | none => cases u with
  | none => rfl
  | some _ => exact (show False from r).elim
 | some _ => cases u with
  | none => exact (show False from r).elim
  | some _ => rfl
theorem RelO.getD {o : Option V} {u : Option Value} {d : V} {d' : Value} (r : RelO o u) (rd : RelV d d') : RelV (o.getD d) (u.getD d') := by
 cases o with
 | none => cases u with
  | none => exact rd
  | some _ => exact (show False from r).elim
 | some _ => cases u with
  | none => exact (show False from r).elim
  | some _ => exact r
theorem KV.val {kvs : List (κ × V)} {vs : List (κ × Value)} (r : KV kvs vs) (k : κ) : RelO (valV kvs k) (valueAt vs k) := by
 unfold KV at r
 induction r with
 | nil => exact True.intro
 | @cons p q ps qs h t ih =>
  obtain ⟨h1, h2⟩ := h
  by_cases e : p.1 = k
  · have e' : q.1 = k := h1.symm.trans e
    have b : valueAt (q :: qs) k = some q.2 := by simp [valueAt, List.find?_cons, e']
    rw [za9 e, b]; exact h2
  · have e' : ¬ q.1 = k := fun z => e (h1.trans z)
    have b : valueAt (q :: qs) k = valueAt qs k := by simp [valueAt, List.find?_cons, e']
    rw [zba e, b]; exact ih
theorem KV.any {kvs : List (κ × V)} {vs : List (κ × Value)} (r : KV kvs vs) (k : κ) : (kvs.any fun kv => decide (kv.1 = k)) = vs.any fun kv => decide (kv.1 = k) := by
 unfold KV at r
 induction r with
 | nil => rfl
 | cons h t ih => rw [List.any_cons, List.any_cons, ih, h.1]
theorem KV.repl {kvs : List (κ × V)} {vs : List (κ × Value)} (r : KV kvs vs) (k : κ) {y : V} {u : Value} (ry : RelV y u) :
 KV (kvs.map fun kv => if kv.1 = k then (kv.1, y) else kv) (vs.map fun kv => if kv.1 = k then (kv.1, u) else kv) := by
 unfold KV at r ⊢
 induction r with
 | nil => exact .nil
 | @cons p q ps qs h t ih =>
  rw [List.map_cons, List.map_cons]
  refine .cons ?_ ih
  obtain ⟨h1, h2⟩ := h
  by_cases e : p.1 = k
  · rw [if_pos e, if_pos (h1.symm.trans e)]; exact ⟨h1, ry⟩
  · rw [if_neg e, if_neg (fun z => e (h1.trans z))]; exact ⟨h1, h2⟩
theorem KV.put {kvs : List (κ × V)} {vs : List (κ × Value)} (r : KV kvs vs) (k : κ) {y : V} {u : Value} (ry : RelV y u) : KV (putK kvs k y) (stored vs k u) := by
 unfold putK stored
 rw [r.any k]
 by_cases e : (vs.any fun kv => decide (kv.1 = k)) = true
 · rw [if_pos e, if_pos e]; exact r.repl k ry
 · rw [if_neg e, if_neg e]; exact Paired.snoc r ⟨rfl, ry⟩
theorem KV.length {kvs : List (κ × V)} {vs : List (κ × Value)} (r : KV kvs vs) : kvs.length = vs.length := Paired.length r
end
theorem zf7 {P : Program} {w : World} {k : Key} {u : Value} (r : RelV (kV k) u) : (zaB P w).is k u = true := by
 cases k with
 | inl i => obtain ⟨t, e⟩ := (show ∃ t, u = Value.int i t from r); subst e; exact zhg P w i t
 | inr x => obtain ⟨t, e⟩ := (show ∃ t, u = Value.str x t from r); subst e; exact zhf P w x t
theorem zf8 {P : Program} {w : World} : ∀ {ks : List Key} {us : List Value}, Vals (ks.map kV) us → ItemsAre (zaB P w) ks us
 | [], _, r => by rw [List.map_nil] at r; cases r; exact .nil
 | k :: ks, _, r => by
  rw [List.map_cons] at r
  cases r with
  | cons h t => exact .cons (zf7 h) (zf8 t)
abbrev KT (H : Hp) : List (List Key × V) → List (List Key × Addr × Value) → Prop := Paired fun p q => p.1 = q.1 ∧ H q.2.1 = some (.tup (p.1.map kV)) ∧ RelV p.2 q.2.2
theorem KT.val {H : Hp} {kvs : List (List Key × V)} {xs : List (List Key × Addr × Value)} (r : KT H kvs xs) (k : List Key) : RelO (valV kvs k) ((atKey xs k).map (·.2)) := by
 induction r with
 | nil => exact True.intro
 | @cons p q ps qs h t ih =>
  obtain ⟨h1, _, h2⟩ := h
  by_cases e : p.1 = k
  · have e' : q.1 = k := h1.symm.trans e
    have b : atKey (q :: qs) k = some q.2 := by simp [atKey, List.find?_cons, e']
    rw [za9 e, b]; exact h2
  · have e' : ¬ q.1 = k := fun z => e (h1.trans z)
    have b : atKey (q :: qs) k = atKey qs k := by simp [atKey, List.find?_cons, e']
    rw [zba e, b]; exact ih
theorem KT.repl {H : Hp} {kvs : List (List Key × V)} {xs : List (List Key × Addr × Value)} (r : KT H kvs xs) (k : List Key) {y : V} {u : Value} (ry : RelV y u) :
 KT H (kvs.map fun kv => if kv.1 = k then (kv.1, y) else kv) (xs.map (putAt k u)) := by
 induction r with
 | nil => exact .nil
 | @cons p q ps qs h t ih =>
  rw [List.map_cons, List.map_cons]
  refine .cons ?_ ih
  obtain ⟨h1, h2, h3⟩ := h
  unfold putAt
  by_cases e : p.1 = k
  · rw [if_pos e, if_pos (h1.symm.trans e)]; exact ⟨h1, h2, ry⟩
  · rw [if_neg e, if_neg (fun z => e (h1.trans z))]; exact ⟨h1, h2, h3⟩
theorem KT.put {H : Hp} {kvs : List (List Key × V)} {xs : List (List Key × Addr × Value)} (r : KT H kvs xs) (k : List Key) {b : Addr} {y : V} {u : Value} (hb : H b = some (.tup (k.map kV))) (ry : RelV y u) :
 KT H (putK kvs k y) (storedH xs k b u) := by
 have e : (kvs.any fun kv => decide (kv.1 = k)) = (atKey xs k).isSome := by
  rw [zdI, (r.val k).isSome_eq, Option.isSome_map]
 unfold putK storedH
 rw [e]
 by_cases q : (atKey xs k).isSome = true
 · rw [if_pos q, if_pos q]; exact r.repl k ry
 · rw [if_neg q, if_neg q]; exact Paired.snoc r ⟨rfl, hb, ry⟩
theorem KT.keeps {H H' : Hp} {kvs : List (List Key × V)} {xs : List (List Key × Addr × Value)} (r : KT H kvs xs) (ht : ∀ b ys, H b = some (.tup ys) → H' b = some (.tup ys)) : KT H' kvs xs :=
 Paired.mapP r fun _ _ z => ⟨z.1, ht _ _ z.2.1, z.2.2⟩
section
variable {P : Program} {w : World} {H : Hp} {h : Heap} {a : Addr}
theorem zl2 {u : HO} (ok : HOk P w H h) (e : Rd H a u) : ObjOk P w H h a u := e.ok ok
theorem zhr {kvs : List (Key × V)} (ok : HOk P w H h) (e : Rd H a (.dK kvs)) : kvs.length ≤ sizeLine ∧ (a == sysModules) = false ∧ ∃ vs, KV kvs vs ∧ h.DictOf (zaB P w) a vs :=
 show ObjOk P w H h a (.dK kvs) from zl2 ok e
theorem zlE {kvs : List (Key × V)} (ok : HOk P w H h) (e : H a = some (.dK kvs)) : kvs.length ≤ sizeLine ∧ (a == sysModules) = false ∧ ∃ vs, KV kvs vs ∧ h.DictOf (zaB P w) a vs := zhr ok (.inl e)
theorem zeG {ks : List Key} (ok : HOk P w H h) (e : H a = some (.tup (ks.map kV))) : (tupleKind (zaB P w)).is h ks a := by
 obtain ⟨_, its, r, o, h1, h2, _, n, h3⟩ := (show ObjOk P w H h a (.tup (ks.map kV)) from ok a _ e)
 exact ⟨o, its.toArray, n, h1, h2, h3, by simpa using zf8 r⟩
theorem zhq {kvs : List (List Key × V)} (ok : HOk P w H h) (e : Rd H a (.dT kvs)) : kvs.length ≤ sizeLine ∧ (a == sysModules) = false ∧
 ∃ xs, KT H kvs xs ∧ h.DictOfH (tupleKind (zaB P w)) a xs := by
 obtain ⟨z, y, xs, r, o, es, ep, h1, h2, h3, h4, h5⟩ := (show ObjOk P w H h a (.dT kvs) from zl2 ok e)
 refine ⟨z, y, xs, r, o, es, ep, h1, h2, h3, h4, fun x hx => ?_, h5⟩
 have all : ∀ {l : List (List Key × V)} {m : List (List Key × Addr × Value)}, KT H l m → ∀ x ∈ m, (tupleKind (zaB P w)).is h x.1 x.2.1 := by
  intro l m q
  induction q with
  | nil => intro x hx; exact nomatch hx
  | @cons p q ps qs hq t ih =>
   intro x hx
   rcases List.mem_cons.mp hx with e | hx
   · subst e
     exact zeG ok (by rw [← hq.1]; exact hq.2.1)
   · exact ih x hx
 exact all r x hx
theorem zmU {kvs : List (List Key × V)} (ok : HOk P w H h) (e : H a = some (.dT kvs)) : kvs.length ≤ sizeLine ∧ (a == sysModules) = false ∧
 ∃ xs, KT H kvs xs ∧ h.DictOfH (tupleKind (zaB P w)) a xs := zhq ok (.inl e)
end
def DGet (H : Hp) (a : Addr) (y : V) (r : Option V) : Prop :=
 (∃ kvs k, Rd H a (.dK kvs) ∧ y = kV k ∧ r = valV kvs k) ∨ ∃ kvs k b, Rd H a (.dT kvs) ∧ y = .ref b ∧ H b = some (.tup (k.map kV)) ∧ r = valV kvs k
def DPut (H : Hp) (a : Addr) (y v : V) (H' : Hp) : Prop :=
 (∃ kvs k, H a = some (.dK kvs) ∧ y = kV k ∧ kvs.length < sizeLine ∧ H' = upd H a (.dK (putK kvs k v))) ∨
 ∃ kvs k b, H a = some (.dT kvs) ∧ y = .ref b ∧ H b = some (.tup (k.map kV)) ∧ kvs.length < sizeLine ∧ H' = upd H a (.dT (putK kvs k v))
theorem DGet.k {H : Hp} {a : Addr} {kvs : List (Key × V)} {k : Key} (e : H a = some (.dK kvs)) : DGet H a (kV k) (valV kvs k) := .inl ⟨kvs, k, .inl e, rfl, rfl⟩
theorem DPut.k {H : Hp} {a : Addr} {kvs : List (Key × V)} {k : Key} {v : V} (e : H a = some (.dK kvs)) (hl : kvs.length < sizeLine) : DPut H a (kV k) v (upd H a (.dK (putK kvs k v))) := .inl ⟨kvs, k, e, rfl, hl, rfl⟩
section
variable {X : Cx} {pins : List (Addr × Obj)} {σ : St} {H : Hp} {s : Shared} {a : Addr} {y v : V} {u r : Value} {o : Option V} {A : Around} {E : Value → Shared → Prop}
theorem Inv.big (I : Inv X pins σ H s) : sysModules < s.heap.objs.size := by
 have h : mainGlobals < s.heap.objs.size := (I.mod.glob.keeps I.bk).lt
 exact Nat.lt_trans (by decide) h
theorem zj4 {Q : Value → Shared → Prop} (hu : A.units + 1 < cLine) (I : Inv X pins σ H s) (g : DGet H a y (some v)) (ry : RelV y u) (h : ∀ w' s', Inv X pins σ H s' → RelV v w' → Q w' s') :
 wpAny (model X.prog X.w) A (getItem (.ref a) u) Q E s := by
 rcases g with ⟨kvs, k, e, ey, l⟩ | ⟨kvs, k, b, e, ey, eb, l⟩
 · subst ey
   obtain ⟨z, hd, vs, rel, dd⟩ := zhr I.hok e
   obtain ⟨w', hw, rw'⟩ := RelO.some_of (v := v) (o := valueAt vs k) (by rw [l]; exact rel.val k)
   exact wpAny_getItem_of (zf7 ry) dd.mapOf hw (h w' _ (I.tok _) rw')
 · subst ey
   cases (show u = Value.ref b from ry)
   obtain ⟨z, hd, xs, rel, dd⟩ := zhq I.hok e
   obtain ⟨w', hw, rw'⟩ := RelO.some_of (v := v) (o := (atKey xs k).map (·.2)) (by rw [l]; exact rel.val k)
   obtain ⟨p, hp, hp2⟩ := Option.map_eq_some_iff.mp hw
   refine wpAny_getItem_heap (tupleKind_room_in1 hu) (zeG I.hok eb) dd hp ?_
   rw [hp2]
   exact h w' _ (I.tok _) rw'
theorem d_in {Q : Value → Shared → Prop} (hu : A.units + 1 < cLine) (I : Inv X pins σ H s) (g : DGet H a y o) (ry : RelV y u) (h : ∀ s', Inv X pins σ H s' → Q (.bool o.isSome) s') :
 wpAny (model X.prog X.w) A (compareOp .In u (.ref a)) Q E s := by
 rcases g with ⟨kvs, k, e, ey, l⟩ | ⟨kvs, k, b, e, ey, eb, l⟩
 · subst ey
   obtain ⟨z, hd, vs, rel, dd⟩ := zhr I.hok e
   refine wpAny_in_of (zf7 ry) hd dd.mapOf ?_
   rw [← (rel.val k).isSome_eq, ← l]
   exact h _ (I.tok _)
 · subst ey
   cases (show u = Value.ref b from ry)
   obtain ⟨z, hd, xs, rel, dd⟩ := zhq I.hok e
   refine wpAny_in_heap (tupleKind_room_in1 hu) (zeG I.hok eb) hd dd ?_
   have q := (rel.val k).isSome_eq
   rw [Option.isSome_map] at q
   rw [← q, ← l]
   exact h _ (I.tok _)
theorem zlF {Q : Value → Shared → Prop} (hu : A.units + 1 < cLine) (I : Inv X pins σ H s) (g : DGet H a y o) (ry : RelV y u) (h : ∀ s', Inv X pins σ H s' → Q (.bool (!o.isSome)) s') :
 wpAny (model X.prog X.w) A (compareOp .NotIn u (.ref a)) Q E s := by
 rcases g with ⟨kvs, k, e, ey, l⟩ | ⟨kvs, k, b, e, ey, eb, l⟩
 · subst ey
   obtain ⟨z, hd, vs, rel, dd⟩ := zhr I.hok e
   refine wpAny_notIn_of (zf7 ry) hd dd.mapOf ?_
   rw [← (rel.val k).isSome_eq, ← l]
   exact h _ (I.tok _)
 · subst ey
   cases (show u = Value.ref b from ry)
   obtain ⟨z, hd, xs, rel, dd⟩ := zhq I.hok e
   refine wpAny_notIn_heap (tupleKind_room_in1 hu) (zeG I.hok eb) hd dd ?_
   have q := (rel.val k).isSome_eq
   rw [Option.isSome_map] at q
   rw [← q, ← l]
   exact h _ (I.tok _)
theorem zht {h' : Heap} {t' : Nat} {ob : HO} (I : Inv X pins σ H s) (mu : Mut (H a)) (hs : Heap.SameBut a s.heap h') (he : ∃ q, h'.get? a = some q) (new : ObjOk X.prog X.w (upd H a ob) h' a ob) :
 Inv X pins σ (upd H a ob) { s with heap := h', toks := t' } :=
 I.write (x := a) (e := a) mu (.inl rfl) (fun b q hb z => (hs.2 b hb).trans z) he new
theorem zjY {P : Program} {w : World} {H' : Hp} {h' : Heap} {kvs : List (Key × V)} {vs : List (Key × Value)} (z : kvs.length ≤ sizeLine) (hd : (a == sysModules) = false) (rel : KV kvs vs) (dd : h'.DictOf (zaB P w) a vs) :
 ObjOk P w H' h' a (.dK kvs) := ⟨z, hd, vs, rel, dd⟩
theorem zj3 {H' : Hp} {Q : Unit → Shared → Prop} (hu : A.units + 1 < cLine) (I : Inv X pins σ H s) (g : DPut H a y v H') (ry : RelV y u) (rv : RelV v r) (h : ∀ s', Inv X pins σ H' s' → Q () s') :
 wpAny (model X.prog X.w) A (setItem (.ref a) u r) Q E s := by
 rcases g with ⟨kvs, k, e, ey, l, eH⟩ | ⟨kvs, k, b, e, ey, eb, l, eH⟩
 · subst ey eH
   obtain ⟨z, hd, vs, rel, dd⟩ := zlE I.hok e
   have hz : vs.length ≤ sizeLine := by rw [← rel.length]; exact z
   have hl : (putK kvs k v).length ≤ sizeLine := by have := zbr kvs k v; omega
   refine wpAny_setItem_pairs (hsz := hz) (zf7 ry) dd fun h' dd' hs => h _ ?_
   have he : ∃ q, h'.get? a = some q := let ⟨q, _, _, hq, _⟩ := dd'; ⟨q, hq⟩
   exact zht I (by rw [e]; exact True.intro) hs he (zjY hl hd (rel.put k rv) dd')
 · subst ey eH
   cases (show u = Value.ref b from ry)
   obtain ⟨z, hd, xs, rel, dd⟩ := zmU I.hok e
   have hz : xs.length ≤ sizeLine := by rw [← Paired.length rel]; exact z
   have hl : (putK kvs k v).length ≤ sizeLine := by have := zbr kvs k v; omega
   refine wpAny_setItem_heap (hsz := hz) (tupleKind_room_in1 hu) (zeG I.hok eb) dd fun h' dd' hs => h _ ?_
   obtain ⟨q, es, ep, hq, h2, h3, h4, _, h5⟩ := dd'
   refine zht I (by rw [e]; exact True.intro) hs ⟨q, hq⟩ ⟨hl, hd, _, (rel.put k eb rv).keeps fun c ys ec => ?_, q, es, ep, hq, h2, h3, h4, h5⟩
   rw [zak (zdc ec e (fun z => nomatch z))]
   exact ec
end
section
variable {X : Cx} {pins : List (Addr × Obj)} {σ : St} {H : Hp} {s : Shared} {a : Addr} {kvs : List (Key × V)} {k : Key} {u : Value} {A : Around} {E : Value → Shared → Prop}
end
def NoSl (i : Expr) : Prop := ∀ ov iv, subscripted i false ov iv = operate [ov, iv] (getItem ov iv)
theorem zlf {prog : Program} {w : World} {A : Around} {E : Value → Shared → Prop} {s : Shared} {env : Env} {value slice : Expr} {pos : Pos} {T id : String} {Q : Value → Shared → Prop}
 (hl : typeLookup (.type T) "__getitem__" = pure (some (.builtin id))) (hs : NoSl slice)
 (h : wpAny (model prog w) A (eval value env) (fun o s₁ => wpAny (model prog w) A (eval slice env) (fun i s₂ => s₂.TypeIs o T ∧ wpAny (model prog w) A (getItem o i) Q E s₂) E s₁) E s) :
 wpAny (model prog w) A (eval (.Subscript value slice pos) env) Q E s := by
 refine Subscript_ (wpAny_mono h (fun o s₁ h₁ => wpAny_mono h₁ (fun i s₂ h₂ => ?_) fun _ _ x => x) fun _ _ x => x)
 obtain ⟨hT, h₂⟩ := h₂
 unfold subscriptTail
 refine wpAny_bind ?_
 rw [getitemInPython_of_ne hT.not_modules]
 refine wpAny_bind (wpAny_specialOf hT hl ?_)
 have fin : wpAny (model prog w) A (subscripted slice false o i) (fun r s₃ => wpAny (model prog w) A (letTemporaryGo value o r >>= fun _ => pure r) Q E s₃) E s₂ := by
  rw [hs o i]
  exact wpAny_operating (wpAny_mono h₂ (fun r s₃ h₃ => wpAny_bind (wpAny_letTemporaryGo (wpAny_pure h₃))) fun _ _ x => x)
 first
  | exact wpAny_pure (wpAny_bind fin)
  | exact wpAny_bind (wpAny_pure (wpAny_bind fin))
  | exact wpAny_bind fin
theorem zhs {X : Cx} {pins : List (Addr × Obj)} {σ : St} {H : Hp} {s : Shared} {a : Addr} {y : V} {o : Option V} (I : Inv X pins σ H s) (g : DGet H a y o) : s.TypeIs (.ref a) "dict" := by
 rcases g with ⟨kvs, k, e, _, _⟩ | ⟨kvs, k, b, e, _, _, _⟩
 · obtain ⟨_, _, vs, _, dd⟩ := zhr I.hok e
   exact dd.typeIs
 · obtain ⟨_, _, xs, _, dd⟩ := zhq I.hok e
   exact dd.typeIs
def zmE (td ty : TE) : TE := fun σ H Q => td σ H fun x H1 => ty σ H1 fun y H2 => ∃ a v, x = .ref a ∧ DGet H2 a y (some v) ∧ Q v H2
def tDIn (ty td : TE) : TE := fun σ H Q => ty σ H fun y H1 => td σ H1 fun x H2 => ∃ a o, x = .ref a ∧ DGet H2 a y o ∧ Q (.bl o.isSome) H2
def zle (ty td : TE) : TE := fun σ H Q => ty σ H fun y H1 => td σ H1 fun x H2 => ∃ a o, x = .ref a ∧ DGet H2 a y o ∧ Q (.bl (!o.isSome)) H2
def zmG (td ty tv : TE) : TS := fun D σ H => tv σ H fun v H1 => td σ H1 fun x H2 => ty σ H2 fun y H3 => ∃ a H4, x = .ref a ∧ DPut H3 a y v H4 ∧ D.nx σ H4
section
variable {X : Cx} {o i e value : Expr} {pos pos' tpos : Pos} {td ty tv : TE}
theorem zcE (hu : X.A.units + 1 < cLine) (ho : PE X o td) (hi : PE X i ty) (hs : NoSl i) : PE X (.Subscript o i pos) (zmE td ty) := by
 intro pins s σ H Q I h
 refine zlf PySem.F.slot_dict_getitem.lookup hs (thn (ho pins s σ H _ I h) fun u s1 ⟨x, H1, I1, rx, q1⟩ => thn (hi pins s1 σ H1 _ I1 q1) fun iv s2 ⟨y, H2, I2, ry, a, v, ex, g, q2⟩ => ?_)
 subst ex
 obtain rfl : u = Value.ref a := rx
 exact ⟨zhs I2 g, zj4 hu I2 g ry fun w' s3 I3 rw' => ⟨v, H2, I3, rw', q2⟩⟩
theorem zhP (hu : X.A.units + 1 < cLine) (hi : PE X i ty) (ho : PE X o td) : PC X .In i o (tDIn ty td) := by
 intro pins s σ H Q I h
 refine thn (hi pins s σ H _ I h) fun iv s1 ⟨y, H1, I1, ry, q1⟩ => thn (ho pins s1 σ H1 _ I1 q1) fun u s2 ⟨x, H2, I2, rx, a, ov, ex, g, q2⟩ => ?_
 subst ex
 obtain rfl : u = Value.ref a := rx
 exact d_in hu I2 g ry fun s3 I3 => ⟨.bl ov.isSome, H2, I3, rfl, q2⟩
theorem zd8 (hu : X.A.units + 1 < cLine) (hi : PE X i ty) (ho : PE X o td) : PC X .NotIn i o (zle ty td) := by
 intro pins s σ H Q I h
 refine thn (hi pins s σ H _ I h) fun iv s1 ⟨y, H1, I1, ry, q1⟩ => thn (ho pins s1 σ H1 _ I1 q1) fun u s2 ⟨x, H2, I2, rx, a, ov, ex, g, q2⟩ => ?_
 subst ex
 obtain rfl : u = Value.ref a := rx
 exact zlF hu I2 g ry fun s3 I3 => ⟨.bl (!ov.isSome), H2, I3, rfl, q2⟩
theorem zgW (hu : X.A.units + 1 < cLine) (ho : PE X o td) (hi : PE X i ty) (hv : PE X value tv) (hs : swapsWith value (some (.Subscript o i pos')) pos.line X.env = pure false) :
 PS X (.Assign [.Subscript o i pos'] value pos) (zmG td ty tv) := by
 intro pins s σ H D I h
 refine wpAny_Assign_Subscript (thn (hv pins s σ H _ I h) fun r s1 ⟨v, H1, I1, rv, q1⟩ => thn (ho pins s1 σ H1 _ I1 q1) fun u s2 ⟨x, H2, I2, rx, q2⟩ => thn (hi pins s2 σ H2 _ I2 q2) fun iv s3 ⟨y, H3, I3, ry, a, H4, ex, g, q3⟩ => ?_) hs
 subst ex
 obtain rfl : u = Value.ref a := rx
 exact zj3 hu I3 g ry rv fun s4 I4 => ⟨σ, H4, I4, q3⟩
end
theorem zfr {P : Program} {w : World} {H : Hp} (h : Heap) (hb : sysModules < h.objs.size) : ObjOk P w H (h.push { cls := .type "dict", data := .dict #[] }) h.objs.size (.dK []) :=
 ⟨Nat.zero_le _, beq_eq_false_iff_ne.mpr (Ne.symm (Nat.ne_of_lt hb)), [], .nil, Heap.DictOf.new h⟩
def zlV : TE := fun _ H Q => ∀ p, H p = none → Q (.ref p) (upd H p (.dK []))
section
variable {X : Cx} {pos : Pos}
theorem zhN : PE X (.Dict [] [] pos) zlV := fun pins s σ H Q I h =>
 wpAny_Dict_empty ⟨.ref s.heap.objs.size, _, I.laid (a := s.heap.objs.size) (o := .dK []) (t' := s.toks) (fun _ _ q => Heap.get?_push_of_some _ q) (Nat.le_refl _) (zfr s.heap I.big), rfl, h _ (I.hok.fresh (Nat.le_refl _))⟩
end
structure M2 (X : Cx) (o : Expr) (m : Str) (apos : Pos) (e f : Expr) (cpos : Pos) : Prop where
 base : attributeBase o m X.env (eval o X.env) = eval o X.env
 few : ((backTo cpos (starEach [e, f] X.env)).all (fun x => !x.1) && (backToKw cpos (keywordEach [] X.env)).all (fun x => x.1.isSome)
  && decide (([e, f] : List Expr).length + ([] : List Keyword).length + (if ([] : List Keyword).isEmpty then 0 else 1) < 30)) = true
 line : (apos.endLine == cpos.line) = true
 trees : backTo cpos (starEach [e, f] X.env) = [(false, eval e X.env), (false, eval f X.env)]
def IsD (H : Hp) (a : Addr) : Prop := (∃ kvs, Rd H a (.dK kvs)) ∨ ∃ kvs, Rd H a (.dT kvs)
theorem zmm {X : Cx} {pins : List (Addr × Obj)} {σ : St} {H : Hp} {s : Shared} {a : Addr} (I : Inv X pins σ H s) (d : IsD H a) :
 s.TypeIs (.ref a) "dict" ∧ (∀ b, Value.ref a = .ref b → ∃ ob, s.heap.get? b = some ob ∧ ob.dict = none) ∧ (a == sysModules) = false := by
 rcases d with ⟨kvs, e⟩ | ⟨kvs, e⟩
 · obtain ⟨_, hd, vs, _, dd⟩ := zhr I.hok e
   refine ⟨dd.typeIs, fun b q => ?_, hd⟩
   cases q
   obtain ⟨ob, _, _, h1, h2, _⟩ := dd
   exact ⟨ob, h1, h2.2.1⟩
 · obtain ⟨_, hd, xs, _, dd⟩ := zhq I.hok e
   refine ⟨dd.typeIs, fun b q => ?_, hd⟩
   cases q
   obtain ⟨ob, _, _, h1, h2, _⟩ := dd
   exact ⟨ob, h1, h2.2.1⟩
section
variable {X : Cx} {pins : List (Addr × Obj)} {σ : St} {H : Hp} {s : Shared} {a : Addr} {y d : V} {u r : Value} {o : Option V} {A : Around} {E : Value → Shared → Prop}
theorem zmq {Q : Value → Shared → Prop} (hu : A.units + 1 < cLine) (I : Inv X pins σ H s) (g : DGet H a y o) (ry : RelV y u) (rd : RelV d r) (h : ∀ w' s', Inv X pins σ H s' → RelV (o.getD d) w' → Q w' s') :
 wpAny (model X.prog X.w) A (call (.builtin "dict.get") [.ref a, u, r]) Q E s := by
 rcases g with ⟨kvs, k, e, ey, l⟩ | ⟨kvs, k, b, e, ey, eb, l⟩
 · subst ey
   obtain ⟨z, hd, vs, rel, dd⟩ := zhr I.hok e
   refine call_meetsIn PySem.F.slot_dict_get dd.typeIs PySem.F.entry_dict_get (PySem.F.args_dict_get_3 _ _ _) (meets_dict_get_default (zaB X.prog X.w) a (zf7 ry) hd r) ⟨_, dd.mapOf, h _ _ (I.tok _) ?_⟩
   rw [l]
   exact (rel.val k).getD rd
 · subst ey
   cases (show u = Value.ref b from ry)
   obtain ⟨z, hd, xs, rel, dd⟩ := zhq I.hok e
   refine call_meetsIn PySem.F.slot_dict_get dd.typeIs PySem.F.entry_dict_get (PySem.F.args_dict_get_3 _ _ _) (meetsH_dict_get_default (tupleKind (zaB X.prog X.w)) a b hd r) ⟨tupleKind_room_in1 hu, k, xs, zeG I.hok eb, dd, h _ _ (I.tok _) ?_⟩
   rw [l]
   exact (rel.val k).getD rd
end
def zlW (td ty tx : TE) : TE := fun σ H Q => td σ H fun x H1 => ∃ a, x = .ref a ∧ IsD H1 a ∧ ty σ H1 fun y H2 => tx σ H2 fun z H3 => ∃ o, DGet H3 a y o ∧ Q (o.getD z) H3
section
variable {X : Cx} {o e f : Expr} {apos cpos : Pos} {td ty tx : TE}
theorem zhO (hu : X.A.units + 1 < cLine) (ho : PE X o td) (he : PE X e ty) (hf : PE X f tx) (m : M2 X o "get" apos e f cpos) : PE X (.Call (.Attribute o "get" apos) [e, f] [] cpos) (zlW td ty tx) := by
 intro pins s σ H Q I h
 refine wpAny_Call_method m.base m.few m.line PySem.F.plainAttrs_dict PySem.F.slot_dict_get PySem.F.type_dict_get (thn (ho pins s σ H _ I h) fun u s1 ⟨x, H1, I1, rx, a, ex, d, q1⟩ => ?_)
 subst ex
 obtain rfl : u = Value.ref a := rx
 obtain ⟨t1, t2, _⟩ := zmm I1 d
 refine ⟨t1, t2, ?_⟩
 rw [m.trees]
 refine Calls.callWith_builtin rfl (Calls.evalArgs_plain (Calls.spliced_cons (thn (he pins s1 σ H1 _ I1 q1) fun iv s2 ⟨y, H2, I2, ry, q2⟩ =>
  Calls.spliced_cons (thn (hf pins s2 σ H2 _ I2 q2) fun fv s3 ⟨z, H3, I3, rz, ov, g, q3⟩ => Calls.spliced_nil ?_))))
 exact zmq hu I3 g ry rz fun w' s4 I4 rw' => ⟨_, H3, I4, rw', q3⟩
end
section
variable {X : Cx} {pins : List (Addr × Obj)} {σ : St} {H : Hp} {s : Shared} {a : Addr} {kvs : List (Key × V)} {A : Around} {E : Value → Shared → Prop}
end
section
variable {X : Cx} {pins : List (Addr × Obj)} {σ : St} {H : Hp} {s : Shared} {a : Addr} {y : V} {u : Value} {A : Around} {E : Value → Shared → Prop}
end
end L2
namespace Att
open PySem PySem.W PySem.Calls PyProof.Rows
theorem zei {P : Params} {h : Heap} : ∀ (ns : List Int) (vs : List Value), WellAll P h vs (ns.map WData.int) → IntsAre vs ns := by
 intro ns
 induction ns with
 | nil =>
  intro vs w
  rw [List.map_nil] at w
  cases w
  exact .nil
 | cons n ns ih =>
  intro vs w
  rw [List.map_cons] at w
  cases w with
  | cons a b =>
   cases a
   exact .cons _ _ (ih _ b)
theorem zi5 {l : OpenLaw} {n : Nat} (hn : l.most = some n) {P : Params} {h : Heap} {args : List WData} {vals : List Value}
 (hpre : l.row.toRowW.claim.pre args = true) (hwl : WellAll P h vals args) :
 ∃ a vs ns, vals = [Value.ref a] ∧ args = [WData.list (ns.map WData.int)] ∧ h.get? a = some { cls := .type "list", data := .seq vs.toArray } ∧ IntsAre vs ns ∧ ns.length ≤ n := by
 have hsh : WShape.hasAll [] args [.list .int] = true := (pre_splitW hpre).1
 have hc : l.pre.holds [] { args := args } = true := (pre_splitW hpre).2
 obtain ⟨d, r, rfl, h1, h2⟩ := hasAllW_cons hsh
 obtain rfl := hasAllW_nil h2
 obtain ⟨xs, rfl, h3⟩ := hasW_list h1
 obtain ⟨ns, rfl⟩ := items_int h3
 have hlen : ns.length ≤ n := by
  unfold OpenLaw.pre at hc
  have h4 : (WTm.not (.lt (.lit (.int (n : Int))) (.len (.arg 0)))).holds [] { args := [.list (ns.map .int)] } = true := by
   have h4 := (holds_andW hc).1
   rw [hn] at h4
   exact h4
  have h5 := condW_of h4 (w_not (w_lt w_lit (w_len_list (w_arg rfl))))
  rw [List.length_map] at h5
  refine Nat.le_of_not_lt fun q => ?_
  have q' : (n : Int) < ((ns.length : Nat) : Int) := by omega
  first
   | (rw [decide_eq_true q'] at h5; exact absurd h5 (by decide))
   | (simp at h5; omega)
 cases hwl with
 | cons w1 w2 =>
  cases w2
  cases w1 with
  | list ho hall => exact ⟨_, _, ns, rfl, rfl, ho, zei ns _ hall, hlen⟩
theorem zjh (l : OpenLaw) (args : List WData) : l.row.toRowW.claim.post args (.bool true) args = true :=
 postW_of (r := l.row.toRowW) (X := (true == true))
  (show WShape.has [] (.bool true) .bool = true by first | rfl | decide | simp [WShape.has, WShape.arms, WShape.armsAll])
  (show (WTm.eq .res (.lit (.bool true))).value [] { args := args, res := some (.bool true), after := args } = some (.bool (true == true)) from w_eq_bool (w_res rfl) w_lit) rfl
theorem attach_call {l : OpenLaw} {n : Nat} {q : Program} {loose : List Str} {XP : (Str → Option Value) → Heap → Prop} {YP : World → Heap → Prop} {d : DefRec}
 (hn : l.most = some n) (hdf : d.params.defaults = [])
 (call : ∀ (w : World) (s₀ s₁ : Shared) (mg mb : Str → Option Value) (fa : Addr) (o : Obj) (pm cd doc : Value) (a : Addr) (vs : List Value) (ns : List Int),
  Ground q loose [] XP w s₀ mg mb s₁.heap → YP w s₁.heap →
  s₁.heap.get? fa = some o → o.data = .func (docDef d.name d.params d.body d.scope pm cd doc) → s₁.heap.CodeRec cd d.name → mg d.name = some (.ref fa) →
  s₁.heap.get? a = some { cls := .type "list", data := .seq vs.toArray } → IntsAre vs ns → ns.length ≤ n → s₁.gens = #[] →
  codeAny (model l.prog w) callerA (.call (.ref fa) ⟨[.ref a], []⟩) (fun r s' => r = .ok (.ret (.bool true)) ∧ OldK s₁.heap s'.heap ∧ s'.os = s₁.os ∧ AllBare s'.gens) s₁) :
 WalkO q loose XP YP l.row.toRowW d [] (fun f vs => PySem.call f vs) := by
 intro w s₀ s₁ mg mb G Y fa o pm cd doc dV kV ho hd hcd hD hmg hg args vals as hpre hlay hrd hwl hlo
 obtain rfl : dV = .none := Dflts.none hD hdf
 obtain rfl : kV = .none := Dflts.noKw hD
 obtain ⟨a, vs, ns, rfl, rfl, hobj, hints, hlen⟩ := zi5 hn hpre hwl
 refine enter_call (codeAny_mono (call w s₀ s₁ mg mb fa o pm cd doc a vs ns G Y ho (fd_plain hd) hcd hmg hobj hints hlen hg) fun r s' hq => ?_)
 obtain ⟨rfl, h2, h3, h4⟩ := hq
 exact ⟨.inl ⟨.bool true, .bool true, [], rfl, fun _ => rfl, .bool true, zjh l _, fun _ => ⟨List.Pairwise.nil, fun _ hm => (nomatch hm)⟩⟩, h2, h3, h4⟩
section
variable {prog : Program} {w : World} {A : Around} {E : Value → Shared → Prop} {s : Shared} {K : Frag}
end
end Att
namespace L2
open PySem PySem.Spec PyProof.Rows
theorem zfx : ∀ {vs : List Value} {ns : List Int}, IntsAre vs ns → Vals (ns.map V.int) vs
 | _, _, .nil => .nil
 | _, _, .cons n t h => .cons ⟨t, rfl⟩ (zfx h)
def Only (H : Hp) : Prop := ∀ b, H b = none ∨ ∃ o xs, H b = some (.frz o (.lst xs))
theorem zkG {P : Program} {w : World} {K : PySem.W.Frag} {mg mb : Str → Option Value} {CX : CXT} {k : Nat} {fa a : Addr} {fd : FuncData} {x : Str} {sp : Sp} {s₁ : Shared} {vs : List Value} {ns : List Int}
 (KX : K.In s₁.heap) (hns : s₁.heap.Ns mainGlobals mg) (hb : s₁.heap.Ns builtinsNs mb) (hbb : ∀ x : Str, x ≠ "__name__" → mb x = bootBuiltins x) (hlim : s₁.heap.NoLimit) (hg : s₁.gens = #[])
 (ha : s₁.heap.get? a = some { cls := .type "list", data := .seq vs.toArray }) (hi : IntsAre vs ns) (hl : ns.length ≤ sizeLine) (hr : Room k callerA)
 (F : ∀ base : Heap, K.In base → base.Ns mainGlobals mg → FnOk P w K mg base CX k fa fd [x] sp) (hbind : ∀ (s : Shared) (u : Value), BindsTo s fd ⟨[u], []⟩ [(x, u)])
 (hsp : ∀ H : Hp, Only H → SqL K H a (ns.map V.int) → sp [.ref a] H (fun v _ => v = .bl true) fun _ _ _ => False)
 (hCX : ∀ H e s', CX [] H s₁ (fun _ _ _ => False) e s' → False) :
 codeAny (model P w) callerA (.call (.ref fa) ⟨[.ref a], []⟩) (fun r s' => r = .ok (.ret (.bool true)) ∧ OldK s₁.heap s'.heap ∧ s'.os = s₁.os ∧ AllBare s'.gens) s₁ := by
 have rv := zfx hi
 have lenV := hi.length
 have core : ∀ H : Hp, Only H → SqL K H a (ns.map V.int) → HOk P w H s₁.heap → (∀ b, H b ≠ none → b = a) → (H a ≠ none → K.lookup a = none) →
  codeAny (model P w) callerA (.call (.ref fa) ⟨[.ref a], []⟩) (fun r s' => r = .ok (.ret (.bool true)) ∧ OldK s₁.heap s'.heap ∧ s'.os = s₁.os ∧ AllBare s'.gens) s₁ := by
  intro H hO hS hok hA hK
  have base_of : ∀ {b : Addr} {o : Obj}, s₁.heap.get? b = some o → H b = none → (hidT s₁.heap H).get? b = some o := fun e n => zkJ e n
  have noA : ∀ {b : Addr} {o : Obj} {es : Array DictEntry} {ep : Nat}, s₁.heap.get? b = some o → o.data = .dict es ep → H b = none := fun {b o es ep} e d => by
   cases q : H b with
   | none => rfl
   | some u =>
    have e' : b = a := hA b (by rw [q]; simp)
    subst e'
    rw [ha] at e; cases e
    have d' : Data.seq vs.toArray _ = Data.dict es ep := d
    cases d'
  have nsK : ∀ {b : Addr} {m : Str → Option Value}, s₁.heap.Ns b m → (hidT s₁.heap H).Ns b m := fun {b m} ⟨o, es, ep, e, d, r⟩ => ⟨o, es, ep, base_of e (noA e d), d, r⟩
  have hKb : K.In (hidT s₁.heap H) := fun b o e => base_of (KX b o e) (by
   cases q : H b with
   | none => rfl
   | some u =>
    have e' : b = a := hA b (by rw [q]; simp)
    subst e'
    rw [hK (by rw [q]; simp)] at e; cases e)
  have hM : Mod K mg (hidT s₁.heap H) := ⟨hKb, nsK hns, ⟨mb, nsK hb, hbb⟩, let ⟨mc, h1, h2⟩ := hlim; ⟨mc, nsK h1, h2⟩⟩
  have e0 : Env0 P w K mg (hidT s₁.heap H) callerA [] s₁ H := ⟨rfl, hM, fun b o e => zlv e, Nat.le_of_eq (zjU _ _), trivial, fun b hb => absurd (show b ∈ ([] : List Addr) from hb) (by simp), hok, .of_eq hg⟩
  refine codeAny_mono ((F _ hKb (nsK hns)).run callerA [] s₁ H ⟨[.ref a], []⟩ [.ref a] [.ref a] _ _ hr e0 (hbind s₁ (.ref a)) (.cons rfl .nil) (hsp H hO hS)) fun r s' h => ?_
  cases r with
  | error e => exact (hCX H e s' h).elim
  | ok fl =>
   cases fl with
   | next => exact False.elim h
   | brk => exact False.elim h
   | cont => exact False.elim h
   | ret u =>
    obtain ⟨v, H', os, bare, un, hok', r', q⟩ := h
    have q' : v = .bl true := q
    subst q'
    obtain rfl : u = Value.bool true := r'
    refine ⟨rfl, OldK.of_keep fun b o e => ?_, os, bare⟩
    cases q : H b with
    | none => exact un.keep b o e q (by intro z; exact absurd (show b ∈ ([] : List Addr) from z) (by simp)) (by simp)
    | some u =>
     rcases hO b with z | ⟨ob, xs, z⟩
     · rw [q] at z; cases z
     · have z2 := un.frzs b ob _ z
       obtain ⟨e1, _⟩ := hok b _ z
       obtain ⟨e2, _⟩ := hok' b _ z2
       rw [e] at e1; cases e1
       exact e2
 cases hk : K.lookup a with
 | some o =>
  have e := KX a o hk
  rw [ha] at e
  cases e
  refine core (fun _ => none) (fun _ => .inl rfl) (.inr ⟨_, vs.toArray, _, hk, rfl, rfl, rfl, by rw [List.size_toArray, lenV]; exact hl, by simpa using rv⟩) (fun b u z => by have z' : (none : Option HO) = some u := z; cases z') (fun b z => absurd rfl z) fun z => absurd rfl z
 | none =>
  refine core (fun b => if b = a then some (.frz { cls := .type "list", data := .seq vs.toArray } (.lst (ns.map V.int))) else none) (fun b => ?_) (.inl (.inr ⟨{ cls := .type "list", data := .seq vs.toArray }, if_pos rfl⟩)) (fun b u z => ?_) (fun b z => ?_) fun _ => hk
  · by_cases hb : b = a
    · exact .inr ⟨_, _, if_pos hb⟩
    · exact .inl (if_neg hb)
  · by_cases hb : b = a
    · have z' := (if_pos hb).symm.trans z
      cases z'
      subst hb
      exact ⟨ha, by rw [List.length_map]; exact hl, vs, _, rv, ha⟩
    · have z' := (if_neg hb).symm.trans z
      cases z'
  · by_cases hb : b = a
    · exact hb
    · exact absurd (if_neg hb) z
abbrev KOf {K : PySem.W.Frag} {h : Heap} (_ : K.In h) : PySem.W.Frag := K
theorem walk_of {l : PySem.W.OpenLaw} {n k : Nat} {q : Program} {loose : List Str} {XP : (Str → Option Value) → Heap → Prop} {YP : World → Heap → Prop} {d : DefRec} {K : Params → PySem.W.Frag} {CX : World → CXT} {sp : World → Sp} {x : Str}
 (hn : l.most = some n) (hn2 : n ≤ sizeLine) (hdf : d.params.defaults = []) (hr : Room k callerA)
 (hY : ∀ (w : World) (h : Heap), YP w h → (K w.params).In h)
 (F : ∀ (w : World) (mg : Str → Option Value) (fa : Addr) (h : Heap), (K w.params).In h → h.Ns mainGlobals mg → mg d.name = some (.ref fa) →
  ∃ fd : FuncData, (∀ (s : Shared) (u : Value), BindsTo s fd ⟨[u], []⟩ [(x, u)]) ∧
   ∀ base : Heap, (K w.params).In base → base.Ns mainGlobals mg → FnOk l.prog w (K w.params) mg base (CX w) k fa fd [x] (sp w))
 (hsp : ∀ (w : World) (H : Hp) (a : Addr) (ns : List Int), ns.length ≤ n → Only H → SqL (K w.params) H a (ns.map V.int) → sp w [.ref a] H (fun v _ => v = .bl true) fun _ _ _ => False)
 (hCX : ∀ (w : World) (H : Hp) (s : Shared) (e : Value) (s' : Shared), CX w [] H s (fun _ _ _ => False) e s' → False) :
 PySem.W.WalkO q loose XP YP l.row.toRowW d [] (fun f vs => PySem.call f vs) := by
 refine Att.attach_call hn hdf fun w s₀ s₁ mg mb fa o pm cd doc a vs ns G Y ho hd hcd hmg hobj hints hlen hg => ?_
 have KX := hY w _ Y
 obtain ⟨fd, hb, hF⟩ := F w mg fa _ KX G.T.g hmg
 exact zkG KX G.T.g G.T.b G.T.builtins G.T.nolimit hg hobj hints (Nat.le_trans hlen hn2) hr hF hb (fun H hO hS => hsp w H a ns hlen hO hS) fun H e s' => hCX w H s₁ e s'
def zcq (s : Stmt) : Arguments := match s with
 | .FunctionDef _ a _ _ _ _ _ _ _ _ => a
 | _ => { posonlyargs := [], args := [], vararg := none, kwonlyargs := [], kw_defaults := [], kwarg := none, defaults := [] }
def zcb (s : Stmt) : List Stmt := match s with
 | .FunctionDef _ _ b _ _ _ _ _ _ _ => b
 | _ => []
def zah (s : Stmt) : Scope := match s with
 | .FunctionDef _ _ _ _ _ _ sc _ _ _ => sc
 | _ => { kind := .function, names := [], isGenerator := false, isCoroutine := false }
abbrev CX0 : CXT := fun _ _ _ _ _ _ => False
abbrev E0 : XK := fun _ _ _ => False
theorem zmc {X : Cx} : zke CX0 X E0 := fun _ _ _ _ _ _ _ h => h.elim
structure Fun (K : PySem.W.Frag) (x qual : Str) (st : Stmt) (f : Addr) (fd : FuncData) : Prop where
 ex : ∃ (oc : Value) (od : Option Addr) (kV doc pm : Value) (an : Option Addr) (cdv ct : Value) (osl : Array (Option Value)),
  fd = PySem.W.fnOf x qual (zcq st) (zcb st) (zah st) .none kV doc pm an cdv ct ∧ K.lookup f = some ⟨oc, od, .func fd, osl⟩ ∧ PySem.W.codeIn K cdv qual = true
 kp : PySem.W.keepIn K (.ref f) = true
section
variable {P : Program} {w : World} {K : PySem.W.Frag} {mg : Str → Option Value} {base : Heap}
theorem Fun.ok {x qual : Str} {st : Stmt} {f : Addr} {fd : FuncData} {N ps : List Str} {k : Nat} {sp : Sp} (F : Fun K x qual st f fd) (S : FnScope N ps (zah st)) (len : ∀ vs H Q E, sp vs H Q E → vs.length = ps.length)
 (hbody : ∀ (cdv : Value) (A : Around) (outer : List Env) (s : Shared) (H : Hp) (vs : List V) (Q : VK) (E : XK), Room k (A.deeper (envOfC qual (zah st) s.heap.objs.size f cdv)) → sp vs H Q E →
  ∃ t, PSs (cxOf CX0 P w K mg base N qual (zah st) f cdv A outer s H E).nox (zcb st) t ∧ t { nx := fun _ H' => Q .non H', rt := Q } (zfC N vs) H) : FnOk P w K mg base CX0 (k + 1) f fd ps sp := by
 obtain ⟨oc, od, kV, doc, pm, an, cdv, ct, osl, rfl, lk, hcd⟩ := F.ex
 refine zmS lk hcd S len fun A outer s H vs Q E hr hsp => ?_
 obtain ⟨t, h, q⟩ := hbody cdv A outer s H vs Q E hr hsp
 exact ⟨t, h.nox, q⟩
theorem Fun.binds {x qual : Str} {st : Stmt} {f : Addr} {fd : FuncData} {ps : List Str} (F : Fun K x qual st f fd)
 (h : ∀ (kV doc pm : Value) (an : Option Addr) (cdv ct : Value) (us : List Value), us.length = ps.length → bindArgs (PySem.W.fnOf x qual (zcq st) (zcb st) (zah st) .none kV doc pm an cdv ct) ⟨us, []⟩ = pure (ps.zip us)) : Binds K fd ps [] := by
 obtain ⟨oc, od, kV, doc, pm, an, cdv, ct, osl, rfl, lk, hcd⟩ := F.ex
 exact .all (h kV doc pm an cdv ct)
theorem zax {x qual : Str} {st : Stmt} {f : Addr} {oc : Value} {od an : Option Addr} {osl : Array (Option Value)} {kV doc pm cdv ct : Value} (l : K.lookup f = some ⟨oc, od, .func (PySem.W.fnOf x qual (zcq st) (zcb st) (zah st) .none kV doc pm an cdv ct), osl⟩)
 (c : PySem.W.codeIn K cdv qual = true) (k : PySem.W.keepIn K (.ref f) = true) : Fun K x qual st f (PySem.W.fnOf x qual (zcq st) (zcb st) (zah st) .none kV doc pm an cdv ct) := ⟨⟨oc, od, kV, doc, pm, an, cdv, ct, osl, rfl, l, c⟩, k⟩
end
theorem zci {A : Around} {k : Nat} (hr : Room k A) : A.units + 1 < cLine := Nat.lt_of_le_of_lt (Nat.add_le_add_left (by decide : 1 ≤ 64) _) hr.units
theorem zao {n : Nat} (h : n ≤ 1000) : n < sizeLine := Nat.lt_of_le_of_lt h (by decide)
section
variable {X : Cx}
theorem pv (i : Nat) {x : Str} {pos : Pos} (hN : X.N[i]? = some x := by rfl) (hv : Vis X.env.scope x := by first | exact Or.inl rfl | exact Or.inr (Or.inl rfl) | exact Or.inr (Or.inr rfl)) (hd : (x == ("__debug__" : Str)) = false := by decide)
 (hcd : (x == ("__classdict__" : Str)) = false := by decide) : PE X (.Name x pos) (tVar i) := zmb hN hv hd hcd
end
theorem iteF {A B : Prop} (h : B) : if false = true then A else B := by
 rw [if_neg Bool.false_ne_true]
 exact h
theorem iteT {A B : Prop} (h : A) : if true = true then A else B := by
 rw [if_pos rfl]
 exact h
theorem ite2 {c A B : Prop} [Decidable c] (h1 : c → A) (h2 : ¬ c → B) : if c then A else B := by
 by_cases h : c
 · rw [if_pos h]
   exact h1 h
 · rw [if_neg h]
   exact h2 h
def Same (H H' : Hp) : Prop := ∀ b o, H b = some o → H' b = some o
theorem Same.refl (H : Hp) : Same H H := fun _ _ h => h
theorem Same.trans {H H1 H2 : Hp} (a : Same H H1) (b : Same H1 H2) : Same H H2 := fun c o h => b c o (a c o h)
theorem Same.free {H H' : Hp} (e : Same H H') {l : Addr} (h : H' l = Option.none) : H l = Option.none := by
 cases q : H l with
 | none => rfl
 | some o =>
  rw [e l o q] at h
  cases h
theorem Same.seq {K : PySem.W.Frag} {H H' : Hp} {a : Addr} {xs : List V} (e : Same H H') (h : SqL K H a xs) : SqL K H' a xs := by
 rcases h with (h | ⟨o, h⟩) | h
 · exact .inl (.inl (e _ _ h))
 · exact .inl (.inr ⟨o, e _ _ h⟩)
 · exact .inr h
section
variable {X : Cx}
end
section
variable {κ : Type} [DecidableEq κ]
theorem zhd : ∀ {l : List κ} {k : κ}, l.Nodup → ¬ k ∈ l → (l ++ [k]).Nodup
 | [], k, _, _ => by simp
 | a :: r, k, h, hk => by
  obtain ⟨h1, h2⟩ := List.nodup_cons.mp h
  show (a :: (r ++ [k])).Nodup
  refine List.nodup_cons.mpr ⟨fun m => ?_, zhd h2 fun m => hk (List.mem_cons.mpr (Or.inr m))⟩
  rcases List.mem_append.mp m with q | q
  · exact h1 q
  · exact hk (List.mem_cons.mpr (Or.inl (List.mem_singleton.mp q).symm))
end
def lcx (X : Cx) (N' : List Str) (scope : Scope) (cl : List (Str × Addr)) (C : Addr) (s₀ : Shared) (H₀ : Hp) (ex : List Addr) : Cx :=
 { prog := X.prog, w := X.w, K := X.K, mg := X.mg, base := X.base, A := X.A, N := N', s₀ := s₀, H₀ := H₀, env := compEnvC scope cl C X.env, outer := X.stack, stack := X.stack, ex := ex, fn := fun _ => false, calm := X.calm, pn := [], xe := fun _ _ => False }
abbrev Cap := List (Option Nat)
def inn (js : Cap) (σ : St) : St := js.map fun o => o.bind fun j => (σ[j]?).join
theorem zlG {env : Env} (has : ∀ x, (env.kindOf x = some .cell ∨ env.kindOf x = some .free) → ∃ c, env.cells.lookup x = some c) :
 ∀ (names : List (Str × NameKind)) (acc : List (Str × Addr)), (∀ p ∈ names, p.2 = .free → env.kindOf p.1 = some .cell ∨ env.kindOf p.1 = some .free) → (∀ x c, acc.lookup x = some c → env.cells.lookup x = some c) →
  ∃ cl, (forIn names acc (fun (p : Str × NameKind) (cs : List (Str × Addr)) => (do
   if p.2 == NameKind.free then
    let c ← cellOf env p.1
    pure (ForInStep.yield ((p.1, c) :: cs))
   else pure (ForInStep.yield cs) : Sem (ForInStep (List (Str × Addr)))))) = pure cl ∧ (∀ x c, cl.lookup x = some c → env.cells.lookup x = some c) ∧
   (∀ x, (acc.lookup x).isSome = true → (cl.lookup x).isSome = true) ∧ ∀ p ∈ names, p.2 = .free → (cl.lookup p.1).isSome = true := by
 intro names
 induction names with
 | nil => intro acc _ ha; exact ⟨acc, rfl, ha, fun _ h => h, fun _ h => nomatch h⟩
 | cons p r ih =>
  intro acc hn ha
  obtain ⟨n, k⟩ := p
  rw [List.forIn_cons]
  by_cases hk : k = .free
  · subst hk
    obtain ⟨c, hc⟩ := has n (hn (n, .free) List.mem_cons_self rfl)
    have e : cellOf env n = (pure c : Sem Addr) := by
     unfold cellOf
     rw [hc]
    obtain ⟨cl, h1, h2, h3, h4⟩ := ih ((n, c) :: acc) (fun q hq => hn q (List.mem_cons_of_mem _ hq)) (fun x c' hx => by
     rw [List.lookup_cons] at hx
     cases hb : x == n with
     | true =>
      rw [hb] at hx
      cases hx
      rw [show x = n from eq_of_beq hb]
      exact hc
     | false =>
      rw [hb] at hx
      exact ha x c' hx)
    refine ⟨cl, ?_, h2, fun x hx => h3 x ?_, fun q hq hf => ?_⟩
    · simp only [beq_self_eq_true, if_true, e]
      exact h1
    · rw [List.lookup_cons]
      cases hb : x == n with
      | true => rfl
      | false => exact hx
    · rcases List.mem_cons.mp hq with rfl | hq
      · exact h3 _ (by simp [List.lookup_cons])
      · exact h4 q hq hf
  · have hb : (k == NameKind.free) = false := by simpa using hk
    obtain ⟨cl, h1, h2, h3, h4⟩ := ih acc (fun q hq => hn q (List.mem_cons_of_mem _ hq)) ha
    refine ⟨cl, ?_, h2, h3, fun q hq hf => ?_⟩
    · simp only [hb, Bool.false_eq_true, if_false]
      exact h1
    · rcases List.mem_cons.mp hq with rfl | hq
      · exact absurd hf hk
      · exact h4 q hq hf
theorem zhw {env : Env} {scope : Scope} (has : ∀ x, (env.kindOf x = some .cell ∨ env.kindOf x = some .free) → ∃ c, env.cells.lookup x = some c)
 (hn : ∀ p ∈ scope.names, p.2 = .free → env.kindOf p.1 = some .cell ∨ env.kindOf p.1 = some .free) :
 ∃ cl, closureFor scope env = pure cl ∧ (∀ x c, cl.lookup x = some c → env.cells.lookup x = some c) ∧ ∀ p ∈ scope.names, p.2 = .free → (cl.lookup p.1).isSome = true := by
 obtain ⟨cl, h1, h2, _, h4⟩ := zlG has scope.names [] hn (fun _ _ h => nomatch h)
 refine ⟨cl, ?_, h2, h4⟩
 unfold closureFor
 show (do let cs ← forIn scope.names [] _; pure cs) = _
 refine Eq.trans ?_ h1
 simp only [bind_pure]
section
variable {prog : Program} {w : World} {A : Around} {E : Value → Shared → Prop} {R : Result → Shared → Prop} {s : Shared}
theorem zhu {elt target iter : Expr} {ifs : List Expr} {scope : Scope} {pos : Pos} {it acc : Value} {env : Env} (I : Nat → Shared → Prop)
 (turn : ∀ n s, I n s → wpAny (model prog w) A (pyNext it) (fun r s₁ => match r with
  | none => R (.ok .next) s₁
  | some v => wpAny (model prog w) A (letOwnedTupleGo target it v) (fun _ s₁' => wpAny (model prog w) A (assign target env v) (fun _ s₂ =>
   wpAny (model prog w) A (forIn ifs true fun c r => if r = true then do let ok ← isTrue c env (eval c env); pure (ForInStep.yield ok) else pure (ForInStep.yield r)) (fun ok s₃ =>
    if ok = true then wpAny (model prog w) A (eval elt env) (fun x s₄ =>
     wpAny (model prog w) A (call (.builtin "list.append") [acc, x]) (fun _ s₅ => ∃ m, m < n ∧ I m s₅) (fun _ _ => False) s₄) (fun _ _ => False) s₃
    else ∃ m, m < n ∧ I m s₃) (fun _ _ => False) s₂) (fun _ _ => False) s₁') (fun _ _ => False) s₁) (fun _ _ => False) s)
 (n : Nat) (h : I n s) :
 codeAny (model prog w) A (.compLoop (.ListComp elt [⟨target, iter, ifs, 0⟩] scope pos) 0 it acc env) R s := by
 refine codeAny_loop rfl I (fun n s hI => ?_) n h
 show wpAny _ A ((compTurn (.ListComp elt [⟨target, iter, ifs, 0⟩] scope pos) 0 it acc env).onRaise (fun x => do noteFrame x env; theTreesLotGoes x)) _ _ s
 refine wpAny_noted ?_
 rw [compTurn_list]
 refine wpAny_bind (wpAny_standAt (wpAny_bind (wpAny_mono (turn n s hI) (fun r s₁ h₁ => ?_) fun _ _ h' => h'.elim)))
 cases r with
 | none => exact wpAny_pure h₁
 | some v =>
  refine wpAny_bind (wpAny_mono h₁ (fun _ s₁' h₁' => ?_) fun _ _ h' => h'.elim)
  refine wpAny_bind (wpAny_mono h₁' (fun _ s₂ h₂ => wpAny_bind (wpAny_mono h₂ (fun ok s₃ h₃ => ?_) fun _ _ h' => h'.elim)) fun _ _ h' => h'.elim)
  cases ok with
  | false => exact wpAny_pure ⟨rfl, h₃⟩
  | true =>
   exact wpAny_bind (wpAny_bind (wpAny_mono h₃ (fun x s₄ h₄ => wpAny_bind (wpAny_mono h₄ (fun _ s₅ h₅ => wpAny_pure (wpAny_pure ⟨rfl, h₅⟩)) fun _ _ h' => h'.elim)) fun _ _ h' => h'.elim))
end
def PIfs (X : Cx) (ifs : List Expr) (t : TT) : Prop :=
 ∀ (pins : List (Addr × Obj)) (s : Shared) (σ : St) (H : Hp) (Q : Bool → Hp → Prop), Inv X pins σ H s → t σ H Q →
  wpAny (model X.prog X.w) X.A (forIn ifs true fun c r => if r = true then do let ok ← isTrue c X.env (eval c X.env); pure (ForInStep.yield ok) else pure (ForInStep.yield r)) (TP X pins σ Q) X.xe s
def tYes : TT := fun _ H Q => Q true H
theorem zaM {X : Cx} : PIfs X [] tYes := fun _ _ _ H _ I h => wpAny_tests_nil ⟨H, I, h⟩
theorem zb9 {X : Cx} {c : Expr} {t : TT} (h : PT X c t) : PIfs X [c] t := fun pins s σ H Q I hw => wpAny_tests_one (h pins s σ H Q I hw)
def zbE (J : It) (p : Addr) (js : Cap) (g : TG) (tc : TT) (te : TE) (σ : St) (H : Hp) (Q : VK) : Prop :=
 ∃ W : Nat → Nat → St → List V → Hp → Prop, (∃ m, W 0 m (inn js σ) [] (upd H p (.lst []))) ∧ ∀ i m σ' ys H, W i m σ' ys H → H p = some (.lst ys) ∧
  ((J.stop i H ∧ Q (.ref p) H) ∨ (J.go i H ∧ ys.length < sizeLine ∧ ∀ x H', J.yld i H x H' → g x σ' H' fun σ2 H2 => tc σ2 H2 fun b H3 =>
    if b = true then te σ2 H3 fun y H4 => H4 p = some (.lst ys) ∧ ∃ m', m' < m ∧ W (i + 1) m' σ2 (ys ++ [y]) (upd H4 p (.lst (ys ++ [y])))
    else ∃ m', m' < m ∧ W (i + 1) m' σ2 ys H3))
def tLC (wi : TI) (js : Cap) (g : TG) (tc : TT) (te : TE) : TE := fun σ H Q => wi σ H fun J H1 => ∀ p, H1 p = none → zbE J p js g tc te σ H1 Q
structure CapOk (X : Cx) (N' : List Str) (js : Cap) (scope : Scope) : Prop where
 len : js.length = N'.length
 kind : scope.kind = .function
 ncell : ∀ p ∈ scope.names, p.2 ≠ .cell
 names : ∀ p ∈ scope.names, p.2 = .local → scope.names.lookup p.1 = some .local
 free : ∀ p ∈ scope.names, p.2 = .free → X.env.kindOf p.1 = some .cell ∨ X.env.kindOf p.1 = some .free
 cap : ∀ (i j : Nat), js[i]? = some (some j) → ∃ x, N'[i]? = some x ∧ X.N[j]? = some x ∧ scope.names.lookup x = some .free
theorem zcS {names : List (Str × NameKind)} {x : Str} {k : NameKind} (h : names.lookup x = some k) : (x, k) ∈ names := by
 induction names with
 | nil => cases h
 | cons p r ih =>
  obtain ⟨n, k'⟩ := p
  rw [List.lookup_cons] at h
  cases hb : x == n with
  | true =>
   rw [hb] at h
   cases h
   rw [show x = n from eq_of_beq hb]
   exact List.mem_cons_self
  | false =>
   rw [hb] at h
   exact List.mem_cons_of_mem _ (ih h)
theorem zdz {scope : Scope} {env : Env} {x : Str} {k : NameKind} (h : (relabel scope env).names.lookup x = some k) : ∃ k0, scope.names.lookup x = some k0 ∧ (k = k0 ∨ (k0 = .free ∧ k = .cell)) := by
 have go : ∀ (names : List (Str × NameKind)), (names.map fun (p : Str × NameKind) => if (p.2 == NameKind.free && env.scope.kind == .function && env.kindOf p.1 == some .cell) then (p.1, NameKind.cell) else (p.1, p.2)).lookup x = some k →
  ∃ k0, names.lookup x = some k0 ∧ (k = k0 ∨ (k0 = .free ∧ k = .cell)) := by
  intro names
  induction names with
  | nil => intro h; cases h
  | cons p r ih =>
   obtain ⟨n, k'⟩ := p
   intro h
   rw [List.map_cons] at h
   by_cases hc : (k' == NameKind.free && env.scope.kind == .function && env.kindOf n == some .cell) = true
   · rw [if_pos hc] at h
     rw [List.lookup_cons] at h ⊢
     cases hb : x == n with
     | true =>
      rw [hb] at h
      cases h
      have : k' = .free := by
       cases k' <;> first | rfl | (simp at hc)
      exact ⟨k', rfl, .inr ⟨this, rfl⟩⟩
     | false =>
      rw [hb] at h
      exact ih h
   · rw [if_neg hc] at h
     rw [List.lookup_cons] at h ⊢
     cases hb : x == n with
     | true =>
      rw [hb] at h
      cases h
      exact ⟨k', rfl, .inl rfl⟩
     | false =>
      rw [hb] at h
      exact ih h
 exact go scope.names h
theorem zfK {scope : Scope} {env : Env} {x : Str} (h : scope.names.lookup x = some .free) : (relabel scope env).names.lookup x = some .cell ∨ (relabel scope env).names.lookup x = some .free := by
 have go : ∀ (names : List (Str × NameKind)), names.lookup x = some .free → (names.map fun (p : Str × NameKind) => if (p.2 == NameKind.free && env.scope.kind == .function && env.kindOf p.1 == some .cell) then (p.1, NameKind.cell) else (p.1, p.2)).lookup x = some .cell ∨
  (names.map fun (p : Str × NameKind) => if (p.2 == NameKind.free && env.scope.kind == .function && env.kindOf p.1 == some .cell) then (p.1, NameKind.cell) else (p.1, p.2)).lookup x = some .free := by
  intro names
  induction names with
  | nil => intro h; cases h
  | cons p r ih =>
   obtain ⟨n, k'⟩ := p
   intro h
   rw [List.map_cons]
   rw [List.lookup_cons] at h
   by_cases hc : (k' == NameKind.free && env.scope.kind == .function && env.kindOf n == some .cell) = true
   · rw [if_pos hc, List.lookup_cons]
     cases hb : x == n with
     | true => exact .inl rfl
     | false =>
      rw [hb] at h
      exact ih h
   · rw [if_neg hc, List.lookup_cons]
     cases hb : x == n with
     | true =>
      rw [hb] at h
      exact .inr h
     | false =>
      rw [hb] at h
      exact ih h
 exact go scope.names h
section
variable {X : Cx} {pins : List (Addr × Obj)} {σ : St} {H : Hp} {s : Shared}
theorem zf9 {N' : List Str} {js : Cap} {scope : Scope} {cl : List (Str × Addr)} {fp : List Addr} {h₁ : Heap} {t' : Nat} (ok : CapOk X N' js scope) (I : Inv X pins σ H s)
 (h2 : ∀ x c, cl.lookup x = some c → X.env.cells.lookup x = some c) (h3 : ∀ p ∈ scope.names, p.2 = .free → (cl.lookup p.1).isSome = true)
 (hf : ∀ b ∈ fp, FpOk X pins H b) (hlt : ∀ b ∈ fp, b < s.heap.objs.size)
 (k : ∀ b u, s.heap.get? b = some u → h₁.get? b = some u) (hn : ∃ m, h₁.Ns s.heap.objs.size m) :
 Inv (lcx X N' scope cl s.heap.objs.size s H fp) [] (inn js σ) H { s with heap := h₁, toks := t' } := by
 have fresh : H s.heap.objs.size = none := I.hok.fresh (Nat.le_refl _)
 have kind_of : ∀ x, ((relabel scope X.env).names.lookup x = some .cell ∨ (relabel scope X.env).names.lookup x = some .free) → scope.names.lookup x = some .free := fun x hx => by
  rcases hx with hx | hx
  · obtain ⟨k0, e, z⟩ := zdz hx
    rcases z with z | ⟨z, _⟩
    · subst z
      exact absurd rfl (ok.ncell _ (zcS e))
    · subst z; exact e
  · obtain ⟨k0, e, z⟩ := zdz hx
    rcases z with z | ⟨z, z'⟩
    · subst z; exact e
    · cases z'
 have okc : (lcx X N' scope cl s.heap.objs.size s H fp).Ok := by
  refine ⟨I.ok.mod, ok.kind, I.ok.glob, I.ok.blt, Nat.le_refl _, fun x y c e1 e2 => I.ok.inj x y c (h2 x c e1) (h2 y c e2), fun x hx => ?_, fun x c hx => (nomatch hx), I.ok.hd, I.ok.frames, .inl rfl, fun b hb => ⟨Nat.ne_of_lt (hlt b hb), fun x c e => ?_⟩, I.bs, Nat.le_trans I.ok.bsz I.sz, fun b o e hb => ?_, fun b hb hb' => ?_, I.stack, I.stkFree⟩
  · have e := kind_of x hx
    have z := h3 _ (zcS e) rfl
    cases q : cl.lookup x with
    | none => rw [q] at z; cases z
    | some c => exact ⟨c, q⟩
  · exact (hf b hb).2.2.2.2.1 x c (h2 x c e)
  · rcases (hf b hb).2.2.2.1 with z | z
    · exact I.ok.noex b o e z
    · exact absurd (Nat.lt_of_lt_of_le (Heap.lt_size e) (Nat.le_trans I.ok.bsz z)) (Nat.lt_irrefl _)
  · rcases List.mem_cons.mp (I.stkSub b hb') with z | z
    · exact (hf b hb).2.1 z
    · exact (hf b hb).2.2.1 z
 obtain ⟨m, hn⟩ := hn
 refine ⟨okc, rfl, I.bare, Un.kept k, ⟨m, hn, fun i x v e1 e2 e3 => ?_⟩, fun x c e => ?_, fresh, fun x c e => I.freeC x c (h2 x c e), (fun p hp => nomatch hp), I.hok.kept k, by show (inn js σ).length = N'.length; unfold inn; rw [List.length_map]; exact ok.len⟩
 · have e2 : (inn js σ)[i]? = some (some v) := e2
   unfold inn at e2
   rw [List.getElem?_map] at e2
   cases q : js[i]? with
   | none => rw [q] at e2; cases e2
   | some o =>
    rw [q] at e2
    cases o with
    | none => cases e2
    | some j =>
     obtain ⟨x', n1, n2, n3⟩ := ok.cap i j q
     have e1 : N'[i]? = some x := e1
     rw [n1] at e1
     cases e1
     have e2 : (σ[j]?).join = some v := Option.some.inj e2
     have e2' : σ[j]? = some (some v) := by
      cases q2 : σ[j]? with
      | none => rw [q2] at e2; cases e2
      | some o2 => rw [q2] at e2; exact congrArg some e2
     obtain ⟨mo, hno, hlo⟩ := I.loc
     have kx := ok.free _ (zcS n3) rfl
     have vis : Vis X.env.scope x := by
      rcases kx with z | z
      · exact .inr (.inl z)
      · exact .inr (.inr z)
     obtain ⟨u, r, l⟩ := hlo j x v n2 e2' vis
     refine ⟨u, r, .inr ⟨zfK n3, ?_⟩⟩
     rcases l with ⟨z, _⟩ | ⟨_, c, hc, hcell⟩
     · rcases kx with y | y <;> (rw [z] at y; cases y)
     · have z := h3 _ (zcS n3) rfl
       cases q3 : cl.lookup x with
       | none => rw [q3] at z; cases z
       | some c' =>
        have := h2 x c' q3
        rw [hc] at this
        cases this
        exact ⟨c, q3, hcell.keeps k⟩
 · obtain ⟨v, hv⟩ := I.cell x c (h2 x c e)
   exact ⟨v, hv.keeps k⟩
end
section
variable {X : Cx} {tg iter elt : Expr} {ifs : List Expr} {wi : TI} {js : Cap} {g : TG} {tc : TT} {te : TE} {N' : List Str} {scope : Scope} {pos : Pos}
theorem zhZ {pins : List (Addr × Obj)} {σ : St} {H : Hp} {s : Shared} {E : Value → Shared → Prop} {Q : VK} {J : It} {it : Addr} {fp : List Addr} {tn : Nat → Heap → Prop} {cl : List (Str × Addr)}
 (hc : X.calm = true) (ok : CapOk X N' js scope)
 (h2 : ∀ x c, cl.lookup x = some c → X.env.cells.lookup x = some c) (h3 : ∀ p ∈ scope.names, p.2 = .free → (cl.lookup p.1).isSome = true)
 (hg : ∀ cl C s₀ H₀ ex, PG (lcx X N' scope cl C s₀ H₀ ex) tg g) (ht : ∀ cl C s₀ H₀ ex, PIfs (lcx X N' scope cl C s₀ H₀ ex) ifs tc) (he : ∀ cl C s₀ H₀ ex, PE (lcx X N' scope cl C s₀ H₀ ex) elt te)
 (I : Inv X pins σ H s) (T : Turn X.prog X.w X.K tg J fp it tn) (st : tn 0 s.heap) (hf : ∀ b ∈ fp, FpOk X pins H b)
 (hw : ∀ p, H p = none → zbE J p js g tc te σ H Q) :
 wpAny (model X.prog X.w) X.A (newList []) (fun acc s₃ => wpAny (model X.prog X.w) X.A (newFunctionEnv scope X.env.globals cl [] X.env.qual none .none (some X.env)) (fun cenv s₄ =>
  codeAny (model X.prog X.w) X.A (.compStart (.ListComp elt [⟨tg, iter, ifs, 0⟩] scope pos) 0 (.ref it) acc { cenv with scope := relabel scope X.env })
   (fun r s' => r = .ok .next ∧ (∃ m, s'.heap.Ns cenv.locals m) ∧ ∃ v H', RelV v acc ∧ Inv X pins σ H' s' ∧ FpOk X pins H' cenv.locals ∧ Q v H') s₄) E s₃) E s := by
 have objs := T.obj _ _ st
 refine wpAny_newObj_type ?_ (by show 0 ≤ sizeLine; decide)
 obtain ⟨W, ⟨m0, w0⟩, turn⟩ := hw s.heap.objs.size (I.hok.fresh (Nat.le_refl _))
 generalize hp : s.heap.objs.size = p at *
 have kp : ∀ b u, s.heap.get? b = some u → (s.heap.push { cls := .type "list", dict := none, data := .seq ([] : List Value).toArray }).get? b = some u := fun b u e => Heap.get?_push_of_some _ e
 have I3 : Inv X pins σ (upd H p (.lst [])) { s with heap := s.heap.push { cls := .type "list", dict := none, data := .seq ([] : List Value).toArray } } := by
  refine I.laid (t' := s.toks) kp (by rw [hp]; exact Nat.le_refl _) ⟨Nat.zero_le _, [], 0, .nil, ?_⟩
  have := Heap.get?_push_size s.heap (o := { cls := .type "list", dict := none, data := .seq ([] : List Value).toArray }) rfl
  rw [hp] at this
  exact this
 have fne : ∀ b ∈ fp, b ≠ p := fun b hb => by
  obtain ⟨o, e, _⟩ := objs b hb
  have := Heap.lt_size e
  rw [← hp]
  exact Nat.ne_of_lt this
 have hf3 : ∀ b ∈ fp, FpOk X pins (upd H p (.lst [])) b := fun b hb => ⟨by rw [zak (fne b hb)]; exact (hf b hb).1, (hf b hb).2⟩
 have st3 : tn 0 (s.heap.push { cls := .type "list", dict := none, data := .seq ([] : List Value).toArray }) := T.keep _ _ _ st fun b _ o e => kp b o e
 have lt3 : ∀ b ∈ fp, b < (s.heap.push { cls := .type "list", dict := none, data := .seq ([] : List Value).toArray }).objs.size := fun b hb => by
  obtain ⟨o, e, _⟩ := objs b hb
  exact Heap.lt_size (kp b o e)
 generalize hs3 : ({ s with heap := s.heap.push { cls := .type "list", dict := none, data := .seq ([] : List Value).toArray } } : Shared) = s3 at *
 have eh : s.heap.push { cls := .type "list", dict := none, data := .seq ([] : List Value).toArray } = s3.heap := by rw [← hs3]
 rw [eh] at st3 lt3
 refine wpAny_newFunctionEnv ok.ncell (by intro y hy; simp at hy) (fun h₁ hns₁ hsb₁ => ?_) ok.kind
 try dsimp only at hns₁ hsb₁ ⊢
 have k4 : ∀ b u, s3.heap.get? b = some u → h₁.get? b = some u := fun b u e => (hsb₁.2 b (Nat.ne_of_lt (Heap.lt_size e))).trans (Heap.get?_push_of_some _ e)
 have I4 := zf9 (cl := cl) (h₁ := h₁) (t' := s3.toks + ([] : List (Str × Value)).length) ok I3 h2 h3 hf3 lt3 k4 ⟨_, hns₁⟩
 have st4 : tn 0 h₁ := T.keep _ _ _ st3 fun b _ o e => k4 b o e
 generalize hX : lcx X N' scope cl s3.heap.objs.size s3 (upd H p (.lst [])) fp = X' at I4
 have hg' : PG X' tg g := by rw [← hX]; exact hg _ _ _ _ _
 have ht' : PIfs X' ifs tc := by rw [← hX]; exact ht _ _ _ _ _
 have he' : PE X' elt te := by rw [← hX]; exact he _ _ _ _ _
 have eP : X'.prog = X.prog := by rw [← hX]; rfl
 have ew : X'.w = X.w := by rw [← hX]; rfl
 have eK : X'.K = X.K := by rw [← hX]; rfl
 have ec : X'.calm = true := by rw [← hX]; exact hc
 have eA : X'.A = X.A := by rw [← hX]; rfl
 have ex : X'.xe = fun _ _ => False := by rw [← hX]; rfl
 have eE : X'.env = compEnvC scope cl s3.heap.objs.size X.env := by rw [← hX]; rfl
 have eEx : X'.ex = fp := by rw [← hX]; rfl
 have eN : X'.pn = [] := by rw [← hX]; rfl
 have stat : ∀ {H' : Hp}, (∀ b ∈ fp, H' b = none) → ∀ b ∈ fp, FpOk X' [] H' b := fun {H'} hn b hb => by
  have okc := I4.ok
  refine ⟨hn b hb, (okc.exf b (by rw [eEx]; exact hb)).1, okc.exfs b (by rw [eEx]; exact hb), .inl (by rw [eEx]; exact hb), (okc.exf b (by rw [eEx]; exact hb)).2, fun q hq => ?_⟩
  rw [eN] at hq
  cases hq
 have loop : ∀ s₄ : Shared, s₄ = { s3 with heap := h₁, toks := s3.toks + ([] : List (Str × Value)).length } →
  codeAny (model X.prog X.w) X.A (.compLoop (.ListComp elt [⟨tg, iter, ifs, 0⟩] scope pos) 0 (.ref it) (.ref p) (compEnvC scope cl s3.heap.objs.size X.env))
   (fun r s' => r = .ok .next ∧ (∃ m, s'.heap.Ns s3.heap.objs.size m) ∧ ∃ v H', RelV v (.ref p) ∧ Inv X pins σ H' s' ∧ FpOk X pins H' s3.heap.objs.size ∧ Q v H') s₄ := by
  rintro s₄ rfl
  refine zhu (fun n s' => ∃ i σ' ys H', Inv X' [] σ' H' s' ∧ tn i s'.heap ∧ (∀ b ∈ fp, H' b = none) ∧ W i n σ' ys H') ?_ m0 ⟨0, _, [], _, I4, st4, fun b hb => (hf3 b hb).1, w0⟩
  rintro n s5 ⟨i, σ5, ys, H5, I5, st5, fr5, w5⟩
  obtain ⟨hp5, tu⟩ := turn i n σ5 ys H5 w5
  rcases tu with ⟨stop, qn⟩ | ⟨go, hz, step⟩
  · have D := T.done X' eP ew eK ec i [] s5 σ5 H5 (fun _ _ => False) I5 (stat fr5) st5 stop
    rw [eA] at D
    refine thn D fun r s6 ⟨hr, I6⟩ => ?_
    subst hr
    refine ⟨rfl, ?_, .ref p, H5, rfl, ?_, ?_, qn⟩
    · obtain ⟨m, hm, _⟩ := I6.loc
      rw [eE] at hm
      exact ⟨m, hm⟩
    · have b6 := I6.base
      have ho := I6.os
      have hk := I6.hok
      have hb := I6.bare
      subst hX
      exact I3.call' (ch := fp) ho b6 hk hb fun b hb' => ⟨(hf b hb').2.2.2.1, (hf b hb').2.1, (hf b hb').2.2.2.2.1, (hf b hb').2.2.2.2.2⟩
    · have fr := I6.free
      rw [eE] at fr
      exact I3.fpOk (Nat.le_refl _) fr
  · have D := T.item X' eP ew eK ec i [] s5 σ5 H5 (fun _ _ => False) I5 (stat fr5) st5 go
    rw [eA] at D
    refine thn D fun r s6 ⟨u, hr, h6⟩ => ?_
    subst hr
    refine thn h6 fun _ s7 ⟨x, H7, I7, r7, y7, st7, fr7⟩ => ?_
    have I7' := I7.pinned (stat fr7) (T.obj _ _ st7)
    have G := hg' _ s7 σ5 H7 x u _ I7' r7 (step x H7 y7)
    rw [eP, ew, eA, ex, eE] at G
    refine thn G fun _ s8 ⟨σ8, H8, I8, q8⟩ => ?_
    have Tt := ht' _ s8 σ8 H8 _ I8 q8
    rw [eP, ew, eA, ex, eE] at Tt
    refine thn Tt fun b s9 ⟨H9, I9, q9⟩ => ?_
    have again : ∀ {s' : Shared} {ys' : List V} {H' : Hp}, Inv X' ([] ++ zex fp s7.heap) σ8 H' s' → (∃ m', m' < n ∧ W (i + 1) m' σ8 ys' H') →
     ∃ m, m < n ∧ ∃ i σ' ys H', Inv X' [] σ' H' s' ∧ tn i s'.heap ∧ (∀ b ∈ fp, H' b = none) ∧ W i m σ' ys H' := fun {s' ys' H'} I' ⟨m', hm, w'⟩ => by
     refine ⟨m', hm, i + 1, σ8, ys', H', I'.unpinned, T.keep _ _ _ st7 fun b hb o e => (I'.pin (b, o) (List.mem_append_right _ (List.mem_append_right _ (zbT hb e)))).1, fun b hb => ?_, w'⟩
     obtain ⟨o, e, d⟩ := T.obj _ _ st7 b hb
     exact (I'.pin (b, o) (List.mem_append_right _ (List.mem_append_right _ (zbT hb e)))).2.1
    cases b with
    | false => exact again I9 q9
    | true =>
     have Ee := he' _ s9 σ8 H9 _ I9 q9
     rw [eP, ew, eA, ex, eE] at Ee
     show wpAny _ _ _ _ _ _
     refine thn Ee fun xv s10 ⟨y, H10, I10, r10, hp10, q10⟩ => ?_
     have Ap := zbm (X := X') _ s10 σ8 H10 (.ref p) [y] (.ref p) [xv] (fun _ H' => H' = upd H10 p (.lst (ys ++ [y]))) I10 rfl (.cons r10 .nil) ⟨p, ys, y, rfl, rfl, hp10, hz, rfl⟩
     rw [eP, ew, eA, ex] at Ap
     refine thn Ap fun _ s11 ⟨_, H11, I11, _, e11⟩ => ?_
     subst e11
     exact again I11 q10
 exact codeAny_compStart_list (loop _ rfl) (T.self _ 0 _ _ _ st4 (loop _ rfl))
theorem zcD (hc : X.calm = true) (ok : CapOk X N' js scope) (hi : PI X tg iter wi)
 (hg : ∀ cl C s₀ H₀ ex, PG (lcx X N' scope cl C s₀ H₀ ex) tg g) (ht : ∀ cl C s₀ H₀ ex, PIfs (lcx X N' scope cl C s₀ H₀ ex) ifs tc) (he : ∀ cl C s₀ H₀ ex, PE (lcx X N' scope cl C s₀ H₀ ex) elt te)
 (hs : ∀ x, foldedSetIterable iter X.env x = pure x := by intro _; rfl) : PE X (.ListComp elt [⟨tg, iter, ifs, 0⟩] scope pos) (tLC wi js g tc te) := by
 intro pins s σ H Q I h
 obtain ⟨cl, c1, c2, c3⟩ := zhw (scope := scope) I.ok.has ok.free
 rw [eval_ListComp]
 refine wpAny_comprehension_free (use := none) rfl hs c1 ok.kind ok.names (thn (hi pins s σ H _ I h) fun v s1 h1 => thn h1 fun itv s2 h2 => ?_)
 obtain ⟨it, fp, tn, J, H2, e, I2, T, st2, f2, hw⟩ := h2
 subst e
 refine wpAny_mono (zhZ (iter := iter) (pos := pos) hc ok c2 c3 hg ht he I2 T st2 f2 hw) (fun acc s3 h3 => wpAny_mono h3 (fun cenv s4 h4 => ?_) fun _ _ z => z) fun _ _ z => z
 refine codeAny_mono h4 fun r s5 h5 => ?_
 obtain ⟨rfl, ⟨m, hm⟩, v, H5, rv, I5, f5, q5⟩ := h5
 refine ⟨m, hm, fun h' sb => ?_⟩
 obtain ⟨f0, f1, _, f3, f4, f6⟩ := f5
 exact ⟨v, H5, I5.turned (t' := s5.toks) (fun b o hb e => (sb.2 b hb).trans e) f0 f1 f3 f4 f6, rv, q5⟩
theorem zc9 {i : Nat} {x : Str} {px : Pos} {spos : Pos} (hN : X.N.Nodup) (hi' : X.N[i]? = some x) (hx : Loc X.env.scope x) (hc : X.calm = true) (ok : CapOk X N' js scope) (hi : PI X tg iter wi)
 (hg : ∀ cl C s₀ H₀ ex, PG (lcx X N' scope cl C s₀ H₀ ex) tg g) (ht : ∀ cl C s₀ H₀ ex, PIfs (lcx X N' scope cl C s₀ H₀ ex) ifs tc) (he : ∀ cl C s₀ H₀ ex, PE (lcx X N' scope cl C s₀ H₀ ex) elt te)
 (hsw : swapsWith (.ListComp elt [⟨tg, iter, ifs, 0⟩] scope pos) (some (.Name x px)) spos.line X.env = pure true := by rfl)
 (hs : ∀ x, foldedSetIterable iter X.env x = pure x := by intro _; rfl) (hf : X.fn x = true ∨ X.env.scope.names.lookup x = some .local := by first | exact .inl rfl | exact .inr rfl | assumption) :
 PS X (.Assign [.Name x px] (.ListComp elt [⟨tg, iter, ifs, 0⟩] scope pos) spos) (tAsg (tLC wi js g tc te) (zdG i)) := by
 intro pins s σ H D I h
 obtain ⟨cl, c1, c2, c3⟩ := zhw (scope := scope) I.ok.has ok.free
 rw [exec_Assign_Name_used _ _ _ _ hsw]
 refine wpAny_bind (wpAny_standAt (wpAny_bind ?_))
 show wpAny _ X.A (do let _ ← comprehension (.ListComp elt [⟨tg, iter, ifs, 0⟩] scope pos) scope X.env _ (newList []) false (eval iter X.env) (some (assign (.Name x px) X.env))) _ _ s
 refine wpAny_bind (wpAny_mono (wpAny_comprehension_free (use := some (assign (.Name x px) X.env)) (Q := fun _ s' => SP X pins D .next s') rfl hs c1 ok.kind ok.names
  (thn (hi pins s σ H _ I h) fun v s1 h1 => thn h1 fun itv s2 h2 => ?_)) (fun _ s' hq => wpAny_pure (wpAny_pure hq)) fun _ _ e => e)
 obtain ⟨it, fp, tn, J, H2, e, I2, T, st2, f2, hw⟩ := h2
 subst e
 refine wpAny_mono (zhZ (Q := fun x H1 => zdG i x σ H1 D.nx) (iter := iter) (pos := pos) hc ok c2 c3 hg ht he I2 T st2 f2 hw) (fun acc s3 h3 => wpAny_mono h3 (fun cenv s4 h4 => ?_) fun _ _ z => z) fun _ _ z => z
 refine codeAny_mono h4 fun r s5 h5 => ?_
 obtain ⟨rfl, ⟨m, hm⟩, v, H5, rv, I5, f5, q5⟩ := h5
 obtain ⟨f0, f1, f2', f3, f4, f6⟩ := f5
 show wpAny _ X.A (assign (.Name x px) X.env acc) _ _ _
 refine wpAny_assign_Name (zfB I5 hN hi' hx rv (fun s6 I6 ch => ?_) hf)
 obtain ⟨a, sb, ha⟩ := ch
 have na : cenv.locals ≠ a := by
  rcases ha with z | z
  · rw [z]; exact f1
  · exact fun y => f4 x a z y.symm
 refine ⟨m, hm.sameBut sb na, fun h' sb' => ⟨_, H5, I6.turned (t' := s6.toks) (fun b o hb e => (sb'.2 b hb).trans e) f0 f1 f3 f4 f6, q5⟩⟩
end
end L2
set_option exponentiation.threshold 2000
namespace L2
open PySem PySem.Spec PyProof.Rows
def zmy (i j : Int) : Prop := 0 ≤ j ∧ j ≤ 1000 ∧ i.natAbs < 2 ^ 1000
def zm1 (i j : Int) : Prop := 0 < j ∧ j < 2 ^ 1000
section
variable {X : Cx}
theorem zbG : OpR X (binaryOp .Pow) (rI zmy fun i j => .int (i ^ j.toNat)) := opI fun i j _ _ _ _ _ hc q => by
 obtain ⟨h0, h1, h2⟩ := hc
 refine pow_int h0 ?_ q
 have hb : Builtin.Int.intBits i ≤ 1000 := intBits_le h2
 have e1 : ((Builtin.Int.intBits i : Nat) : Int) * j ≤ 1000 * 1000 := by
  have a1 : ((Builtin.Int.intBits i : Nat) : Int) * j ≤ 1000 * j := Int.mul_le_mul_of_nonneg_right (by omega) h0
  have a2 : 1000 * j ≤ 1000 * 1000 := Int.mul_le_mul_of_nonneg_left h1 (by decide)
  exact Int.le_trans a1 a2
 exact Int.le_trans e1 (by decide)
theorem zhQ : OpR X (binaryOp .FloorDiv) (rI zm1 fun i j => .int (i / j)) := opI fun i j _ _ _ _ _ hc q => by
 obtain ⟨h0, h1⟩ := hc
 refine floordiv_int (by omega) ?_ (.inl (PyProof.noPylong_of_log2 ?_))
 · rw [Int.fdiv_eq_ediv_of_nonneg _ (by omega)]
   exact q
 · have h2 : j.natAbs < 2 ^ 1000 := by
    have e : ((j.natAbs : Nat) : Int) = j := by omega
    have h3 : ((j.natAbs : Nat) : Int) < ((2 ^ 1000 : Nat) : Int) := by
     rw [e, Int.natCast_pow]
     exact h1
    exact Int.ofNat_lt.mp h3
   have h4 : j.natAbs ≠ 0 := by omega
   have h5 := (Nat.log2_lt h4).mpr h2
   omega
end
inductive PD where
 | non | bl (b : Bool) | int (i : Int) | str (x : Str) | lst (ds : List PD) | tup (ds : List PD)
mutual
def Rep (K : PySem.W.Frag) (H : Hp) : PD → V → Prop
 | .non, v => v = .non
 | .bl b, v => v = .bl b
 | .int i, v => v = .int i
 | .str x, v => v = .str x
 | .lst ds, v => ∃ a xs, v = .ref a ∧ SqL K H a xs ∧ Reps K H ds xs
 | .tup ds, v => ∃ a xs, v = .ref a ∧ SqT K H a xs ∧ Reps K H ds xs
def Reps (K : PySem.W.Frag) (H : Hp) : List PD → List V → Prop
 | [], xs => xs = []
 | d :: ds, xs => ∃ x r, xs = x :: r ∧ Rep K H d x ∧ Reps K H ds r
end
mutual
def pyEq : PD → PD → Bool
 | .non, .non => true
 | .bl a, .bl b => a == b
 | .bl a, .int b => (if a then 1 else 0) == b
 | .int a, .bl b => a == (if b then 1 else 0)
 | .int a, .int b => a == b
 | .str a, .str b => a == b
 | .lst xs, .lst ys => zbd xs ys
 | .tup xs, .tup ys => zbd xs ys
 | _, _ => false
def zbd : List PD → List PD → Bool
 | [], [] => true
 | x :: xs, y :: ys => pyEq x y && zbd xs ys
 | _, _ => false
end
mutual
def zaD : PD → Nat
 | .lst ds => zaC ds + 1
 | .tup ds => zaC ds + 1
 | _ => 0
def zaC : List PD → Nat
 | [] => 0
 | d :: ds => max (zaD d) (zaC ds)
end
mutual
theorem zc8 : ∀ d : PD, pyEq d d = true
 | .non => rfl
 | .bl b => by simp [pyEq]
 | .int i => by simp [pyEq]
 | .str x => by simp [pyEq]
 | .lst ds => by rw [pyEq]; exact zcg ds
 | .tup ds => by rw [pyEq]; exact zcg ds
theorem zcg : ∀ ds : List PD, zbd ds ds = true
 | [] => by rw [zbd]
 | d :: ds => by rw [zbd, zc8 d, zcg ds]; rfl
end
theorem Reps.length {K : PySem.W.Frag} {H : Hp} : ∀ {ds : List PD} {xs : List V}, Reps K H ds xs → xs.length = ds.length
 | [], xs, h => by rw [Reps] at h; rw [h]; rfl
 | d :: ds, xs, h => by
  rw [Reps] at h
  obtain ⟨x, r, rfl, _, h⟩ := h
  rw [List.length_cons, List.length_cons, Reps.length h]
theorem za4 : ∀ {xs ys : List PD}, xs.length ≠ ys.length → zbd xs ys = false
 | [], [], h => absurd rfl h
 | [], _ :: _, _ => by rw [zbd]; all_goals simp
 | _ :: _, [], _ => by rw [zbd]; all_goals simp
 | x :: xs, y :: ys, h => by
  rw [zbd, za4 (xs := xs) (ys := ys) (by simpa using h)]
  simp
def eqJ (xs ys : List PD) (j : Nat) : Bool := match xs[j]?, ys[j]? with
 | some a, some b => pyEq a b
 | _, _ => false
theorem zbc : ∀ (xs ys : List PD), xs.length = ys.length → (List.range xs.length).all (eqJ xs ys) = zbd xs ys
 | [], [], _ => by rw [zbd]; rfl
 | x :: xs, y :: ys, h => by
  rw [zbd, List.length_cons, List.range_succ_eq_map, List.all_cons, List.all_map]
  rw [← zbc xs ys (by simpa using h)]
  rfl
theorem SqT.notL {K : PySem.W.Frag} {X : Cx} {pins : List (Addr × Obj)} {σ : St} {H : Hp} {s : Shared} {a : Addr} {xs ys : List V} (I : Inv X pins σ H s) (h : SqT X.K H a xs) (h' : SqL X.K H a ys) : False := by
 obtain ⟨its, _, p, _⟩ := I.tuple h
 obtain ⟨its', _, p', _⟩ := I.list h'
 exact SeqAt.ne_of_list_tuple p'.isList (show s.heap.IsTuple a its.toArray from p) rfl
section
variable {X : Cx} {pins : List (Addr × Obj)} {σ : St} {H : Hp} {s : Shared}
mutual
theorem ze4 (I : Inv X pins σ H s) : ∀ (d e : PD) (v : V), Rep X.K H d v → Rep X.K H e v → d = e
 | .non, e, v, h, h' => by
  rw [Rep] at h; subst h
  cases e <;> rw [Rep] at h' <;> first | rfl | (obtain ⟨_, _, z, _⟩ := h'; cases z; done) | (cases h'; done)
 | .bl b, e, v, h, h' => by
  rw [Rep] at h; subst h
  cases e <;> rw [Rep] at h' <;> first | (obtain ⟨_, _, z, _⟩ := h'; cases z; done) | (cases h'; done) | (cases h'; rfl)
 | .int i, e, v, h, h' => by
  rw [Rep] at h; subst h
  cases e <;> rw [Rep] at h' <;> first | (obtain ⟨_, _, z, _⟩ := h'; cases z; done) | (cases h'; done) | (cases h'; rfl)
 | .str x, e, v, h, h' => by
  rw [Rep] at h; subst h
  cases e <;> rw [Rep] at h' <;> first | (obtain ⟨_, _, z, _⟩ := h'; cases z; done) | (cases h'; done) | (cases h'; rfl)
 | .lst ds, e, v, h, h' => by
  rw [Rep] at h
  obtain ⟨a, xs, rfl, q, r⟩ := h
  cases e with
  | lst es =>
   rw [Rep] at h'
   obtain ⟨a', ys, z, q', r'⟩ := h'
   cases z
   have := I.list_inj q q'
   subst this
   rw [ze2 I ds es xs r r']
  | tup es =>
   rw [Rep] at h'
   obtain ⟨a', ys, z, q', r'⟩ := h'
   cases z
   exact (SqT.notL (K := X.K) I q' q).elim
  | _ => rw [Rep] at h'; cases h'
 | .tup ds, e, v, h, h' => by
  rw [Rep] at h
  obtain ⟨a, xs, rfl, q, r⟩ := h
  cases e with
  | tup es =>
   rw [Rep] at h'
   obtain ⟨a', ys, z, q', r'⟩ := h'
   cases z
   have := I.tuple_inj q q'
   subst this
   rw [ze2 I ds es xs r r']
  | lst es =>
   rw [Rep] at h'
   obtain ⟨a', ys, z, q', r'⟩ := h'
   cases z
   exact (SqT.notL (K := X.K) I q q').elim
  | _ => rw [Rep] at h'; cases h'
theorem ze2 (I : Inv X pins σ H s) : ∀ (ds es : List PD) (vs : List V), Reps X.K H ds vs → Reps X.K H es vs → ds = es
 | [], es, vs, h, h' => by
  rw [Reps] at h; subst h
  cases es with
  | nil => rfl
  | cons e es => rw [Reps] at h'; obtain ⟨_, _, z, _⟩ := h'; cases z
 | d :: ds, es, vs, h, h' => by
  rw [Reps] at h
  obtain ⟨x, r, rfl, h1, h2⟩ := h
  cases es with
  | nil => rw [Reps] at h'; cases h'
  | cons e es =>
   rw [Reps] at h'
   obtain ⟨x', r', z, h1', h2'⟩ := h'
   cases z
   rw [ze4 I d e x h1 h1', ze2 I ds es r h2 h2']
end
mutual
theorem zfq (I : Inv X pins σ H s) : ∀ (A : Around) (d e : PD) (v w : V) (u y : Value), Rep X.K H d v → Rep X.K H e w → RelV v u → RelV w y → A.units + zaD d < cLine → SeqAt.EqAt A s u y (pyEq d e)
 | A, .non, e, v, w, u, y, h, h', r, r', z => by
  rw [Rep] at h; subst h; cases r
  cases e with
  | non => rw [Rep] at h'; subst h'; cases r'; rw [pyEq]; exact SeqAt.EqAt.same _
  | bl b => rw [Rep] at h'; subst h'; cases r'; exact SeqAt.EqAt.none_bool b
  | int b => rw [Rep] at h'; subst h'; obtain ⟨t, rfl⟩ := r'; exact SeqAt.EqAt.none_int b t
  | str b => rw [Rep] at h'; subst h'; obtain ⟨t, rfl⟩ := r'; exact SeqAt.EqAt.none_str b t
  | lst es => rw [Rep] at h'; obtain ⟨a, xs, rfl, q, _⟩ := h'; cases r'; obtain ⟨its, _, p, _⟩ := I.list q; exact SeqAt.EqAt.none_list p.isList (by omega)
  | tup es => rw [Rep] at h'; obtain ⟨a, xs, rfl, q, _⟩ := h'; cases r'; obtain ⟨its, _, p, _⟩ := I.tuple q; exact SeqAt.EqAt.none_tuple p (by omega)
 | A, .bl c, e, v, w, u, y, h, h', r, r', z => by
  rw [Rep] at h; subst h; cases r
  cases e with
  | non => rw [Rep] at h'; subst h'; cases r'; exact SeqAt.EqAt.bool_none c
  | bl b => rw [Rep] at h'; subst h'; cases r'; exact SeqAt.EqAt.bool_bool c b
  | int b => rw [Rep] at h'; subst h'; obtain ⟨t, rfl⟩ := r'; exact SeqAt.EqAt.bool_int c b t
  | str b => rw [Rep] at h'; subst h'; obtain ⟨t, rfl⟩ := r'; exact SeqAt.EqAt.bool_str c b t
  | lst es => rw [Rep] at h'; obtain ⟨a, xs, rfl, q, _⟩ := h'; cases r'; obtain ⟨its, _, p, _⟩ := I.list q; exact SeqAt.EqAt.bool_list c p.isList (by omega)
  | tup es => rw [Rep] at h'; obtain ⟨a, xs, rfl, q, _⟩ := h'; cases r'; obtain ⟨its, _, p, _⟩ := I.tuple q; exact SeqAt.EqAt.bool_tuple c p (by omega)
 | A, .int c, e, v, w, u, y, h, h', r, r', z => by
  rw [Rep] at h; subst h; obtain ⟨tc, rfl⟩ := r
  cases e with
  | non => rw [Rep] at h'; subst h'; cases r'; exact SeqAt.EqAt.int_none c tc
  | bl b => rw [Rep] at h'; subst h'; cases r'; exact SeqAt.EqAt.int_bool c tc b
  | int b => rw [Rep] at h'; subst h'; obtain ⟨t, rfl⟩ := r'; exact SeqAt.EqAt.int_int c tc b t
  | str b => rw [Rep] at h'; subst h'; obtain ⟨t, rfl⟩ := r'; exact SeqAt.EqAt.int_str c tc b t
  | lst es => rw [Rep] at h'; obtain ⟨a, xs, rfl, q, _⟩ := h'; cases r'; obtain ⟨its, _, p, _⟩ := I.list q; exact SeqAt.EqAt.int_list c tc p.isList (by omega)
  | tup es => rw [Rep] at h'; obtain ⟨a, xs, rfl, q, _⟩ := h'; cases r'; obtain ⟨its, _, p, _⟩ := I.tuple q; exact SeqAt.EqAt.int_tuple c tc p (by omega)
 | A, .str c, e, v, w, u, y, h, h', r, r', z => by
  rw [Rep] at h; subst h; obtain ⟨tc, rfl⟩ := r
  cases e with
  | non => rw [Rep] at h'; subst h'; cases r'; exact SeqAt.EqAt.str_none c tc
  | bl b => rw [Rep] at h'; subst h'; cases r'; exact SeqAt.EqAt.str_bool c tc b
  | int b => rw [Rep] at h'; subst h'; obtain ⟨t, rfl⟩ := r'; exact SeqAt.EqAt.str_int c tc b t
  | str b => rw [Rep] at h'; subst h'; obtain ⟨t, rfl⟩ := r'; exact SeqAt.EqAt.str_str c tc b t
  | lst es => rw [Rep] at h'; obtain ⟨a, xs, rfl, q, _⟩ := h'; cases r'; obtain ⟨its, _, p, _⟩ := I.list q; exact SeqAt.EqAt.str_list c tc p.isList (by omega)
  | tup es => rw [Rep] at h'; obtain ⟨a, xs, rfl, q, _⟩ := h'; cases r'; obtain ⟨its, _, p, _⟩ := I.tuple q; exact SeqAt.EqAt.str_tuple c tc p (by omega)
 | A, .lst ds, e, v, w, u, y, h, h', r, r', z => by
  have h0 := h
  rw [Rep] at h; obtain ⟨a, xs, rfl, q, qs⟩ := h; cases r
  obtain ⟨its, rv, p, _⟩ := I.list q
  cases e with
  | non => rw [Rep] at h'; subst h'; cases r'; exact SeqAt.EqAt.list_none p.isList (by omega)
  | bl b => rw [Rep] at h'; subst h'; cases r'; exact SeqAt.EqAt.list_bool b p.isList (by omega)
  | int b => rw [Rep] at h'; subst h'; obtain ⟨t, rfl⟩ := r'; exact SeqAt.EqAt.list_int b t p.isList (by omega)
  | str b => rw [Rep] at h'; subst h'; obtain ⟨t, rfl⟩ := r'; exact SeqAt.EqAt.list_str b t p.isList (by omega)
  | tup es => rw [Rep] at h'; obtain ⟨b, ys, rfl, q', _⟩ := h'; cases r'; obtain ⟨its', _, p', _⟩ := I.tuple q'; exact SeqAt.EqAt.list_tuple p.isList p' (by omega)
  | lst es =>
   have h0' := h'
   rw [Rep] at h'; obtain ⟨b, ys, rfl, q', qs'⟩ := h'; cases r'
   obtain ⟨its', rv', p', _⟩ := I.list q'
   by_cases hab : a = b
   · subst hab
     rw [ze4 I _ _ _ h0 h0', zc8]
     exact SeqAt.EqAt.same _
   · refine SeqAt.EqAt.of_refs hab ?_
     rw [pyEq]
     rw [zaD] at z
     have l1 := qs.length
     have l2 := qs'.length
     have l3 := rv.length
     have l4 := rv'.length
     by_cases hl : ds.length = es.length
     · rw [← zbc ds es hl]
       have := SeqAt.RcAt.lists (e := eqJ ds es) p.isList p'.isList (by simp; omega) (by omega) (fun j h1 h2 => ?_) (A := A)
       · simp only [List.size_toArray] at this
         rw [show ds.length = its.length by omega]
         exact this
       · have := zbY I A.in1 ds es xs ys its its' qs qs' rv rv' (by rw [Around.in1_units]; omega) j (by simpa using h1) (by simpa using h2)
         simpa using this
     · rw [za4 hl]
       exact SeqAt.RcAt.lists_lengths p.isList p'.isList (by simp; omega) (by omega)
 | A, .tup ds, e, v, w, u, y, h, h', r, r', z => by
  have h0 := h
  rw [Rep] at h; obtain ⟨a, xs, rfl, q, qs⟩ := h; cases r
  obtain ⟨its, rv, p, _⟩ := I.tuple q
  cases e with
  | non => rw [Rep] at h'; subst h'; cases r'; exact SeqAt.EqAt.tuple_none p (by omega)
  | bl b => rw [Rep] at h'; subst h'; cases r'; exact SeqAt.EqAt.tuple_bool b p (by omega)
  | int b => rw [Rep] at h'; subst h'; obtain ⟨t, rfl⟩ := r'; exact SeqAt.EqAt.tuple_int b t p (by omega)
  | str b => rw [Rep] at h'; subst h'; obtain ⟨t, rfl⟩ := r'; exact SeqAt.EqAt.tuple_str b t p (by omega)
  | lst es => rw [Rep] at h'; obtain ⟨b, ys, rfl, q', _⟩ := h'; cases r'; obtain ⟨its', _, p', _⟩ := I.list q'; exact SeqAt.EqAt.tuple_list p p'.isList (by omega)
  | tup es =>
   have h0' := h'
   rw [Rep] at h'; obtain ⟨b, ys, rfl, q', qs'⟩ := h'; cases r'
   obtain ⟨its', rv', p', _⟩ := I.tuple q'
   by_cases hab : a = b
   · subst hab
     rw [ze4 I _ _ _ h0 h0', zc8]
     exact SeqAt.EqAt.same _
   · refine SeqAt.EqAt.of_refs hab ?_
     rw [pyEq]
     rw [zaD] at z
     have l1 := qs.length
     have l2 := qs'.length
     have l3 := rv.length
     have l4 := rv'.length
     have := SeqAt.RcAt.tuples (e := eqJ ds es) p p' (by omega) (fun j h1 h2 => ?_) (A := A)
     · simp only [List.size_toArray] at this
       by_cases hl : ds.length = es.length
       · rw [← zbc ds es hl]
         rw [show min its.length its'.length = ds.length by omega, show (its.length == its'.length) = true by simp; omega, Bool.and_true] at this
         exact this
       · rw [za4 hl]
         rw [show (its.length == its'.length) = false by simp; omega, Bool.and_false] at this
         exact this
     · have := zbY I A.in1 ds es xs ys its its' qs qs' rv rv' (by rw [Around.in1_units]; omega) j (by simpa using h1) (by simpa using h2)
       simpa using this
theorem zbY (I : Inv X pins σ H s) : ∀ (A : Around) (ds es : List PD) (vs ws : List V) (us ys : List Value), Reps X.K H ds vs → Reps X.K H es ws → Vals vs us → Vals ws ys → A.units + zaC ds < cLine →
 ∀ (j : Nat) (h1 : j < us.length) (h2 : j < ys.length), SeqAt.EqAt A s us[j] ys[j] (eqJ ds es j)
 | A, [], es, vs, ws, us, ys, h, h', r, r', z => by
  rw [Reps] at h; subst h; cases r
  intro j h1; exact absurd h1 (Nat.not_lt_zero _)
 | A, d :: ds, es, vs, ws, us, ys, h, h', r, r', z => by
  rw [Reps] at h
  obtain ⟨x, vr, rfl, g1, g2⟩ := h
  cases es with
  | nil =>
   rw [Reps] at h'; subst h'; cases r'
   intro j h1 h2; exact absurd h2 (Nat.not_lt_zero _)
  | cons e es =>
   rw [Reps] at h'
   obtain ⟨x', vr', rfl, g1', g2'⟩ := h'
   cases r with
   | cons ra rb =>
    cases r' with
    | cons ra' rb' =>
     rw [zaC] at z
     intro j h1 h2
     cases j with
     | zero => exact zfq I A d e x x' _ _ g1 g1' ra ra' (by omega)
     | succ j => exact zbY I A ds es vr vr' _ _ g2 g2' rb rb' (by omega) j (by simpa using h1) (by simpa using h2)
end
end
section
variable {prog : Program} {w : World} {A : Around} {R : Result → Shared → Prop} {J : Addr} {fo wo : List Addr} {len : Nat} {At : Nat → Value → Prop} {Sx : Nat → Heap → Prop}
theorem zjB (kw : List (Str × Value)) (Z : Walks prog w A.in1 J fo wo len At Sx) (bt : Nat → Nat → Bool) (cm : CmpOf prog w A.in1 .Gt At bt) (B : Addr) (nB : B ∉ fo) :
 ∀ (k j : Nat) (s : Shared) (best : Value) (c : Nat), len - (j + 1) = k → j + 1 ≤ len → Sx (j + 1) s.heap → At (argBest bt j) best →
 s.heap.get? B = some { cls := .type "list", dict := none, data := .seq #[best, best] c, slots := #[] } →
 (∀ v g t', At (argBest bt (len - 1)) v → (∀ b o, b ∉ wo → b ≠ B → s.heap.get? b = some o → g.get? b = some o) → R (.ok (.ret v)) { s with heap := g, toks := t' }) →
 codeAny (model prog w) A (.builtin "max.loop" ⟨[.ref J, .none, .ref B], kw⟩) R s := by
 have nW : B ∉ wo := fun z => nB (Z.sub _ z)
 have nm : (toString "max" ++ toString ".loop" : String) = "max.loop" := by decide
 intro k
 induction k with
 | zero =>
  intro j s best c e0 e1 sx ab eB fin
  have last : j + 1 = len := by omega
  refine codeAny_builtin F.entry_max_loop ?_
  rw [Around.under_plainId F.plain_max_loop _]
  show wpAny _ _ (seqItems? (.ref B) >>= _) _ _ _
  refine wpAny_bind (wpAny_seqItems eB rfl ?_)
  show wpAny _ _ (tryCatch (pyNext (.ref J)) _ >>= _) _ _ _
  refine wpAny_bind (wpAny_tryCatch (Z.done s _ _ (last ▸ sx) fun g t' kp => ?_))
  have eB' := kp B _ nW eB
  show wpAny _ _ (updateSeq B (fun _ => #[]) >>= _) _ _ _
  refine wpAny_bind ?_
  refine wpAny_updateSeq eB' rfl (wpAny_bind (wpAny_letGo (wpAny_pure ?_)))
  exact fin best _ t' (by rw [← last]; exact ab) fun b o h1 h2 e => (Heap.get?_update_other _ _ (Ne.symm h2)).trans (kp b o h1 e)
 | succ k ih =>
  intro j s best c e0 e1 sx ab eB fin
  have more : j + 1 < len := by omega
  refine codeAny_builtin F.entry_max_loop ?_
  rw [Around.under_plainId F.plain_max_loop _]
  show wpAny _ _ (seqItems? (.ref B) >>= _) _ _ _
  refine wpAny_bind (wpAny_seqItems eB rfl ?_)
  show wpAny _ _ (tryCatch (pyNext (.ref J)) _ >>= _) _ _ _
  refine wpAny_bind (wpAny_tryCatch (Z.item (j + 1) s _ _ more sx fun v g t' av sx' kp => ?_))
  have eB' := kp B _ nW eB
  show wpAny _ _ (tryCatch (holding [v, v] (richCompare .Gt v best >>= _)) _ >>= _) _ _ _
  refine wpAny_bind (wpAny_tryCatch (wpAny_holding (wpAny_bind (cm (j + 1) (argBest bt j) v best _ _ _ av ab ?_))))
  refine wpAny_bind (wpAny_holding (wpAny_truthy_bool ?_))
  refine wpAny_bind (wpAny_letGo (wpAny_pure ?_))
  cases hb : bt (j + 1) (argBest bt j) with
  | true =>
   simp only [if_true]
   refine wpAny_bind ?_
   refine wpAny_updateSeq eB' rfl (wpAny_bind (wpAny_letGo ?_))
   rw [nm]
   refine wpAny_pure ⟨plainId_quiet F.plain_max_loop _, ih (j + 1) _ v _ (by omega) more (Z.frame _ _ _ sx' fun b h1 o e => ?_) (by simp only [argBest, hb, if_true]; exact av) (Heap.get?_update_self _ eB' rfl)
    fun v' g' t'' av' kp' => ?_⟩
   · exact (Heap.get?_update_other _ _ (fun z : B = b => nB (by rw [z]; exact h1))).trans e
   · exact fin v' g' t'' av' fun b o h1 h2 e => kp' b o h1 h2 ((Heap.get?_update_other _ _ (Ne.symm h2)).trans (kp b o h1 e))
  | false =>
   simp only [Bool.false_eq_true, if_false]
   refine wpAny_bind (wpAny_letGo ?_)
   rw [nm]
   refine wpAny_pure ⟨plainId_quiet F.plain_max_loop _, ih (j + 1) _ best c (by omega) more sx' (by simp only [argBest, hb, Bool.false_eq_true, if_false]; exact ab) eB' fun v' g' t'' av' kp' => ?_⟩
   exact fin v' g' t'' av' fun b o h1 h2 e => kp' b o h1 h2 (kp b o h1 e)
theorem ziD (d : Value) (Z : Walks prog w A.in1 J fo wo len At Sx) (bt : Nat → Nat → Bool) (cm : CmpOf prog w A.in1 .Gt At bt) (B : Addr) (nB : B ∉ fo) {s : Shared} {c : Nat} (sx : Sx 0 s.heap)
 (eB : s.heap.get? B = some { cls := .type "list", dict := none, data := .seq #[] c, slots := #[] })
 (fin : ∀ v g t', (len = 0 → v = d) → (0 < len → At (argBest bt (len - 1)) v) → (∀ b o, b ∉ wo → b ≠ B → s.heap.get? b = some o → g.get? b = some o) → R (.ok (.ret v)) { s with heap := g, toks := t' }) :
 codeAny (model prog w) A (.builtin "max.loop" ⟨[.ref J, .none, .ref B], [("default", d)]⟩) R s := by
 have nW : B ∉ wo := fun z => nB (Z.sub _ z)
 have nm : (toString "max" ++ toString ".loop" : String) = "max.loop" := by decide
 refine codeAny_builtin F.entry_max_loop ?_
 rw [Around.under_plainId F.plain_max_loop _]
 show wpAny _ _ (seqItems? (.ref B) >>= _) _ _ _
 refine wpAny_bind (wpAny_seqItems eB rfl ?_)
 show wpAny _ _ (tryCatch (pyNext (.ref J)) _ >>= _) _ _ _
 by_cases hl : len = 0
 · refine wpAny_bind (wpAny_tryCatch (Z.done s _ _ (hl ▸ sx) fun g t' kp => ?_))
   refine wpAny_bind (wpAny_rule (wpAny_pure ?_))
   exact fin d g t' (fun _ => rfl) (fun z => by omega) fun b o h1 _ e => kp b o h1 e
 · refine wpAny_bind (wpAny_tryCatch (Z.item 0 s _ _ (by omega) sx fun v g t' av sx' kp => ?_))
   have eB' := kp B _ nW eB
   show wpAny _ _ (updateSeq B (fun _ => #[v, v]) >>= _) _ _ _
   refine wpAny_bind ?_
   refine wpAny_updateSeq eB' rfl ?_
   rw [nm]
   refine wpAny_pure ⟨plainId_quiet F.plain_max_loop _, zjB [("default", d)] Z bt cm B nB _ 0 _ v _ rfl (by omega) (Z.frame _ _ _ sx' fun b h1 o e => ?_) av (Heap.get?_update_self _ eB' rfl) fun v' g' t'' av' kp' => ?_⟩
   · exact (Heap.get?_update_other _ _ (fun z : B = b => nB (by rw [z]; exact h1))).trans e
   · exact fin v' g' t'' (fun z => by omega) (fun _ => av') fun b o h1 h2 e => kp' b o h1 h2 ((Heap.get?_update_other _ _ (Ne.symm h2)).trans (kp b o h1 e))
theorem ziE (a d : Value) : argsOk "max" ⟨[a], [("default", d)]⟩ := by unfold argsOk; kernel_rfl
theorem zhi {E : Value → Shared → Prop} {s : Shared} {a : Addr} {its : Array Value} {d : Value} {Q : Value → Shared → Prop} (hh : A.handled = none) (hl : s.heap.IsList a its) (bt : Nat → Nat → Bool)
 (cm : CmpOf prog w A.in1 .Gt (fun i v => its[i]? = some v) bt)
 (fin : ∀ v g t', (its.size = 0 → v = d) → (0 < its.size → its[argBest bt (its.size - 1)]? = some v) → (∀ b o, s.heap.get? b = some o → g.get? b = some o) → Q v { s with heap := g, toks := t' }) :
 wpAny (model prog w) A (call (.builtin "max") [.ref a] [("default", d)]) Q E s := by
 have nm : (toString "max" ++ toString ".loop" : String) = "max.loop" := by decide
 refine wpAny_call (codeAny_call_builtin F.plain_max F.entry_max ?_)
 have body : wpAny (model prog w) A.in1 (Builtin.«max» ⟨[.ref a], [("default", d)]⟩) (fun fin s' => match fin with
  | .done f => (match (Except.ok f : Result) with | .ok (.ret v) => Q v s' | .ok _ => False | .error e => E e s')
  | .again c' => c'.quiet = true ∧ codeAny (model prog w) A c' (fun r s' => match r with | .ok (.ret v) => Q v s' | .ok _ => False | .error e => E e s') s') E s := by
  show wpAny _ A.in1 (Builtin.Builtins.bindParams "max" ["key", "default"] 0 ⟨[], [("default", d)]⟩ >>= _) _ _ s
  refine wpAny_bind (wpAny_of_eq (show Builtin.Builtins.bindParams "max" ["key", "default"] 0 ⟨[], [("default", d)]⟩ = pure [none, some d] from rfl) ?_)
  refine wpAny_bind (wpAny_pure ?_)
  refine wpAny_bind (wpAny_pyIter_list hl ?_)
  refine wpAny_bind (wpAny_newObj_type ?_)
  rw [nm]
  obtain ⟨o, ho, _⟩ := id hl
  have lt := Heap.lt_size ho
  have sz : (s.heap.push { cls := .type "list_iterator", data := .fields #[.ref a, .int 0 0] }).objs.size = s.heap.objs.size + 1 := Heap.size_push _ _
  have kp : ∀ b o', s.heap.get? b = some o' → ((s.heap.push { cls := .type "list_iterator", data := .fields #[.ref a, .int 0 0] }).push { cls := .type "list", dict := none, data := .seq ([] : List Value).toArray }).get? b = some o' :=
   fun b o' e => Heap.get?_push_of_some _ (Heap.get?_push_of_some _ e)
  refine wpAny_pure ⟨plainId_quiet F.plain_max_loop _, ziD d (Walks.list (A := A.in1) hh s.heap.objs.size a (Nat.ne_of_lt lt) its) bt cm _ ?_
   ⟨⟨_, Heap.get?_push_of_some _ (Heap.get?_push_size _ rfl), rfl, rfl⟩, hl.at fun o' e => kp a o' e⟩ (Heap.get?_push_size _ rfl) fun v g t' h1 h2 h3 => ?_⟩
  · show (s.heap.push _).objs.size ∉ [s.heap.objs.size, a]
    rw [sz]
    intro z
    rcases List.mem_cons.mp z with z | z
    · exact Nat.succ_ne_self _ z
    · have z' := List.mem_singleton.mp z
      rw [← z'] at lt
      exact absurd lt (Nat.not_lt.mpr (Nat.le_succ _))
  · refine fin v g t' h1 h2 fun b o' e => h3 b o' ?_ ?_ (kp b o' e)
    · intro z
      exact absurd (List.mem_singleton.mp z) (Nat.ne_of_lt (Heap.lt_size e))
    · have := Heap.lt_size e
      show b ≠ (s.heap.push _).objs.size
      rw [sz]
      exact Nat.ne_of_lt (Nat.lt_succ_of_lt this)
 simp only [checkBuiltinCall, F.kind_max]
 cases hsig : Manifest.signature? "max" with
 | none => exact wpAny_pure body
 | some sig =>
  have ha' : Bind.checkArgs "max" sig ⟨[.ref a], [("default", d)]⟩ = pure () := by
   have := ziE (.ref a) d
   simpa only [argsOk, hsig] using this
  simp only [ha']
  exact wpAny_pure body
end
section
variable {prog : Program} {w : World} {A : Around} {R : Result → Shared → Prop} {J : Addr} {fo wo : List Addr} {len : Nat} {At : Nat → Value → Prop} {Sx : Nat → Heap → Prop}
theorem zjy (kw : List (Str × Value)) (Z : Walks prog w A.in1 J fo wo len At Sx) (bt : Nat → Nat → Bool) (cm : CmpOf prog w A.in1 .Lt At bt) (B : Addr) (nB : B ∉ fo) :
 ∀ (k j : Nat) (s : Shared) (best : Value) (c : Nat), len - (j + 1) = k → j + 1 ≤ len → Sx (j + 1) s.heap → At (argBest bt j) best →
 s.heap.get? B = some { cls := .type "list", dict := none, data := .seq #[best, best] c, slots := #[] } →
 (∀ v g t', At (argBest bt (len - 1)) v → (∀ b o, b ∉ wo → b ≠ B → s.heap.get? b = some o → g.get? b = some o) → R (.ok (.ret v)) { s with heap := g, toks := t' }) →
 codeAny (model prog w) A (.builtin "min.loop" ⟨[.ref J, .none, .ref B], kw⟩) R s := by
 have nW : B ∉ wo := fun z => nB (Z.sub _ z)
 have nm : (toString "min" ++ toString ".loop" : String) = "min.loop" := by decide
 intro k
 induction k with
 | zero =>
  intro j s best c e0 e1 sx ab eB fin
  have last : j + 1 = len := by omega
  refine codeAny_builtin F.entry_min_loop ?_
  rw [Around.under_plainId F.plain_min_loop _]
  show wpAny _ _ (seqItems? (.ref B) >>= _) _ _ _
  refine wpAny_bind (wpAny_seqItems eB rfl ?_)
  show wpAny _ _ (tryCatch (pyNext (.ref J)) _ >>= _) _ _ _
  refine wpAny_bind (wpAny_tryCatch (Z.done s _ _ (last ▸ sx) fun g t' kp => ?_))
  have eB' := kp B _ nW eB
  show wpAny _ _ (updateSeq B (fun _ => #[]) >>= _) _ _ _
  refine wpAny_bind ?_
  refine wpAny_updateSeq eB' rfl (wpAny_bind (wpAny_letGo (wpAny_pure ?_)))
  exact fin best _ t' (by rw [← last]; exact ab) fun b o h1 h2 e => (Heap.get?_update_other _ _ (Ne.symm h2)).trans (kp b o h1 e)
 | succ k ih =>
  intro j s best c e0 e1 sx ab eB fin
  have more : j + 1 < len := by omega
  refine codeAny_builtin F.entry_min_loop ?_
  rw [Around.under_plainId F.plain_min_loop _]
  show wpAny _ _ (seqItems? (.ref B) >>= _) _ _ _
  refine wpAny_bind (wpAny_seqItems eB rfl ?_)
  show wpAny _ _ (tryCatch (pyNext (.ref J)) _ >>= _) _ _ _
  refine wpAny_bind (wpAny_tryCatch (Z.item (j + 1) s _ _ more sx fun v g t' av sx' kp => ?_))
  have eB' := kp B _ nW eB
  show wpAny _ _ (tryCatch (holding [v, v] (richCompare .Lt v best >>= _)) _ >>= _) _ _ _
  refine wpAny_bind (wpAny_tryCatch (wpAny_holding (wpAny_bind (cm (j + 1) (argBest bt j) v best _ _ _ av ab ?_))))
  refine wpAny_bind (wpAny_holding (wpAny_truthy_bool ?_))
  refine wpAny_bind (wpAny_letGo (wpAny_pure ?_))
  cases hb : bt (j + 1) (argBest bt j) with
  | true =>
   simp only [if_true]
   refine wpAny_bind ?_
   refine wpAny_updateSeq eB' rfl (wpAny_bind (wpAny_letGo ?_))
   rw [nm]
   refine wpAny_pure ⟨plainId_quiet F.plain_min_loop _, ih (j + 1) _ v _ (by omega) more (Z.frame _ _ _ sx' fun b h1 o e => ?_) (by simp only [argBest, hb, if_true]; exact av) (Heap.get?_update_self _ eB' rfl)
    fun v' g' t'' av' kp' => ?_⟩
   · exact (Heap.get?_update_other _ _ (fun z : B = b => nB (by rw [z]; exact h1))).trans e
   · exact fin v' g' t'' av' fun b o h1 h2 e => kp' b o h1 h2 ((Heap.get?_update_other _ _ (Ne.symm h2)).trans (kp b o h1 e))
  | false =>
   simp only [Bool.false_eq_true, if_false]
   refine wpAny_bind (wpAny_letGo ?_)
   rw [nm]
   refine wpAny_pure ⟨plainId_quiet F.plain_min_loop _, ih (j + 1) _ best c (by omega) more sx' (by simp only [argBest, hb, Bool.false_eq_true, if_false]; exact ab) eB' fun v' g' t'' av' kp' => ?_⟩
   exact fin v' g' t'' av' fun b o h1 h2 e => kp' b o h1 h2 (kp b o h1 e)
theorem ziA (d : Value) (Z : Walks prog w A.in1 J fo wo len At Sx) (bt : Nat → Nat → Bool) (cm : CmpOf prog w A.in1 .Lt At bt) (B : Addr) (nB : B ∉ fo) {s : Shared} {c : Nat} (sx : Sx 0 s.heap)
 (eB : s.heap.get? B = some { cls := .type "list", dict := none, data := .seq #[] c, slots := #[] })
 (fin : ∀ v g t', (len = 0 → v = d) → (0 < len → At (argBest bt (len - 1)) v) → (∀ b o, b ∉ wo → b ≠ B → s.heap.get? b = some o → g.get? b = some o) → R (.ok (.ret v)) { s with heap := g, toks := t' }) :
 codeAny (model prog w) A (.builtin "min.loop" ⟨[.ref J, .none, .ref B], [("default", d)]⟩) R s := by
 have nW : B ∉ wo := fun z => nB (Z.sub _ z)
 have nm : (toString "min" ++ toString ".loop" : String) = "min.loop" := by decide
 refine codeAny_builtin F.entry_min_loop ?_
 rw [Around.under_plainId F.plain_min_loop _]
 show wpAny _ _ (seqItems? (.ref B) >>= _) _ _ _
 refine wpAny_bind (wpAny_seqItems eB rfl ?_)
 show wpAny _ _ (tryCatch (pyNext (.ref J)) _ >>= _) _ _ _
 by_cases hl : len = 0
 · refine wpAny_bind (wpAny_tryCatch (Z.done s _ _ (hl ▸ sx) fun g t' kp => ?_))
   refine wpAny_bind (wpAny_rule (wpAny_pure ?_))
   exact fin d g t' (fun _ => rfl) (fun z => by omega) fun b o h1 _ e => kp b o h1 e
 · refine wpAny_bind (wpAny_tryCatch (Z.item 0 s _ _ (by omega) sx fun v g t' av sx' kp => ?_))
   have eB' := kp B _ nW eB
   show wpAny _ _ (updateSeq B (fun _ => #[v, v]) >>= _) _ _ _
   refine wpAny_bind ?_
   refine wpAny_updateSeq eB' rfl ?_
   rw [nm]
   refine wpAny_pure ⟨plainId_quiet F.plain_min_loop _, zjy [("default", d)] Z bt cm B nB _ 0 _ v _ rfl (by omega) (Z.frame _ _ _ sx' fun b h1 o e => ?_) av (Heap.get?_update_self _ eB' rfl) fun v' g' t'' av' kp' => ?_⟩
   · exact (Heap.get?_update_other _ _ (fun z : B = b => nB (by rw [z]; exact h1))).trans e
   · exact fin v' g' t'' (fun z => by omega) (fun _ => av') fun b o h1 h2 e => kp' b o h1 h2 ((Heap.get?_update_other _ _ (Ne.symm h2)).trans (kp b o h1 e))
theorem ziB (a d : Value) : argsOk "min" ⟨[a], [("default", d)]⟩ := by unfold argsOk; kernel_rfl
theorem zhh {E : Value → Shared → Prop} {s : Shared} {a : Addr} {its : Array Value} {d : Value} {Q : Value → Shared → Prop} (hh : A.handled = none) (hl : s.heap.IsList a its) (bt : Nat → Nat → Bool)
 (cm : CmpOf prog w A.in1 .Lt (fun i v => its[i]? = some v) bt)
 (fin : ∀ v g t', (its.size = 0 → v = d) → (0 < its.size → its[argBest bt (its.size - 1)]? = some v) → (∀ b o, s.heap.get? b = some o → g.get? b = some o) → Q v { s with heap := g, toks := t' }) :
 wpAny (model prog w) A (call (.builtin "min") [.ref a] [("default", d)]) Q E s := by
 have nm : (toString "min" ++ toString ".loop" : String) = "min.loop" := by decide
 refine wpAny_call (codeAny_call_builtin F.plain_min F.entry_min ?_)
 have body : wpAny (model prog w) A.in1 (Builtin.«min» ⟨[.ref a], [("default", d)]⟩) (fun fin s' => match fin with
  | .done f => (match (Except.ok f : Result) with | .ok (.ret v) => Q v s' | .ok _ => False | .error e => E e s')
  | .again c' => c'.quiet = true ∧ codeAny (model prog w) A c' (fun r s' => match r with | .ok (.ret v) => Q v s' | .ok _ => False | .error e => E e s') s') E s := by
  show wpAny _ A.in1 (Builtin.Builtins.bindParams "min" ["key", "default"] 0 ⟨[], [("default", d)]⟩ >>= _) _ _ s
  refine wpAny_bind (wpAny_of_eq (show Builtin.Builtins.bindParams "min" ["key", "default"] 0 ⟨[], [("default", d)]⟩ = pure [none, some d] from rfl) ?_)
  refine wpAny_bind (wpAny_pure ?_)
  refine wpAny_bind (wpAny_pyIter_list hl ?_)
  refine wpAny_bind (wpAny_newObj_type ?_)
  rw [nm]
  obtain ⟨o, ho, _⟩ := id hl
  have lt := Heap.lt_size ho
  have sz : (s.heap.push { cls := .type "list_iterator", data := .fields #[.ref a, .int 0 0] }).objs.size = s.heap.objs.size + 1 := Heap.size_push _ _
  have kp : ∀ b o', s.heap.get? b = some o' → ((s.heap.push { cls := .type "list_iterator", data := .fields #[.ref a, .int 0 0] }).push { cls := .type "list", dict := none, data := .seq ([] : List Value).toArray }).get? b = some o' :=
   fun b o' e => Heap.get?_push_of_some _ (Heap.get?_push_of_some _ e)
  refine wpAny_pure ⟨plainId_quiet F.plain_min_loop _, ziA d (Walks.list (A := A.in1) hh s.heap.objs.size a (Nat.ne_of_lt lt) its) bt cm _ ?_
   ⟨⟨_, Heap.get?_push_of_some _ (Heap.get?_push_size _ rfl), rfl, rfl⟩, hl.at fun o' e => kp a o' e⟩ (Heap.get?_push_size _ rfl) fun v g t' h1 h2 h3 => ?_⟩
  · show (s.heap.push _).objs.size ∉ [s.heap.objs.size, a]
    rw [sz]
    intro z
    rcases List.mem_cons.mp z with z | z
    · exact Nat.succ_ne_self _ z
    · have z' := List.mem_singleton.mp z
      rw [← z'] at lt
      exact absurd lt (Nat.not_lt.mpr (Nat.le_succ _))
  · refine fin v g t' h1 h2 fun b o' e => h3 b o' ?_ ?_ (kp b o' e)
    · intro z
      exact absurd (List.mem_singleton.mp z) (Nat.ne_of_lt (Heap.lt_size e))
    · have := Heap.lt_size e
      show b ≠ (s.heap.push _).objs.size
      rw [sz]
      exact Nat.ne_of_lt (Nat.lt_succ_of_lt this)
 simp only [checkBuiltinCall, F.kind_min]
 cases hsig : Manifest.signature? "min" with
 | none => exact wpAny_pure body
 | some sig =>
  have ha' : Bind.checkArgs "min" sig ⟨[.ref a], [("default", d)]⟩ = pure () := by
   have := ziB (.ref a) d
   simpa only [argsOk, hsig] using this
  simp only [ha']
  exact wpAny_pure body
end
def zeK (lt : Int → Int → Bool) : Int → List Int → Int
 | b, [] => b
 | b, x :: r => zeK lt (if lt x b then x else b) r
theorem zcV (lt : Int → Int → Bool) (ns : List Int) (d0 : Int) : ∀ k, k < ns.length →
 ns.getD (argBest (fun i j => lt (ns.getD i d0) (ns.getD j d0)) k) d0 = zeK lt (ns.getD 0 d0) ((ns.drop 1).take k) ∧ argBest (fun i j => lt (ns.getD i d0) (ns.getD j d0)) k < ns.length := by
 have snoc : ∀ (l : List Int) (b x : Int), zeK lt b (l ++ [x]) = if lt x (zeK lt b l) then x else zeK lt b l := by
  intro l
  induction l with
  | nil => intro b x; rfl
  | cons y r ih => intro b x; exact ih _ x
 intro k
 induction k with
 | zero => intro h; exact ⟨rfl, h⟩
 | succ k ih =>
  intro h
  obtain ⟨i1, i2⟩ := ih (by omega)
  have e : (ns.drop 1).take (k + 1) = (ns.drop 1).take k ++ [ns.getD (k + 1) d0] := by
   rw [List.take_succ, List.getElem?_drop, List.getElem?_eq_getElem (by omega)]
   have : (1 + k) = k + 1 := by omega
   simp [this, List.getD_eq_getElem?_getD, List.getElem?_eq_getElem h]
  rw [e, snoc, ← i1]
  show ns.getD (if lt (ns.getD (k + 1) d0) (ns.getD (argBest _ k) d0) = true then k + 1 else argBest _ k) d0 = _ ∧ (if lt (ns.getD (k + 1) d0) (ns.getD (argBest _ k) d0) = true then k + 1 else argBest _ k) < _
  by_cases hb : lt (ns.getD (k + 1) d0) (ns.getD (argBest (fun i j => lt (ns.getD i d0) (ns.getD j d0)) k) d0) = true
  · rw [if_pos hb, if_pos hb]; exact ⟨rfl, h⟩
  · rw [if_neg hb, if_neg hb]; exact ⟨rfl, i2⟩
def zkU (lt : Int → Int → Bool) (ns : List Int) (d : V) : V := match ns with
 | [] => d
 | x :: r => .int (zeK lt x r)
theorem zbo {ns : List Int} {its : List Value} (r : Vals (ns.map V.int) its) {i : Nat} {v : Value} (h : its.toArray[i]? = some v) : ∃ t, v = Value.int (ns.getD i 0) t := by
 have hi : its[i]? = some v := by simpa using h
 have hl : i < its.length := (List.getElem?_eq_some_iff.mp hi).1
 have ll := r.length
 rw [List.length_map] at ll
 have e : (ns.map V.int)[i]? = some (.int (ns.getD i 0)) := by
  rw [List.getElem?_map, List.getElem?_eq_getElem (by omega), List.getD_eq_getElem?_getD, List.getElem?_eq_getElem (by omega)]
  rfl
 obtain ⟨u, h1, h2⟩ := Vals.get r e
 rw [hi] at h1
 cases h1
 exact h2
section
variable {X : Cx}
def zib (X : Cx) (f : Value) (ks : List Str) (r : List V → List V → Hp → VK → Prop) : Prop :=
 ∀ (pins : List (Addr × Obj)) (s : Shared) (σ : St) (H : Hp) (xs zs : List V) (us ws : List Value) (Q : VK), Inv X pins σ H s → Vals xs us → Vals zs ws → r xs zs H Q → wpAny (model X.prog X.w) X.A (call f us (ks.zip ws)) (EP X pins σ Q) X.xe s
def tCBK (r : List V → List V → Hp → VK → Prop) (t tk : TA) : TE := fun σ H Q => t σ H fun vs H1 => tk σ H1 fun zs H2 => r vs zs H2 Q
theorem zd7 {x : Str} {id : String} {ks : List Str} {r : List V → List V → Hp → VK → Prop} {e : Expr} {es : List Expr} {kws : List Keyword} {t tk : TA} {p pos : Pos} (hc : zib X (.builtin id) ks r) (hg : Gl X x) (hm : X.mg x = none) (hv : bootBuiltins x = some (.builtin id)) (ha : PA X (e :: es) t) (hkw : PK X kws tk)
 (hks : (backToKw pos (keywordEach kws X.env)).filterMap (·.1) = ks := by rfl) (hn : x ≠ "__name__" := by decide) (hdb : (x == ("__debug__" : Str)) = false := by decide)
 (he : backTo pos (starEach (e :: es) X.env) = (false, eval e X.env) :: backTo pos (starEach es X.env) := by rfl) (hpl : (backTo pos (starEach (e :: es) X.env)).any (·.1) = false := by rfl)
 (hall : (backToKw pos (keywordEach kws X.env)).all (·.1.isSome) = true := by rfl) (hkn : (backToKw pos (keywordEach kws X.env)).any (·.1.isNone) = false := by rfl) :
 PE X (.Call (.Name x p) (e :: es) kws pos) (tCBK r t tk) := by
 intro pins s σ H Q I h
 refine wpAny_Call_Name_kw (zdA I hg hm hv ?_ hn hdb)
 refine callWith_kw (thn (ha pos pins s σ H _ I h) fun us s1 ⟨vs, H1, I1, r1, q1⟩ => ?_) he hpl hall hkn
 refine thn (hkw pos pins s1 σ H1 _ I1 q1) fun ws s2 ⟨zs, H2, I2, r2, q2⟩ => ?_
 rw [hks]
 exact hc pins s2 σ H2 vs zs us ws Q I2 r1 r2 q2
theorem zj9 (hc : X.calm = true) : zib X (.builtin "max") ["default"] (fun xs zs H Q => ∃ a ns d, xs = [.ref a] ∧ zs = [d] ∧ SqL X.K H a (ns.map V.int) ∧ Q (zkU (fun i j => decide (j < i)) ns d) H) := by
 intro pins s σ H xs zs us ws Q I r1 r2 h
 obtain ⟨a, ns, d, rfl, rfl, hq, q⟩ := h
 obtain ⟨u, rfl, ru⟩ := zcu r1
 obtain ⟨z, rfl, rz⟩ := zcu r2
 cases ru
 obtain ⟨its, rv, p, _⟩ := I.list hq
 have ll := rv.length
 rw [List.length_map] at ll
 refine zhi (I.ok.hd hc) p.isList (fun i j => decide (ns.getD j 0 < ns.getD i 0)) (fun i j vi vj s' Q' E' hi hj q' => ?_) fun v g t' h1 h2 h3 => ?_
 · obtain ⟨t1, rfl⟩ := zbo rv hi
   obtain ⟨t2, rfl⟩ := zbo rv hj
   exact gt_int q'
 · refine ⟨_, H, I.kept h3, ?_, q⟩
   cases ns with
   | nil =>
    have e : its.toArray.size = 0 := by simp; simpa using ll.symm
    rw [h1 e]
    exact rz
   | cons x rr =>
    simp only [List.length_cons] at ll
    have e : 0 < its.toArray.size := by simp; omega
    have hv := h2 e
    obtain ⟨t, rfl⟩ := zbo rv hv
    have ee : its.toArray.size - 1 = rr.length := by simp; omega
    rw [ee]
    have := (zcV (fun i j => decide (j < i)) (x :: rr) 0 rr.length (by simp)).1
    have e2 : ((x :: rr).drop 1).take rr.length = rr := by simp
    rw [e2] at this
    refine ⟨t, ?_⟩
    rw [this]
    rfl
theorem zj8 (hc : X.calm = true) : zib X (.builtin "min") ["default"] (fun xs zs H Q => ∃ a ns d, xs = [.ref a] ∧ zs = [d] ∧ SqL X.K H a (ns.map V.int) ∧ Q (zkU (fun i j => decide (i < j)) ns d) H) := by
 intro pins s σ H xs zs us ws Q I r1 r2 h
 obtain ⟨a, ns, d, rfl, rfl, hq, q⟩ := h
 obtain ⟨u, rfl, ru⟩ := zcu r1
 obtain ⟨z, rfl, rz⟩ := zcu r2
 cases ru
 obtain ⟨its, rv, p, _⟩ := I.list hq
 have ll := rv.length
 rw [List.length_map] at ll
 refine zhh (I.ok.hd hc) p.isList (fun i j => decide (ns.getD i 0 < ns.getD j 0)) (fun i j vi vj s' Q' E' hi hj q' => ?_) fun v g t' h1 h2 h3 => ?_
 · obtain ⟨t1, rfl⟩ := zbo rv hi
   obtain ⟨t2, rfl⟩ := zbo rv hj
   exact lt_int q'
 · refine ⟨_, H, I.kept h3, ?_, q⟩
   cases ns with
   | nil =>
    have e : its.toArray.size = 0 := by simp; simpa using ll.symm
    rw [h1 e]
    exact rz
   | cons x rr =>
    simp only [List.length_cons] at ll
    have e : 0 < its.toArray.size := by simp; omega
    have hv := h2 e
    obtain ⟨t, rfl⟩ := zbo rv hv
    have ee : its.toArray.size - 1 = rr.length := by simp; omega
    rw [ee]
    have := (zcV (fun i j => decide (i < j)) (x :: rr) 0 rr.length (by simp)).1
    have e2 : ((x :: rr).drop 1).take rr.length = rr := by simp
    rw [e2] at this
    refine ⟨t, ?_⟩
    rw [this]
    rfl
end
section
variable {X : Cx} {pins : List (Addr × Obj)} {σ : St} {H : Hp} {s : Shared}
theorem zkk (I : Inv X pins σ H s) (A : Around) (d e : PD) (v w : V) (u y : Value) (h : Rep X.K H d v) (h' : Rep X.K H e w) (r : RelV v u) (r' : RelV w y) (z : A.units + zaD d < cLine) : SeqAt.RcAt A s u y (pyEq d e) := by
 cases d with
 | non =>
  rw [Rep] at h; subst h; cases r
  cases e with
  | non =>
   rw [Rep] at h'
   subst h'; cases r'
   rw [pyEq]; exact SeqAt.RcAt.none_none
  | bl b =>
   rw [Rep] at h'
   subst h'; cases r'
   exact SeqAt.RcAt.none_bool b
  | int b =>
   rw [Rep] at h'
   subst h'; obtain ⟨t, rfl⟩ := r'
   exact SeqAt.RcAt.none_int b t
  | str b =>
   rw [Rep] at h'
   subst h'; obtain ⟨t, rfl⟩ := r'
   exact SeqAt.RcAt.none_str b t
  | lst es =>
   rw [Rep] at h'
   obtain ⟨b, ys, rfl, q', qs'⟩ := h'; cases r'
   obtain ⟨its', rv', p', _⟩ := I.list q'
   exact SeqAt.RcAt.none_list p'.isList (by omega)
  | tup es =>
   rw [Rep] at h'
   obtain ⟨b, ys, rfl, q', qs'⟩ := h'; cases r'
   obtain ⟨its', rv', p', _⟩ := I.tuple q'
   exact SeqAt.RcAt.none_tuple p' (by omega)
 | bl c =>
  rw [Rep] at h; subst h; cases r
  cases e with
  | non =>
   rw [Rep] at h'
   subst h'; cases r'
   exact SeqAt.RcAt.bool_none c
  | bl b =>
   rw [Rep] at h'
   subst h'; cases r'
   exact SeqAt.RcAt.bool_bool c b
  | int b =>
   rw [Rep] at h'
   subst h'; obtain ⟨t, rfl⟩ := r'
   exact SeqAt.RcAt.bool_int c b t
  | str b =>
   rw [Rep] at h'
   subst h'; obtain ⟨t, rfl⟩ := r'
   exact SeqAt.RcAt.bool_str c b t
  | lst es =>
   rw [Rep] at h'
   obtain ⟨b, ys, rfl, q', qs'⟩ := h'; cases r'
   obtain ⟨its', rv', p', _⟩ := I.list q'
   exact SeqAt.RcAt.bool_list c p'.isList (by omega)
  | tup es =>
   rw [Rep] at h'
   obtain ⟨b, ys, rfl, q', qs'⟩ := h'; cases r'
   obtain ⟨its', rv', p', _⟩ := I.tuple q'
   exact SeqAt.RcAt.bool_tuple c p' (by omega)
 | int c =>
  rw [Rep] at h; subst h; obtain ⟨tc, rfl⟩ := r
  cases e with
  | non =>
   rw [Rep] at h'
   subst h'; cases r'
   exact SeqAt.RcAt.int_none c tc
  | bl b =>
   rw [Rep] at h'
   subst h'; cases r'
   exact SeqAt.RcAt.int_bool c tc b
  | int b =>
   rw [Rep] at h'
   subst h'; obtain ⟨t, rfl⟩ := r'
   exact SeqAt.RcAt.int_int c tc b t
  | str b =>
   rw [Rep] at h'
   subst h'; obtain ⟨t, rfl⟩ := r'
   exact SeqAt.RcAt.int_str c tc b t
  | lst es =>
   rw [Rep] at h'
   obtain ⟨b, ys, rfl, q', qs'⟩ := h'; cases r'
   obtain ⟨its', rv', p', _⟩ := I.list q'
   exact SeqAt.RcAt.int_list c tc p'.isList (by omega)
  | tup es =>
   rw [Rep] at h'
   obtain ⟨b, ys, rfl, q', qs'⟩ := h'; cases r'
   obtain ⟨its', rv', p', _⟩ := I.tuple q'
   exact SeqAt.RcAt.int_tuple c tc p' (by omega)
 | str c =>
  rw [Rep] at h; subst h; obtain ⟨tc, rfl⟩ := r
  cases e with
  | non =>
   rw [Rep] at h'
   subst h'; cases r'
   exact SeqAt.RcAt.str_none c tc
  | bl b =>
   rw [Rep] at h'
   subst h'; cases r'
   exact SeqAt.RcAt.str_bool c tc b
  | int b =>
   rw [Rep] at h'
   subst h'; obtain ⟨t, rfl⟩ := r'
   exact SeqAt.RcAt.str_int c tc b t
  | str b =>
   rw [Rep] at h'
   subst h'; obtain ⟨t, rfl⟩ := r'
   exact SeqAt.RcAt.str_str c tc b t
  | lst es =>
   rw [Rep] at h'
   obtain ⟨b, ys, rfl, q', qs'⟩ := h'; cases r'
   obtain ⟨its', rv', p', _⟩ := I.list q'
   exact SeqAt.RcAt.str_list c tc p'.isList (by omega)
  | tup es =>
   rw [Rep] at h'
   obtain ⟨b, ys, rfl, q', qs'⟩ := h'; cases r'
   obtain ⟨its', rv', p', _⟩ := I.tuple q'
   exact SeqAt.RcAt.str_tuple c tc p' (by omega)
 | lst ds =>
  rw [Rep] at h; obtain ⟨a, xs, rfl, q, qs⟩ := h; cases r
  obtain ⟨its, rv, p, _⟩ := I.list q
  cases e with
  | non =>
   rw [Rep] at h'
   subst h'; cases r'
   exact SeqAt.RcAt.list_none p.isList (by omega)
  | bl b =>
   rw [Rep] at h'
   subst h'; cases r'
   exact SeqAt.RcAt.list_bool b p.isList (by omega)
  | int b =>
   rw [Rep] at h'
   subst h'; obtain ⟨t, rfl⟩ := r'
   exact SeqAt.RcAt.list_int b t p.isList (by omega)
  | str b =>
   rw [Rep] at h'
   subst h'; obtain ⟨t, rfl⟩ := r'
   exact SeqAt.RcAt.list_str b t p.isList (by omega)
  | lst es =>
   rw [Rep] at h'
   obtain ⟨b, ys, rfl, q', qs'⟩ := h'; cases r'
   obtain ⟨its', rv', p', _⟩ := I.list q'
   rw [pyEq]
   rw [zaD] at z
   have l1 := qs.length
   have l2 := qs'.length
   have l3 := rv.length
   have l4 := rv'.length
   by_cases hl : ds.length = es.length
   · rw [← zbc ds es hl]
     have := SeqAt.RcAt.lists (e := eqJ ds es) p.isList p'.isList (by simp; omega) (by omega) (fun j h1 h2 => ?_) (A := A)
     · simp only [List.size_toArray] at this
       rw [show ds.length = its.length by omega]
       exact this
     · have := zbY I A.in1 ds es xs ys its its' qs qs' rv rv' (by rw [Around.in1_units]; omega) j (by simpa using h1) (by simpa using h2)
       simpa using this
   · rw [za4 hl]
     exact SeqAt.RcAt.lists_lengths p.isList p'.isList (by simp; omega) (by omega)
  | tup es =>
   rw [Rep] at h'
   obtain ⟨b, ys, rfl, q', qs'⟩ := h'; cases r'
   obtain ⟨its', rv', p', _⟩ := I.tuple q'
   exact SeqAt.RcAt.list_tuple p.isList p' (by omega)
 | tup ds =>
  rw [Rep] at h; obtain ⟨a, xs, rfl, q, qs⟩ := h; cases r
  obtain ⟨its, rv, p, _⟩ := I.tuple q
  cases e with
  | non =>
   rw [Rep] at h'
   subst h'; cases r'
   exact SeqAt.RcAt.tuple_none p (by omega)
  | bl b =>
   rw [Rep] at h'
   subst h'; cases r'
   exact SeqAt.RcAt.tuple_bool b p (by omega)
  | int b =>
   rw [Rep] at h'
   subst h'; obtain ⟨t, rfl⟩ := r'
   exact SeqAt.RcAt.tuple_int b t p (by omega)
  | str b =>
   rw [Rep] at h'
   subst h'; obtain ⟨t, rfl⟩ := r'
   exact SeqAt.RcAt.tuple_str b t p (by omega)
  | lst es =>
   rw [Rep] at h'
   obtain ⟨b, ys, rfl, q', qs'⟩ := h'; cases r'
   obtain ⟨its', rv', p', _⟩ := I.list q'
   exact SeqAt.RcAt.tuple_list p p'.isList (by omega)
  | tup es =>
   rw [Rep] at h'
   obtain ⟨b, ys, rfl, q', qs'⟩ := h'; cases r'
   obtain ⟨its', rv', p', _⟩ := I.tuple q'
   rw [pyEq]
   rw [zaD] at z
   have l1 := qs.length
   have l2 := qs'.length
   have l3 := rv.length
   have l4 := rv'.length
   have := SeqAt.RcAt.tuples (e := eqJ ds es) p p' (by omega) (fun j h1 h2 => ?_) (A := A)
   · simp only [List.size_toArray] at this
     by_cases hl : ds.length = es.length
     · rw [← zbc ds es hl]
       rw [show min its.length its'.length = ds.length by omega, show (its.length == its'.length) = true by simp; omega, Bool.and_true] at this
       exact this
     · rw [za4 hl]
       rw [show (its.length == its'.length) = false by simp; omega, Bool.and_false] at this
       exact this
   · have := zbY I A.in1 ds es xs ys its its' qs qs' rv rv' (by rw [Around.in1_units]; omega) j (by simpa using h1) (by simpa using h2)
     simpa using this
theorem zim (I : Inv X pins σ H s) (A : Around) (d e : PD) (v w : V) (u y : Value) (h : Rep X.K H d v) (h' : Rep X.K H e w) (r : RelV v u) (r' : RelV w y) (z : A.units + zaD d < cLine) : SeqAt.RcNeAt A s u y (!pyEq d e) := by
 cases d with
 | non =>
  rw [Rep] at h; subst h; cases r
  cases e with
  | non =>
   rw [Rep] at h'
   subst h'; cases r'
   rw [pyEq]; exact SeqAt.RcNeAt.none_none
  | bl b =>
   rw [Rep] at h'
   subst h'; cases r'
   exact SeqAt.RcNeAt.none_bool b
  | int b =>
   rw [Rep] at h'
   subst h'; obtain ⟨t, rfl⟩ := r'
   exact SeqAt.RcNeAt.none_int b t
  | str b =>
   rw [Rep] at h'
   subst h'; obtain ⟨t, rfl⟩ := r'
   exact SeqAt.RcNeAt.none_str b t
  | lst es =>
   rw [Rep] at h'
   obtain ⟨b, ys, rfl, q', qs'⟩ := h'; cases r'
   obtain ⟨its', rv', p', _⟩ := I.list q'
   exact SeqAt.RcNeAt.none_list p'.isList (by omega)
  | tup es =>
   rw [Rep] at h'
   obtain ⟨b, ys, rfl, q', qs'⟩ := h'; cases r'
   obtain ⟨its', rv', p', _⟩ := I.tuple q'
   exact SeqAt.RcNeAt.none_tuple p' (by omega)
 | bl c =>
  rw [Rep] at h; subst h; cases r
  cases e with
  | non =>
   rw [Rep] at h'
   subst h'; cases r'
   exact SeqAt.RcNeAt.bool_none c
  | bl b =>
   rw [Rep] at h'
   subst h'; cases r'
   exact SeqAt.RcNeAt.bool_bool c b
  | int b =>
   rw [Rep] at h'
   subst h'; obtain ⟨t, rfl⟩ := r'
   exact SeqAt.RcNeAt.bool_int c b t
  | str b =>
   rw [Rep] at h'
   subst h'; obtain ⟨t, rfl⟩ := r'
   exact SeqAt.RcNeAt.bool_str c b t
  | lst es =>
   rw [Rep] at h'
   obtain ⟨b, ys, rfl, q', qs'⟩ := h'; cases r'
   obtain ⟨its', rv', p', _⟩ := I.list q'
   exact SeqAt.RcNeAt.bool_list c p'.isList (by omega)
  | tup es =>
   rw [Rep] at h'
   obtain ⟨b, ys, rfl, q', qs'⟩ := h'; cases r'
   obtain ⟨its', rv', p', _⟩ := I.tuple q'
   exact SeqAt.RcNeAt.bool_tuple c p' (by omega)
 | int c =>
  rw [Rep] at h; subst h; obtain ⟨tc, rfl⟩ := r
  cases e with
  | non =>
   rw [Rep] at h'
   subst h'; cases r'
   exact SeqAt.RcNeAt.int_none c tc
  | bl b =>
   rw [Rep] at h'
   subst h'; cases r'
   exact SeqAt.RcNeAt.int_bool c tc b
  | int b =>
   rw [Rep] at h'
   subst h'; obtain ⟨t, rfl⟩ := r'
   exact SeqAt.RcNeAt.int_int c tc b t
  | str b =>
   rw [Rep] at h'
   subst h'; obtain ⟨t, rfl⟩ := r'
   exact SeqAt.RcNeAt.int_str c tc b t
  | lst es =>
   rw [Rep] at h'
   obtain ⟨b, ys, rfl, q', qs'⟩ := h'; cases r'
   obtain ⟨its', rv', p', _⟩ := I.list q'
   exact SeqAt.RcNeAt.int_list c tc p'.isList (by omega)
  | tup es =>
   rw [Rep] at h'
   obtain ⟨b, ys, rfl, q', qs'⟩ := h'; cases r'
   obtain ⟨its', rv', p', _⟩ := I.tuple q'
   exact SeqAt.RcNeAt.int_tuple c tc p' (by omega)
 | str c =>
  rw [Rep] at h; subst h; obtain ⟨tc, rfl⟩ := r
  cases e with
  | non =>
   rw [Rep] at h'
   subst h'; cases r'
   exact SeqAt.RcNeAt.str_none c tc
  | bl b =>
   rw [Rep] at h'
   subst h'; cases r'
   exact SeqAt.RcNeAt.str_bool c tc b
  | int b =>
   rw [Rep] at h'
   subst h'; obtain ⟨t, rfl⟩ := r'
   exact SeqAt.RcNeAt.str_int c tc b t
  | str b =>
   rw [Rep] at h'
   subst h'; obtain ⟨t, rfl⟩ := r'
   exact SeqAt.RcNeAt.str_str c tc b t
  | lst es =>
   rw [Rep] at h'
   obtain ⟨b, ys, rfl, q', qs'⟩ := h'; cases r'
   obtain ⟨its', rv', p', _⟩ := I.list q'
   exact SeqAt.RcNeAt.str_list c tc p'.isList (by omega)
  | tup es =>
   rw [Rep] at h'
   obtain ⟨b, ys, rfl, q', qs'⟩ := h'; cases r'
   obtain ⟨its', rv', p', _⟩ := I.tuple q'
   exact SeqAt.RcNeAt.str_tuple c tc p' (by omega)
 | lst ds =>
  rw [Rep] at h; obtain ⟨a, xs, rfl, q, qs⟩ := h; cases r
  obtain ⟨its, rv, p, _⟩ := I.list q
  cases e with
  | non =>
   rw [Rep] at h'
   subst h'; cases r'
   exact SeqAt.RcNeAt.list_none p.isList (by omega)
  | bl b =>
   rw [Rep] at h'
   subst h'; cases r'
   exact SeqAt.RcNeAt.list_bool b p.isList (by omega)
  | int b =>
   rw [Rep] at h'
   subst h'; obtain ⟨t, rfl⟩ := r'
   exact SeqAt.RcNeAt.list_int b t p.isList (by omega)
  | str b =>
   rw [Rep] at h'
   subst h'; obtain ⟨t, rfl⟩ := r'
   exact SeqAt.RcNeAt.list_str b t p.isList (by omega)
  | lst es =>
   rw [Rep] at h'
   obtain ⟨b, ys, rfl, q', qs'⟩ := h'; cases r'
   obtain ⟨its', rv', p', _⟩ := I.list q'
   rw [pyEq]
   rw [zaD] at z
   have l1 := qs.length
   have l2 := qs'.length
   have l3 := rv.length
   have l4 := rv'.length
   by_cases hl : ds.length = es.length
   · rw [← zbc ds es hl]
     have := SeqAt.RcNeAt.lists (e := eqJ ds es) p.isList p'.isList (by simp; omega) (by omega) (fun j h1 h2 => ?_) (A := A)
     · simp only [List.size_toArray] at this
       rw [show ds.length = its.length by omega]
       exact this
     · have := zbY I A.in1 ds es xs ys its its' qs qs' rv rv' (by rw [Around.in1_units]; omega) j (by simpa using h1) (by simpa using h2)
       simpa using this
   · rw [za4 hl]
     exact SeqAt.RcNeAt.lists_lengths p.isList p'.isList (by simp; omega) (by omega)
  | tup es =>
   rw [Rep] at h'
   obtain ⟨b, ys, rfl, q', qs'⟩ := h'; cases r'
   obtain ⟨its', rv', p', _⟩ := I.tuple q'
   exact SeqAt.RcNeAt.list_tuple p.isList p' (by omega)
 | tup ds =>
  rw [Rep] at h; obtain ⟨a, xs, rfl, q, qs⟩ := h; cases r
  obtain ⟨its, rv, p, _⟩ := I.tuple q
  cases e with
  | non =>
   rw [Rep] at h'
   subst h'; cases r'
   exact SeqAt.RcNeAt.tuple_none p (by omega)
  | bl b =>
   rw [Rep] at h'
   subst h'; cases r'
   exact SeqAt.RcNeAt.tuple_bool b p (by omega)
  | int b =>
   rw [Rep] at h'
   subst h'; obtain ⟨t, rfl⟩ := r'
   exact SeqAt.RcNeAt.tuple_int b t p (by omega)
  | str b =>
   rw [Rep] at h'
   subst h'; obtain ⟨t, rfl⟩ := r'
   exact SeqAt.RcNeAt.tuple_str b t p (by omega)
  | lst es =>
   rw [Rep] at h'
   obtain ⟨b, ys, rfl, q', qs'⟩ := h'; cases r'
   obtain ⟨its', rv', p', _⟩ := I.list q'
   exact SeqAt.RcNeAt.tuple_list p p'.isList (by omega)
  | tup es =>
   rw [Rep] at h'
   obtain ⟨b, ys, rfl, q', qs'⟩ := h'; cases r'
   obtain ⟨its', rv', p', _⟩ := I.tuple q'
   rw [pyEq]
   rw [zaD] at z
   have l1 := qs.length
   have l2 := qs'.length
   have l3 := rv.length
   have l4 := rv'.length
   have := SeqAt.RcNeAt.tuples (e := eqJ ds es) p p' (by omega) (fun j h1 h2 => ?_) (A := A)
   · simp only [List.size_toArray] at this
     by_cases hl : ds.length = es.length
     · rw [← zbc ds es hl]
       rw [show min its.length its'.length = ds.length by omega, show (its.length == its'.length) = true by simp; omega, Bool.and_true] at this
       exact this
     · rw [za4 hl]
       rw [show (its.length == its'.length) = false by simp; omega, Bool.and_false] at this
       exact this
   · have := zbY I A.in1 ds es xs ys its its' qs qs' rv rv' (by rw [Around.in1_units]; omega) j (by simpa using h1) (by simpa using h2)
     simpa using this
end
def ziL (X : Cx) : Prop := X.A.units + 60 < cLine
section
variable {X : Cx}
def rEqD (K : PySem.W.Frag) : R2 := fun x y H Q => ∃ d e, Rep K H d x ∧ Rep K H e y ∧ zaD d < 60 ∧ Q (.bl (pyEq d e)) H
def rNeD (K : PySem.W.Frag) : R2 := fun x y H Q => ∃ d e, Rep K H d x ∧ Rep K H e y ∧ zaD d < 60 ∧ Q (.bl (!pyEq d e)) H
theorem zjp (hr : ziL X) : OpR X (compareOp .Eq) (rEqD X.K) := by
 intro pins s σ H x y v u Q I rx ry h
 obtain ⟨d, e, h1, h2, h3, q⟩ := h
 unfold ziL at hr
 exact zkk I X.A d e x y v u h1 h2 rx ry (by omega) X.prog X.w _ _ ⟨.bl _, H, I, rfl, q⟩
theorem zfP (hr : ziL X) : OpR X (compareOp .NotEq) (rNeD X.K) := by
 intro pins s σ H x y v u Q I rx ry h
 obtain ⟨d, e, h1, h2, h3, q⟩ := h
 unfold ziL at hr
 exact zim I X.A d e x y v u h1 h2 rx ry (by omega) X.prog X.w _ _ ⟨.bl _, H, I, rfl, q⟩
theorem zby {A : Around} {k : Nat} (hr : Room k A) : A.units + 60 < cLine := Nat.lt_of_le_of_lt (Nat.add_le_add_left (by decide : 60 ≤ 64) _) hr.units
theorem zaG {n : String} : zdj X (.builtin "isinstance") (fun xs H Q => ∃ x t c b, xs = [x, .ty c] ∧ TyOf X.K H x (.type t) ∧ PySem.W.kitOne X.K (.type t) (.type c) = some b ∧ Q (.bl b) H) := by
 intro pins s σ H xs us Q I r h
 obtain ⟨x, t, c, b, rfl, ty, e, q⟩ := h
 obtain ⟨u, w', rfl, ru, rw'⟩ := ziM r
 cases rw'
 exact zjP I ru ty e fun tk => ⟨.bl b, H, I.tok tk, rfl, q⟩
def gLst (K : PySem.W.Frag) (n : Nat) (t : TGs) : TG := fun v σ H Q => ∃ a xs, v = .ref a ∧ SqL K H a xs ∧ xs.length = n ∧ t xs σ H Q
end
section
variable {prog : Program} {w : World} {A : Around} {E : Value → Shared → Prop}
theorem zh4 {it a : Addr} {its : Array Value} (ne : a ≠ it) : ∀ (n i : Nat) (s : Shared) (Q : List Value → Shared → Prop), s.heap.IsListIter it a i → s.heap.IsList a its → i + n ≤ its.size →
 (∀ g, g.IsListIter it a (i + n) → Heap.SameBut it s.heap g → Q ((its.toList.drop i).take n) { s with heap := g }) → wpAny (model prog w) A (draw (.ref it) n) Q E s
 | 0, i, s, Q, st, _, _, fin => by
  show wpAny _ _ (pure []) Q E s
  exact wpAny_pure (by simpa using fin s.heap st (Heap.SameBut.refl ..))
 | n + 1, i, s, Q, st, hl, le, fin => by
  have lt : i < its.size := by omega
  show wpAny _ _ (pyNext (.ref it) >>= _) Q E s
  refine wpAny_bind (wpAny_pyNext_list_item st hl (x := its[i]) (by simp [lt]) fun g st' sb => ?_)
  refine wpAny_bind (wpAny_holding (zh4 ne n (i + 1) _ _ st' (hl.extBut sb.extBut ne) (by omega) fun g2 st2 sb2 => wpAny_pure ?_))
  have e1 : its.toList.drop i = its[i] :: its.toList.drop (i + 1) := by simp [List.drop_eq_getElem_cons, lt]
  have z := fin g2 (by rw [show i + (n + 1) = i + 1 + n by omega]; exact st2) (sb.trans sb2)
  rw [e1, List.take_succ_cons] at z
  exact z
theorem zif {s : Shared} {a : Addr} {its : Array Value} {targets : List (Bool × (Value → Sem Unit))} {Q : Unit → Shared → Prop} (hh : A.handled = none) (hl : s.heap.IsList a its)
 (hn : targets.length = its.size) (hst : targets.findIdx? (·.1) = none)
 (h : ∀ g, (∀ b o, s.heap.get? b = some o → g.get? b = some o) → wpAny (model prog w) A (assignInOrder (targets.map (·.2)) its.toList) Q E { s with heap := g }) :
 wpAny (model prog w) A (unpack (.ref a) targets) Q E s := by
 have ne : a ≠ s.heap.objs.size := by obtain ⟨o, ho, _⟩ := hl; exact Nat.ne_of_lt (Heap.lt_size ho)
 unfold unpack
 rw [hn, hst]
 refine wpAny_bind (wpAny_holding ?_)
 unfold unpackItems
 refine wpAny_bind ?_
 unfold notIterableAtAll
 refine wpAny_bind (wpAny_specialOf hl.typeIs slot_list_iter.lookup ?_)
 refine wpAny_pure ?_
 simp only [Bool.false_eq_true, if_false]
 refine wpAny_bind (wpAny_holding (wpAny_pyIter_list hl ?_))
 have kp : ∀ b o, s.heap.get? b = some o → (s.heap.push { cls := .type "list_iterator", data := .fields #[.ref a, .int 0 0] }).get? b = some o := fun b o e => Heap.get?_push_of_some _ e
 refine wpAny_bind (wpAny_holding (zh4 ne its.size 0 _ _ ⟨_, Heap.get?_push_size _ rfl, rfl, rfl⟩ (hl.at fun o e => kp a o e) (by omega) fun g st sb => ?_))
 have all : List.take its.size (List.drop 0 its.toList) = its.toList := by
  rw [List.drop_zero]; exact List.take_of_length_le (by simp)
 rw [all]
 rw [if_neg (by simp)]
 have hl1 : g.IsList a its := (hl.at fun o e => kp a o e).extBut sb.extBut ne
 refine wpAny_bind (wpAny_holding (wpAny_pyNext_list_end hh st hl1 (by simp) fun g2 eb => ?_))
 simp only [Option.isSome_none, Bool.false_eq_true, if_false]
 refine wpAny_pure (h g2 fun b o e => ?_)
 have hb : b ≠ s.heap.objs.size := Nat.ne_of_lt (Heap.lt_size e)
 exact eb b o hb (sb.extBut b o hb (kp b o e))
end
section
variable {X : Cx}
theorem zma {es : List Expr} {k : Nat} {t : TGs} {n : Nat} {pos : Pos} (hc : X.calm = true) (h : PGs X es t)
 (hn : (assignEach es X.env).length = n := by rfl) (hst : (assignEach es X.env).findIdx? (·.1) = none := by rfl) : PG X (.Tuple es k pos) (gLst X.K n t) := by
 intro pins s σ H v u Q I r hw
 obtain ⟨a, xs, e1, hq, hl, hw⟩ := hw
 subst e1
 cases r
 obtain ⟨its, rv, p, hz⟩ := I.list hq
 rw [assign_Tuple]
 refine wpAny_bind (wpAny_standAt (zif (I.ok.hd hc) p.isList (by simp [hn, ← hl, rv.length]) hst fun g kp => ?_))
 exact h pins _ σ H xs _ Q (I.kept (t' := s.toks) kp) (by simpa using rv) hw
end
section
variable {K : PySem.W.Frag} {a p : Addr} {xs : List V} {g : TG} {tc : TT} {te : TE} {σ : St} {H : Hp} {Q : VK}
abbrev zel (p : Addr) (g : TG) (tc : TT) (te : TE) (ys : List V) (x : V) (σ : St) (H : Hp) (N : St → List V → Hp → Prop) : Prop :=
 g x σ H fun σ2 H2 => tc σ2 H2 fun b H3 => if b = true then te σ2 H3 fun y H4 => H4 p = some (.lst ys) ∧ N σ2 (ys ++ [y]) (upd H4 p (.lst (ys ++ [y]))) else N σ2 ys H3
theorem zeF {n : Nat} {J : It} {js : Cap} (Pv : Nat → St → List V → Hp → Prop) (h0 : Pv 0 (inn js σ) [] (upd H p (.lst [])))
 (hl : ∀ i σ ys H, i ≤ n → Pv i σ ys H → H p = some (.lst ys) ∧ ys.length < sizeLine)
 (hgo : ∀ i σ ys H, i < n → Pv i σ ys H → J.go i H) (hst : ∀ σ ys H, Pv n σ ys H → J.stop n H)
 (hs : ∀ (i : Nat) x σ ys H H' (N : St → List V → Hp → Prop), i < n → J.yld i H x H' → Pv i σ ys H → (∀ σ' ys' H', Pv (i + 1) σ' ys' H' → N σ' ys' H') → zel p g tc te ys x σ H' N)
 (hd : ∀ σ ys H, Pv n σ ys H → Q (.ref p) H) :
 zbE J p js g tc te σ H Q := by
 refine ⟨fun i m σ ys H => m = n - i ∧ i ≤ n ∧ Pv i σ ys H, ⟨n, by simp, Nat.zero_le _, h0⟩, ?_⟩
 rintro i m σ ys H ⟨rfl, hi, pv⟩
 obtain ⟨q1, q2⟩ := hl i σ ys H hi pv
 refine ⟨q1, ?_⟩
 by_cases lt : i < n
 · exact .inr ⟨hgo i σ ys H lt pv, q2, fun x H' y => hs i x σ ys H H' (fun σ2 ys2 H2 => ∃ m', m' < n - i ∧ m' = n - (i + 1) ∧ i + 1 ≤ n ∧ Pv (i + 1) σ2 ys2 H2) lt y pv fun σ' ys' H' p' => ⟨n - (i + 1), by omega, rfl, lt, p'⟩⟩
 · have e : i = n := by omega
   subst e
   exact .inl ⟨hst σ ys H pv, hd σ ys H pv⟩
theorem zc2 {js : Cap} (Pv : Nat → St → List V → Hp → Prop) (h0 : Pv 0 (inn js σ) [] (upd H p (.lst [])))
 (hl : ∀ i σ ys H, i ≤ xs.length → Pv i σ ys H → SqL K H a xs ∧ H p = some (.lst ys) ∧ ys.length < sizeLine)
 (hs : ∀ (i : Nat) x σ ys H (N : St → List V → Hp → Prop), xs[i]? = some x → Pv i σ ys H → (∀ σ' ys' H', Pv (i + 1) σ' ys' H' → N σ' ys' H') → zel p g tc te ys x σ H N)
 (hd : ∀ σ ys H, Pv xs.length σ ys H → Q (.ref p) H) : zbE (Itl K a) p js g tc te σ H Q :=
 zeF (n := xs.length) (J := Itl K a) (js := js) (σ := σ) (H := H) (p := p) (Q := Q) (g := g) (tc := tc) (te := te) Pv h0 (fun i σ ys H hi pv => (hl i σ ys H hi pv).2)
  (fun i σ ys H hi pv => ⟨xs, xs[i], (hl i σ ys H (Nat.le_of_lt hi) pv).1, by simp [hi]⟩) (fun σ ys H pv => ⟨xs, (hl _ σ ys H (Nat.le_refl _) pv).1, Nat.le_refl _⟩)
  (fun i x σ ys H H' N hi y pv hN => by
   obtain ⟨e, y⟩ := y
   subst e
   exact hs i x σ ys _ N (y xs (hl i σ ys _ (Nat.le_of_lt hi) pv).1) pv hN) hd
theorem zf5 {js : Cap} (Pv : Nat → St → List V → Hp → Prop) (h0 : Pv 0 (inn js σ) [] (upd H p (.lst [])))
 (hl : ∀ i σ ys H, i ≤ xs.length → Pv i σ ys H → SqT K H a xs ∧ H p = some (.lst ys) ∧ ys.length < sizeLine)
 (hs : ∀ (i : Nat) x σ ys H (N : St → List V → Hp → Prop), xs[i]? = some x → Pv i σ ys H → (∀ σ' ys' H', Pv (i + 1) σ' ys' H' → N σ' ys' H') → zel p g tc te ys x σ H N)
 (hd : ∀ σ ys H, Pv xs.length σ ys H → Q (.ref p) H) : zbE (Itt K a) p js g tc te σ H Q :=
 zeF (n := xs.length) (J := Itt K a) (js := js) (σ := σ) (H := H) (p := p) (Q := Q) (g := g) (tc := tc) (te := te) Pv h0 (fun i σ ys H hi pv => (hl i σ ys H hi pv).2)
  (fun i σ ys H hi pv => ⟨xs, xs[i], (hl i σ ys H (Nat.le_of_lt hi) pv).1, by simp [hi]⟩) (fun σ ys H pv => ⟨xs, (hl _ σ ys H (Nat.le_refl _) pv).1, Nat.le_refl _⟩)
  (fun i x σ ys H H' N hi y pv hN => by
   obtain ⟨e, y⟩ := y
   subst e
   exact hs i x σ ys _ N (y xs (hl i σ ys _ (Nat.le_of_lt hi) pv).1) pv hN) hd
theorem zfn {js : Cap} {lo : Int} {n : Nat} (Pv : Nat → St → List V → Hp → Prop) (h0 : Pv 0 (inn js σ) [] (upd H p (.lst [])))
 (hl : ∀ i σ ys H, i ≤ n → Pv i σ ys H → H p = some (.lst ys) ∧ ys.length < sizeLine)
 (hs : ∀ (i : Nat) σ ys H (N : St → List V → Hp → Prop), i < n → Pv i σ ys H → (∀ σ' ys' H', Pv (i + 1) σ' ys' H' → N σ' ys' H') → zel p g tc te ys (.int (lo + i)) σ H N)
 (hd : ∀ σ ys H, Pv n σ ys H → Q (.ref p) H) : zbE (Itr lo n) p js g tc te σ H Q :=
 zeF (n := n) (J := Itr lo n) (js := js) (σ := σ) (H := H) (p := p) (Q := Q) (g := g) (tc := tc) (te := te) Pv h0 hl
  (fun i σ ys H hi pv => hi) (fun σ ys H pv => Nat.le_refl n)
  (fun i x σ ys H H' N hi y pv hN => by
   obtain ⟨e, y⟩ := y
   subst e y
   exact hs i σ ys _ N hi pv hN) hd
end
def zh8 (outer : Scope) (N N' : List Str) (js : Cap) (scope : Scope) : Bool :=
 decide (js.length = N'.length) && (scope.kind == .function) && scope.names.all (fun p => p.2 != .cell && (p.2 != .local || scope.names.lookup p.1 == some .local) && (p.2 != .free || (outer.names.lookup p.1 == some .cell || outer.names.lookup p.1 == some .free)))
  && (List.range js.length).all fun i => match js[i]? with
   | some (some j) => (match N'[i]? with | some x => N[j]? == some x && scope.names.lookup x == some .free | none => false)
   | _ => true
theorem zbZ {X : Cx} {N N' : List Str} {js : Cap} {scope outer : Scope} (h : zh8 outer N N' js scope = true) (hN : X.N = N := by rfl) (ho : X.env.scope = outer := by rfl) : CapOk X N' js scope := by
 subst hN ho
 unfold zh8 at h
 rw [Bool.and_eq_true, Bool.and_eq_true, Bool.and_eq_true] at h
 obtain ⟨⟨⟨h1, h2⟩, h3⟩, h4⟩ := h
 rw [List.all_eq_true] at h3 h4
 refine ⟨of_decide_eq_true h1, eq_of_beq h2, fun p hp e => ?_, fun p hp e => ?_, fun p hp e => ?_, fun i j e => ?_⟩
 · have := h3 p hp
   rw [e] at this
   simp at this
 · have := h3 p hp
   rw [e] at this
   simp at this
   exact this
 · have := h3 p hp
   rw [e] at this
   simp at this
   exact this
 · have hi : i < js.length := (List.getElem?_eq_some_iff.mp e).1
   have := h4 i (List.mem_range.mpr hi)
   rw [e] at this
   simp only at this
   cases q : N'[i]? with
   | none => rw [q] at this; cases this
   | some x =>
    rw [q] at this
    simp only [Bool.and_eq_true, beq_iff_eq] at this
    exact ⟨x, rfl, this.1, this.2⟩
def FnH (P : Program) (w : World) (K : PySem.W.Frag) (mg : Str → Option Value) (base : Heap) (k : Nat) (x : Str) (ps : List Str) (sp : Sp) : Prop :=
 ∃ f fd, FnOk P w K mg base CX0 k f fd ps sp ∧ Binds K fd ps [] ∧ PySem.W.keepIn K (.ref f) = true ∧ mg x = some (.ref f)
section
variable {X : Cx} {k : Nat} {x : Str} {ps : List Str} {sp : Sp} {e : Expr} {es : List Expr} {t : TA} {p pos : Pos}
theorem zar (F : FnH X.prog X.w X.K X.mg X.base k x ps sp) (hr : Room k X.A) (hg : Gl X x) (ha : PA X (e :: es) t) (hdb : (x == ("__debug__" : Str)) = false := by decide)
 (he : starEach (e :: es) X.env = (false, eval e X.env) :: starEach es X.env := by rfl) (hpl : (backTo pos (starEach es X.env)).any (·.1) = false := by rfl) : PE X (.Call (.Name x p) (e :: es) [] pos) (zlY sp [] E0 t) := by
 obtain ⟨f, fd, h1, h2, h3, h4⟩ := F
 exact zls h1 hr hg h4 h3 h2 .nil zmc ha hdb he hpl
end
structure Bl (mg : Str → Option Value) : Prop where
 len_ : mg "len" = none
 range_ : mg "range" = none
 isinstance_ : mg "isinstance" = none
 int_ : mg "int" = none
 bool_ : mg "bool" = none
 tuple_ : mg "tuple" = none
 list_ : mg "list" = none
 max_ : mg "max" = none
 min_ : mg "min" = none
 all_ : mg "all" = none
 zip_ : mg "zip" = none
 str_ : mg "str" = none
 dict_ : mg "dict" = none
 sorted_ : mg "sorted" = none
 set_ : mg "set" = none
 any_ : mg "any" = none
 sum_ : mg "sum" = none
 enumerate_ : mg "enumerate" = none
 repr_ : mg "repr" = none
 ord_ : mg "ord" = none
 chr_ : mg "chr" = none
 abs_ : mg "abs" = none
 reversed_ : mg "reversed" = none
theorem zh9 : bootBuiltins "int" = some (.type "int") := by decide +kernel
theorem zkc : bootBuiltins "bool" = some (.type "bool") := by decide +kernel
theorem zbb : bootBuiltins "tuple" = some (.type "tuple") := by decide +kernel
theorem zlH : bootBuiltins "list" = some (.type "list") := by decide +kernel
theorem zk8 : bootBuiltins "str" = some (.type "str") := by decide +kernel
theorem zlI : bootBuiltins "dict" = some (.type "dict") := by decide +kernel
theorem zms : bootBuiltins "set" = some (.type "set") := by decide +kernel
theorem zaz : bootBuiltins "isinstance" = some (.builtin "isinstance") := by decide +kernel
theorem zdh : bootBuiltins "len" = some (.builtin "len") := by decide +kernel
theorem zkb : bootBuiltins "max" = some (.builtin "max") := by decide +kernel
theorem zka : bootBuiltins "min" = some (.builtin "min") := by decide +kernel
theorem zia : bootBuiltins "all" = some (.builtin "all") := by decide +kernel
theorem zbD : bootBuiltins "sorted" = some (.builtin "sorted") := by decide +kernel
theorem zgK {n : Nat} (h : n ≤ 1000) : n ≤ sizeLine := Nat.le_of_lt (zao h)
theorem zae {H : Hp} {p : Addr} (h : H p = none) (o : HO) : Same H (upd H p o) := fun b u q => by rw [zak (zav q h)]; exact q
def eV : Option Int → V
 | none => .non
 | some i => .int i
theorem zgd (o : Option Int) : (!decide (eV o = V.non)) = o.isSome := by
 cases o with
 | none => rfl
 | some i => rfl
def bigM : Int := 618970019642690137449562111
structure Bag (H : Hp) (b g l : Addr) (n : Int) : Prop where
 ex : ∃ (gs ls : List Int) (c st : Int), H b = some (.lst [.ref g, .ref l, .int c, .int st]) ∧ H g = some (.lst (gs.map V.int)) ∧ H l = some (.lst (ls.map V.int)) ∧
  gs.length ≤ 63 ∧ 0 < ls.length ∧ ls.length ≤ 64 ∧ (∀ x ∈ ls, 0 ≤ x ∧ x < 10 ^ 18) ∧ 0 ≤ c ∧ c ≤ n ∧ 0 ≤ st ∧ st < bigM
 gl : g ≠ l
def SameB (b g : Addr) (H H' : Hp) : Prop := ∀ a o, H a = some o → a ≠ b → a ≠ g → H' a = some o
theorem Bag.bg {H : Hp} {b g l : Addr} {n : Int} (B : Bag H b g l n) : b ≠ g := by
 obtain ⟨gs, ls, c, st, h1, h2, _⟩ := B.ex
 intro e
 rw [e, h2] at h1
 cases gs with
 | nil => cases h1
 | cons x r => injection h1 with h1; injection h1 with h1; injection h1 with h1 _; cases h1
theorem Bag.bl {H : Hp} {b g l : Addr} {n : Int} (B : Bag H b g l n) : b ≠ l := by
 obtain ⟨gs, ls, c, st, h1, h2, h3, _⟩ := B.ex
 intro e
 rw [e, h3] at h1
 cases ls with
 | nil => cases h1
 | cons x r => injection h1 with h1; injection h1 with h1; injection h1 with h1 _; cases h1
theorem Bag.mono {H : Hp} {b g l : Addr} {n m : Int} (B : Bag H b g l n) (h : n ≤ m) : Bag H b g l m := by
 obtain ⟨⟨gs, ls, c, st, h1, h2, h3, h4, h5, h6, h7, h8, h9, h10⟩, gl⟩ := B
 exact ⟨⟨gs, ls, c, st, h1, h2, h3, h4, h5, h6, h7, h8, Int.le_trans h9 h, h10⟩, gl⟩
theorem Bag.same {H H' : Hp} {b g l : Addr} {n : Int} (B : Bag H b g l n) (h : Same H H') : Bag H' b g l n := by
 obtain ⟨⟨gs, ls, c, st, h1, h2, h3, h4⟩, gl⟩ := B
 exact ⟨⟨gs, ls, c, st, h _ _ h1, h _ _ h2, h _ _ h3, h4⟩, gl⟩
theorem SameB.refl (b g : Addr) (H : Hp) : SameB b g H H := fun _ _ h _ _ => h
theorem SameB.trans {b g : Addr} {H H1 H2 : Hp} (x : SameB b g H H1) (y : SameB b g H1 H2) : SameB b g H H2 := fun a o h n1 n2 => y a o (x a o h n1 n2) n1 n2
theorem Same.sameB {b g : Addr} {H H1 : Hp} (x : Same H H1) : SameB b g H H1 := fun a o h _ _ => x a o h
theorem SameB.tup {b g l : Addr} {n : Int} {H H' : Hp} (B : Bag H b g l n) (s : SameB b g H H') {a : Addr} {xs : List V} (h : H a = some (.tup xs)) : H' a = some (.tup xs) := by
 obtain ⟨gs, ls, c, st, h1, h2, _⟩ := B.ex
 exact s a _ h (zdc h h1 (by intro z; cases z)) (zdc h h2 (by intro z; cases z))
theorem Bag.free {H : Hp} {b g l : Addr} {n : Int} (B : Bag H b g l n) {p : Addr} (h : H p = none) : p ≠ b ∧ p ≠ g ∧ p ≠ l := by
 obtain ⟨gs, ls, c, st, h1, h2, h3, _⟩ := B.ex
 exact ⟨(zav h1 h).symm, (zav h2 h).symm, (zav h3 h).symm⟩
theorem zid {c : TT} {tb u : TS} {D : Ends} {σ : St} {H : Hp} (W : Nat → St → Hp → Prop) (M : St → Hp → Prop) (h0 : ∃ m, W m σ H)
 (hs : ∀ (m : Nat) σ H (Z : St → Hp → Prop), W m σ H → (∀ σ' H', M σ' H' → Z σ' H') → c σ H fun b H1 => if b = true then ∃ N : St → Hp → Prop, (∀ σ' H', N σ' H' → ∃ m', m' < m ∧ W m' σ' H') ∧ tb { nx := N, rt := D.rt, bk := Z, ct := N } σ H1 else Z σ H1)
 (hd : ∀ σ H, M σ H → u D σ H) : tSeq (zkW c tb) u D σ H := ⟨W, h0, fun m σ H w => hs m σ H (u D) w hd⟩
theorem ze3 {K : PySem.W.Frag} {H : Hp} : ∀ ns : List Int, Reps K H (ns.map PD.int) (ns.map V.int)
 | [] => by show Reps K H [] []; rw [Reps]
 | n :: ns => by
  show Reps K H (.int n :: ns.map PD.int) (.int n :: ns.map V.int)
  rw [Reps]
  exact ⟨_, _, rfl, by rw [Rep], ze3 ns⟩
theorem zdv : ∀ ns : List Int, zaC (ns.map PD.int) = 0
 | [] => by show zaC [] = 0; rw [zaC]
 | n :: ns => by
  show zaC (.int n :: ns.map PD.int) = 0
  rw [zaC, zdv ns, zaD]
  all_goals simp
theorem zmT {K : PySem.W.Frag} {H : Hp} {a p : Addr} {ns : List Int} {Q : VK} (h : SqL K H a (ns.map V.int)) (hp : SqL K H p []) (q : Q (.bl ns.isEmpty) H) : rEqD K (.ref a) (.ref p) H Q := by
 refine ⟨.lst (ns.map PD.int), .lst [], by rw [Rep]; exact ⟨a, _, rfl, h, ze3 ns⟩, by rw [Rep]; exact ⟨p, _, rfl, hp, by rw [Reps]⟩, by rw [zaD, zdv]; decide, ?_⟩
 cases ns with
 | nil => rw [pyEq, show zbd (([] : List Int).map PD.int) [] = true from zcg []]; exact q
 | cons n ns => rw [pyEq, za4 (by simp)]; exact q
theorem zky {K : PySem.W.Frag} {H : Hp} {a p : Addr} {ns : List Int} {Q : VK} (h : SqL K H a (ns.map V.int)) (hp : SqL K H p []) (q : Q (.bl (!ns.isEmpty)) H) : rNeD K (.ref a) (.ref p) H Q := by
 refine ⟨.lst (ns.map PD.int), .lst [], by rw [Rep]; exact ⟨a, _, rfl, h, ze3 ns⟩, by rw [Rep]; exact ⟨p, _, rfl, hp, by rw [Reps]⟩, by rw [zaD, zdv]; decide, ?_⟩
 cases ns with
 | nil => rw [pyEq, show zbd (([] : List Int).map PD.int) [] = true from zcg []]; exact q
 | cons n ns => rw [pyEq, za4 (by simp)]; exact q
theorem at0 {α : Type} {x : α} {r : List α} : atI (x :: r) 0 = some x := zdw (j := 0) rfl
theorem ix0 {α : Type} {x : α} {r : List α} : ixN (x :: r).length 0 = some 0 := by
 unfold ixN
 rw [if_pos (by decide), if_pos (by rw [List.length_cons]; omega)]
 rfl
theorem zmu {ls : List Int} {i : Int} (h0 : 0 ≤ i) (h1 : i < (ls.length : Int)) : ∃ v, atI (ls.map V.int) i = some (.int v) ∧ v ∈ ls := by
 obtain ⟨k, rfl⟩ := Int.eq_ofNat_of_zero_le h0
 have hk : k < ls.length := by omega
 exact ⟨ls[k], zdw (by rw [List.getElem?_map, List.getElem?_eq_getElem hk]; rfl), List.getElem_mem _⟩
theorem sz0 : (0 : Nat) ≤ sizeLine := Nat.zero_le _
def zi0 : Sp := fun vs H Q _ => ∃ (b g l : Addr) (n many : Int), vs = [.ref b, .int many] ∧ Bag H b g l n ∧ n ≤ 2 ^ 40 ∧ 0 < many ∧ many < 2 ^ 500 ∧
 ∀ (r : Int) (H' : Hp), 0 ≤ r → r < many → Bag H' b g l (n + 1) → SameB b g H H' → Q (.int r) H'
def zli (K : PySem.W.Frag) : Sp := fun vs H Q _ => ∃ (a : Addr) (ns : List Int), vs = [.ref a] ∧ SqL K H a (ns.map V.int) ∧ ns.length ≤ 63 ∧
 ∀ (b g l : Addr) (H' : Hp), Bag H' b g l 0 → Same H H' → H b = none → H g = none → Q (.ref b) H'
theorem zaq {α : Type} {l : List α} {i : Nat} {x : α} (h : l[i]? = some x) : l.take (i + 1) = l.take i ++ [x] := by
 rw [List.take_succ, h]
 rfl
theorem zjH {K : PySem.W.Frag} {H : Hp} {a p : Addr} {Q : VK} {js : Cap} {σ cap : St} {tc : TT} {te : TE} (ns : List Int) (f : Int → Int) (c : Int → Bool) (hn : ns.length ≤ 900) (e : SqL K H a (ns.map V.int)) (hp : H p = none) (hσ : inn js σ = none :: cap)
 (ht : ∀ n H' (R : Bool → Hp → Prop), Same H H' → R (c n) H' → tc (some (.int n) :: cap) H' R) (he : ∀ n H' (R : VK), Same H H' → R (.int (f n)) H' → te (some (.int n) :: cap) H' R)
 (hq : ∀ H', Same H H' → H' p = some (.lst (((ns.filter c).map f).map V.int)) → Q (.ref p) H') : zbE (Itl K a) p js (zdG 0) tc te σ H Q := by
 have s0 := zae hp (.lst [])
 refine zc2 (xs := ns.map V.int) (fun i σ' ys H' => (∃ v, σ' = v :: cap) ∧ Same H H' ∧ H' p = some (.lst ys) ∧ ys = ((((ns.take i).filter c).map f).map V.int)) ⟨⟨_, hσ⟩, s0, zab, rfl⟩ ?_ ?_ ?_
 · rintro i σ' ys H' hi ⟨_, s, h1, h2⟩
   refine ⟨s.seq e, h1, ?_⟩
   rw [h2]
   simp only [List.length_map]
   have := List.length_filter_le c (ns.take i)
   rw [List.length_take] at this
   exact zao (by omega)
 · rintro i x σ' ys H' N hx ⟨⟨v, rfl⟩, s, h1, h2⟩ hN
   rw [List.getElem?_map] at hx
   cases hn' : ns[i]? with
   | none => rw [hn'] at hx; cases hx
   | some n =>
    rw [hn'] at hx
    have hx : V.int n = x := Option.some.inj hx
    subst hx
    refine ht n H' _ s ?_
    have e1 := zaq hn'
    cases hc : c n with
    | true =>
     refine iteT (he n H' _ s ⟨h1, hN _ _ _ ⟨⟨_, rfl⟩, ?_, zab, ?_⟩⟩)
     · intro b o q
       have : b ≠ p := fun z => by rw [z, hp] at q; cases q
       rw [zak this]
       exact s b o q
     · rw [h2, e1, List.filter_append, List.filter_cons, if_pos hc]
       simp
    | false =>
     refine iteF (hN _ _ _ ⟨⟨_, rfl⟩, s, h1, ?_⟩)
     rw [h2, e1, List.filter_append, List.filter_cons, if_neg (by rw [hc]; exact Bool.false_ne_true)]
     simp
 · rintro σ' ys H' ⟨_, s, h1, h2⟩
   refine hq H' s ?_
   rw [h1, h2, List.length_map, List.take_length]
theorem zjI {K : PySem.W.Frag} {H : Hp} {a p : Addr} {Q : VK} {js : Cap} {σ cap : St} {tc : TT} {te : TE} (os : List (Option Int)) (c : Option Int → Bool) (hn : os.length ≤ 900) (e : SqT K H a (os.map eV)) (hp : H p = none) (hσ : inn js σ = none :: cap)
 (mono : ∀ {H'}, Same H H' → SqT K H' a (os.map eV))
 (ht : ∀ o H' (R : Bool → Hp → Prop), Same H H' → R (c o) H' → tc (some (eV o) :: cap) H' R) (he : ∀ o H' (R : VK), Same H H' → R (eV o) H' → te (some (eV o) :: cap) H' R)
 (hq : ∀ H', Same H H' → H' p = some (.lst ((os.filter c).map eV)) → Q (.ref p) H') : zbE (Itt K a) p js (zdG 0) tc te σ H Q := by
 have s0 := zae hp (.lst [])
 refine zf5 (xs := os.map eV) (fun i σ' ys H' => (∃ v, σ' = v :: cap) ∧ Same H H' ∧ H' p = some (.lst ys) ∧ ys = ((os.take i).filter c).map eV) ⟨⟨_, hσ⟩, s0, zab, rfl⟩ ?_ ?_ ?_
 · rintro i σ' ys H' hi ⟨_, s, h1, h2⟩
   refine ⟨mono s, h1, ?_⟩
   rw [h2]
   simp only [List.length_map]
   have := List.length_filter_le c (os.take i)
   rw [List.length_take] at this
   exact zao (by omega)
 · rintro i x σ' ys H' N hx ⟨⟨v, rfl⟩, s, h1, h2⟩ hN
   rw [List.getElem?_map] at hx
   cases hn' : os[i]? with
   | none => rw [hn'] at hx; cases hx
   | some n =>
    rw [hn'] at hx
    have hx : eV n = x := Option.some.inj hx
    subst hx
    refine ht n H' _ s ?_
    have e1 := zaq hn'
    cases hc : c n with
    | true =>
     refine iteT (he n H' _ s ⟨h1, hN _ _ _ ⟨⟨_, rfl⟩, ?_, zab, ?_⟩⟩)
     · intro b o q
       have : b ≠ p := fun z => by rw [z, hp] at q; cases q
       rw [zak this]
       exact s b o q
     · rw [h2, e1, List.filter_append, List.filter_cons, if_pos hc]
       simp
    | false =>
     refine iteF (hN _ _ _ ⟨⟨_, rfl⟩, s, h1, ?_⟩)
     rw [h2, e1, List.filter_append, List.filter_cons, if_neg (by rw [hc]; exact Bool.false_ne_true)]
     simp
 · rintro σ' ys H' ⟨_, s, h1, h2⟩
   refine hq H' s ?_
   rw [h1, h2, List.length_map, List.take_length]
theorem Same.seqT {K : PySem.W.Frag} {H H' : Hp} {a : Addr} {xs : List V} (e : Same H H') (h : SqT K H a xs) : SqT K H' a xs := by
 rcases h with (h | ⟨o, h⟩) | h
 · exact .inl (.inl (e _ _ h))
 · exact .inl (.inr ⟨o, e _ _ h⟩)
 · exact .inr h
def Itv (xs : List V) : It := ⟨fun i _ => i < xs.length, fun i H x H' => H' = H ∧ xs[i]? = some x, fun i _ => xs.length ≤ i⟩
theorem zeL {P : Program} {w : World} {K : PySem.W.Frag} {tg : Expr} (it : Addr) (x : Str) (t : Tok) : Turn P w K tg (Itv (x.cps.toList.map fun c => V.str ⟨#[c]⟩)) [it] it (fun i h => h.IsStrIter it "str_ascii_iterator" x t i) where
 mem := by simp
 obj := fun i h st b hb => by
  have e : b = it := by simpa using hb
  subst e
  obtain ⟨o, e, c, d⟩ := st
  exact ⟨o, e, fun v z => by rw [d] at z; cases z⟩
 keep := fun i h h' st k => let ⟨o, ho, r⟩ := st; ⟨o, k it (by simp) o ho, r⟩
 item := by
  intro X hP hw hK hc i pins s σ H E I hf st hg
  subst hP hw hK
  have hg : i < (x.cps.toList.map fun c => V.str ⟨#[c]⟩).length := hg
  rw [List.length_map, Array.length_toList] at hg
  obtain ⟨f0, f1, f2, f3, f4, f5⟩ := hf it (by simp)
  refine wpAny_pyNext_ascii_item st (c := x.cps[i]) (by simp [hg]) fun h' st' sb => ?_
  have I1 : Inv X pins σ H { s with heap := h', toks := s.toks + 1 } := I.turned (fun b o hb e => (sb.2 b hb).trans e) f0 f1 f3 f4 f5
  obtain ⟨o, e, c, d⟩ := id st'
  exact ⟨_, rfl, ziH (s := { s with heap := h', toks := s.toks + 1 }) e c d (by decide) ⟨.str ⟨#[x.cps[i]]⟩, H, I1, ⟨_, rfl⟩, ⟨rfl, by rw [List.getElem?_map, Array.getElem?_toList, Array.getElem?_eq_getElem hg]; rfl⟩, st', fun b hb => (hf b hb).1⟩⟩
 done := by
  intro X hP hw hK hc i pins s σ H E I hf st hg
  subst hP hw hK
  have hg : (x.cps.toList.map fun c => V.str ⟨#[c]⟩).length ≤ i := hg
  rw [List.length_map, Array.length_toList] at hg
  obtain ⟨f0, f1, f2, f3, f4, f5⟩ := hf it (by simp)
  exact wpAny_pyNext_ascii_end (I.ok.hd hc) st (by simpa using hg) fun h' eb => ⟨rfl, I.turned (t' := s.toks) (fun b o hb e => eb b o hb e) f0 f1 f3 f4 f5⟩
 self := fun _ _ _ _ _ st h => wpAny_pyIter_striter_ascii st h
theorem zfz {P : Program} {w : World} {K : PySem.W.Frag} {tg : Expr} (it : Addr) (x : Str) (t : Tok) : Turn P w K tg (Itv (x.cps.toList.map fun c => V.str ⟨#[c]⟩)) [it] it (fun i h => h.IsStrIter it "str_iterator" x t i) where
 mem := by simp
 obj := fun i h st b hb => by
  have e : b = it := by simpa using hb
  subst e
  obtain ⟨o, e, c, d⟩ := st
  exact ⟨o, e, fun v z => by rw [d] at z; cases z⟩
 keep := fun i h h' st k => let ⟨o, ho, r⟩ := st; ⟨o, k it (by simp) o ho, r⟩
 item := by
  intro X hP hw hK hc i pins s σ H E I hf st hg
  subst hP hw hK
  have hg : i < (x.cps.toList.map fun c => V.str ⟨#[c]⟩).length := hg
  rw [List.length_map, Array.length_toList] at hg
  obtain ⟨f0, f1, f2, f3, f4, f5⟩ := hf it (by simp)
  refine wpAny_pyNext_wide_item st (c := x.cps[i]) (by simp [hg]) fun h' st' sb => ?_
  have I1 : Inv X pins σ H { s with heap := h', toks := s.toks + 1 } := I.turned (fun b o hb e => (sb.2 b hb).trans e) f0 f1 f3 f4 f5
  obtain ⟨o, e, c, d⟩ := id st'
  exact ⟨_, rfl, ziH (s := { s with heap := h', toks := s.toks + 1 }) e c d (by decide) ⟨.str ⟨#[x.cps[i]]⟩, H, I1, ⟨_, rfl⟩, ⟨rfl, by rw [List.getElem?_map, Array.getElem?_toList, Array.getElem?_eq_getElem hg]; rfl⟩, st', fun b hb => (hf b hb).1⟩⟩
 done := by
  intro X hP hw hK hc i pins s σ H E I hf st hg
  subst hP hw hK
  have hg : (x.cps.toList.map fun c => V.str ⟨#[c]⟩).length ≤ i := hg
  rw [List.length_map, Array.length_toList] at hg
  obtain ⟨f0, f1, f2, f3, f4, f5⟩ := hf it (by simp)
  exact wpAny_pyNext_wide_end (I.ok.hd hc) st (by simpa using hg) fun h' eb => ⟨rfl, I.turned (t' := s.toks) (fun b o hb e => eb b o hb e) f0 f1 f3 f4 f5⟩
 self := fun _ _ _ _ _ st h => wpAny_pyIter_striter_wide st h
section
variable {X : Cx} {tg : Expr}
def signs (x : Str) : List V := x.cps.toList.map fun c => V.str ⟨#[c]⟩
def iStr (tl : TE) : TI := fun σ H R => tl σ H fun v H1 => ∃ x, v = .str x ∧ R (Itv (signs x)) H1
theorem zk1 {l : Expr} {tl : TE} (hl : PE X l tl) : PI X tg l (iStr tl) := by
 intro pins s σ H R I h
 refine thn (hl pins s σ H _ I h) fun v s1 ⟨y, H1, I1, r1, q1⟩ => ?_
 obtain ⟨x, e, q⟩ := q1
 subst e
 obtain ⟨t, rfl⟩ := r1
 cases ha : x.cps.all (· < 128)
 · refine wpAny_pyIter_wide ha ?_
   refine ⟨s1.heap.objs.size, [s1.heap.objs.size], _, _, H1, rfl, I1.kept (t' := s1.toks) fun b o e => Heap.get?_push_of_some _ e, zfz _ x t, ⟨_, Heap.get?_push_size _ rfl, rfl, rfl⟩, fun b hb => ?_, q⟩
   have e : b = s1.heap.objs.size := by simpa using hb
   subst e
   exact I1.fpOk (Nat.le_refl _) (I1.hok.fresh (Nat.le_refl _))
 · refine wpAny_pyIter_ascii ha ?_
   refine ⟨s1.heap.objs.size, [s1.heap.objs.size], _, _, H1, rfl, I1.kept (t' := s1.toks) fun b o e => Heap.get?_push_of_some _ e, zeL _ x t, ⟨_, Heap.get?_push_size _ rfl, rfl, rfl⟩, fun b hb => ?_, q⟩
   have e : b = s1.heap.objs.size := by simpa using hb
   subst e
   exact I1.fpOk (Nat.le_refl _) (I1.hok.fresh (Nat.le_refl _))
theorem zfR : OpR X (compareOp .LtE) (fun x y H Q => ∃ i j, x = .str i ∧ y = .str j ∧ Q (.bl (!decide (j.cps.toList < i.cps.toList))) H) := by
 intro pins s σ H x y v u Q I rx ry h
 obtain ⟨i, j, rfl, rfl, q⟩ := h
 obtain ⟨t, rfl⟩ := rx
 obtain ⟨t', rfl⟩ := ry
 exact PySem.P.le_str (zaH I q rfl)
theorem zdO (hc : X.calm = true) : zdj X (.builtin "all") (fun xs H Q => ∃ (a : Addr) (bs : List Bool), xs = [.ref a] ∧ SqL X.K H a (bs.map V.bl) ∧ Q (.bl (bs.all id)) H) := by
 intro pins s σ H xs us Q I r h
 obtain ⟨a, bs, rfl, hq, q⟩ := h
 obtain ⟨u, rfl, ru⟩ := zcu r
 cases ru
 obtain ⟨its, rv, p, hzz⟩ := I.list hq
 have ll := rv.length
 rw [List.length_map] at ll
 refine call_all_walk (wpAny_pyIter_list p.isList ?_)
 obtain ⟨o, ho, _⟩ := id p.isList
 have lt := Heap.lt_size ho
 refine ⟨s.heap.objs.size, _, _, _, _, _, fun i => bs.getD i false, rfl, Walks.list (A := X.A.in1) (I.ok.hd hc) s.heap.objs.size a (Nat.ne_of_lt lt) its.toArray, ⟨⟨_, Heap.get?_push_size _ rfl, rfl, rfl⟩, p.isList.at fun o' e => Heap.get?_push_of_some _ e⟩, ?_, fun g t' k => ?_⟩
 · intro i v s' Q' E' hv q'
   have hi : its[i]? = some v := by simpa using hv
   have hl : i < its.length := (List.getElem?_eq_some_iff.mp hi).1
   have e : (bs.map V.bl)[i]? = some (.bl (bs.getD i false)) := by
    rw [List.getElem?_map, List.getElem?_eq_getElem (by omega), List.getD_eq_getElem?_getD, List.getElem?_eq_getElem (by omega)]
    rfl
   obtain ⟨u, h1, h2⟩ := Vals.get rv e
   rw [hi] at h1
   cases h1
   cases h2
   exact wpAny_truthy_bool q'
 · refine ⟨.bl (bs.all id), H, I.kept (fun b o' e => k b o' ?_ (Heap.get?_push_of_some _ e)), ?_, q⟩
   · intro z
     exact absurd (List.mem_singleton.mp z) (Nat.ne_of_lt (Heap.lt_size e))
   · show Value.bool _ = Value.bool _
     congr 1
     rw [List.size_toArray, ← ll]
     clear rv ll hq q p ho lt hzz
     induction bs with
     | nil => rfl
     | cons b r ih =>
      rw [List.length_cons, List.range_succ_eq_map, List.all_cons, List.all_map, List.all_cons, ← ih]
      rfl
end
theorem zk4 {xs : List V} {p : Addr} {g : TG} {tc : TT} {te : TE} {σ : St} {H : Hp} {Q : VK} {js : Cap} (Pv : Nat → St → List V → Hp → Prop) (h0 : Pv 0 (inn js σ) [] (upd H p (.lst [])))
 (hl : ∀ i σ ys H, i ≤ xs.length → Pv i σ ys H → H p = some (.lst ys) ∧ ys.length < sizeLine)
 (hs : ∀ (i : Nat) x σ ys H (N : St → List V → Hp → Prop), xs[i]? = some x → Pv i σ ys H → (∀ σ' ys' H', Pv (i + 1) σ' ys' H' → N σ' ys' H') → zel p g tc te ys x σ H N)
 (hd : ∀ σ ys H, Pv xs.length σ ys H → Q (.ref p) H) : zbE (Itv xs) p js g tc te σ H Q :=
 zeF (n := xs.length) (J := Itv xs) (js := js) (σ := σ) (H := H) (p := p) (Q := Q) (g := g) (tc := tc) (te := te) Pv h0 hl
  (fun i σ ys H hi pv => hi) (fun σ ys H pv => Nat.le_refl _)
  (fun i x σ ys H H' N hi y pv hN => by
   obtain ⟨e, y⟩ := y
   subst e
   exact hs i x σ ys _ N y pv hN) hd
section
variable {prog : Program} {w : World} {A : Around} {E : Value → Shared → Prop} {R : Result → Shared → Prop} {s : Shared}
theorem zgf {kx vx target iter : Expr} {ifs : List Expr} {scope : Scope} {pos : Pos} {it : Value} {D : Addr} {env : Env} (I : Nat → Shared → Prop)
 (turn : ∀ n s, I n s → wpAny (model prog w) A (pyNext it) (fun r s₁ => match r with
  | none => R (.ok .next) s₁
  | some v => wpAny (model prog w) A (letOwnedTupleGo target it v) (fun _ s₁' => wpAny (model prog w) A (assign target env v) (fun _ s₂ =>
   wpAny (model prog w) A (forIn ifs true fun c r => if r = true then do let ok ← isTrue c env (eval c env); pure (ForInStep.yield ok) else pure (ForInStep.yield r)) (fun ok s₃ =>
    if ok = true then wpAny (model prog w) A (eval kx env) (fun kv s₄ => wpAny (model prog w) A (eval vx env) (fun vv s₅ =>
     wpAny (model prog w) A (dictSet D kv vv) (fun _ s₆ => ∃ m, m < n ∧ I m s₆) (fun _ _ => False) s₅) (fun _ _ => False) s₄) (fun _ _ => False) s₃
    else ∃ m, m < n ∧ I m s₃) (fun _ _ => False) s₂) (fun _ _ => False) s₁') (fun _ _ => False) s₁) (fun _ _ => False) s)
 (n : Nat) (h : I n s) :
 codeAny (model prog w) A (.compLoop (.DictComp kx vx [⟨target, iter, ifs, 0⟩] scope pos) 0 it (.ref D) env) R s := by
 refine codeAny_loop rfl I (fun n s hI => ?_) n h
 show wpAny _ A ((compTurn (.DictComp kx vx [⟨target, iter, ifs, 0⟩] scope pos) 0 it (.ref D) env).onRaise (fun x => do noteFrame x env; theTreesLotGoes x)) _ _ s
 refine wpAny_noted ?_
 rw [compTurn_dict]
 refine wpAny_bind (wpAny_standAt (wpAny_bind (wpAny_mono (turn n s hI) (fun r s₁ h₁ => ?_) fun _ _ z => z.elim)))
 cases r with
 | none => exact wpAny_pure h₁
 | some v =>
  refine wpAny_bind (wpAny_mono h₁ (fun _ s₁' h₁' => ?_) fun _ _ z => z.elim)
  refine wpAny_bind (wpAny_mono h₁' (fun _ s₂ h₂ => wpAny_bind (wpAny_mono h₂ (fun ok s₃ h₃ => ?_) fun _ _ z => z.elim)) fun _ _ z => z.elim)
  cases ok with
  | false => exact wpAny_pure ⟨rfl, h₃⟩
  | true =>
   exact wpAny_bind (wpAny_bind (wpAny_mono h₃ (fun kv s₄ h₄ => wpAny_bind (wpAny_holding (wpAny_mono h₄ (fun vv s₅ h₅ => wpAny_bind (wpAny_standAt (wpAny_holding (wpAny_mono h₅ (fun _ s₆ h₆ => wpAny_pure ⟨rfl, h₆⟩) fun _ _ z => z.elim)))) fun _ _ z => z.elim)) ) fun _ _ z => z.elim))
end
def zkf (J : It) (p : Addr) (js : Cap) (g : TG) (tc : TT) (tk tv : TE) (σ : St) (H : Hp) (Q : VK) : Prop :=
 ∃ W : Nat → Nat → St → List (Key × V) → Hp → Prop, (∃ m, W 0 m (inn js σ) [] (upd H p (.dK []))) ∧ ∀ i m σ' kvs H, W i m σ' kvs H → H p = some (.dK kvs) ∧
  ((J.stop i H ∧ Q (.ref p) H) ∨ (J.go i H ∧ kvs.length < sizeLine ∧ ∀ x H', J.yld i H x H' → g x σ' H' fun σ2 H2 => tc σ2 H2 fun b H3 =>
    if b = true then tk σ2 H3 fun k H4 => tv σ2 H4 fun y H5 => ∃ ky, k = kV ky ∧ H5 p = some (.dK kvs) ∧ ∃ m', m' < m ∧ W (i + 1) m' σ2 (putK kvs ky y) (upd H5 p (.dK (putK kvs ky y)))
    else ∃ m', m' < m ∧ W (i + 1) m' σ2 kvs H3))
def tDC (wi : TI) (js : Cap) (g : TG) (tc : TT) (tk tv : TE) : TE := fun σ H Q => wi σ H fun J H1 => ∀ p, H1 p = none → zkf J p js g tc tk tv σ H1 Q
section
variable {X : Cx} {tg iter kx vx : Expr} {ifs : List Expr} {wi : TI} {js : Cap} {g : TG} {tc : TT} {tk tv : TE} {N' : List Str} {scope : Scope} {pos : Pos}
theorem zkS {pins : List (Addr × Obj)} {σ : St} {H : Hp} {s : Shared} {E : Value → Shared → Prop} {Q : VK} {J : It} {it : Addr} {fp : List Addr} {tn : Nat → Heap → Prop} {cl : List (Str × Addr)}
 (hc : X.calm = true) (ok : CapOk X N' js scope)
 (h2 : ∀ x c, cl.lookup x = some c → X.env.cells.lookup x = some c) (h3 : ∀ p ∈ scope.names, p.2 = .free → (cl.lookup p.1).isSome = true)
 (hg : ∀ cl C s₀ H₀ ex, PG (lcx X N' scope cl C s₀ H₀ ex) tg g) (ht : ∀ cl C s₀ H₀ ex, PIfs (lcx X N' scope cl C s₀ H₀ ex) ifs tc) (he : ∀ cl C s₀ H₀ ex, PE (lcx X N' scope cl C s₀ H₀ ex) kx tk) (hv : ∀ cl C s₀ H₀ ex, PE (lcx X N' scope cl C s₀ H₀ ex) vx tv)
 (I : Inv X pins σ H s) (T : Turn X.prog X.w X.K tg J fp it tn) (st : tn 0 s.heap) (hf : ∀ b ∈ fp, FpOk X pins H b)
 (hw : ∀ p, H p = none → zkf J p js g tc tk tv σ H Q) :
 wpAny (model X.prog X.w) X.A newDict (fun acc s₃ => wpAny (model X.prog X.w) X.A (newFunctionEnv scope X.env.globals cl [] X.env.qual none .none (some X.env)) (fun cenv s₄ =>
  codeAny (model X.prog X.w) X.A (.compStart (.DictComp kx vx [⟨tg, iter, ifs, 0⟩] scope pos) 0 (.ref it) acc { cenv with scope := relabel scope X.env })
   (fun r s' => r = .ok .next ∧ (∃ m, s'.heap.Ns cenv.locals m) ∧ ∃ v H', RelV v acc ∧ Inv X pins σ H' s' ∧ FpOk X pins H' cenv.locals ∧ Q v H') s₄) E s₃) E s := by
 have objs := T.obj _ _ st
 refine wpAny_newObj_type ?_
 obtain ⟨W, ⟨m0, w0⟩, turn⟩ := hw s.heap.objs.size (I.hok.fresh (Nat.le_refl _))
 generalize hp : s.heap.objs.size = p at *
 have kp : ∀ b u, s.heap.get? b = some u → (s.heap.push { cls := .type "dict", data := .dict #[] }).get? b = some u := fun b u e => Heap.get?_push_of_some _ e
 have I3 : Inv X pins σ (upd H p (.dK [])) { s with heap := s.heap.push { cls := .type "dict", data := .dict #[] } } := by
  subst hp
  exact I.laid (t' := s.toks) kp (Nat.le_refl _) (zfr s.heap I.big)
 have fne : ∀ b ∈ fp, b ≠ p := fun b hb => by
  obtain ⟨o, e, _⟩ := objs b hb
  have := Heap.lt_size e
  rw [← hp]
  exact Nat.ne_of_lt this
 have hf3 : ∀ b ∈ fp, FpOk X pins (upd H p (.dK [])) b := fun b hb => ⟨by rw [zak (fne b hb)]; exact (hf b hb).1, (hf b hb).2⟩
 have st3 : tn 0 (s.heap.push { cls := .type "dict", data := .dict #[] }) := T.keep _ _ _ st fun b _ o e => kp b o e
 have lt3 : ∀ b ∈ fp, b < (s.heap.push { cls := .type "dict", data := .dict #[] }).objs.size := fun b hb => by
  obtain ⟨o, e, _⟩ := objs b hb
  exact Heap.lt_size (kp b o e)
 generalize hs3 : ({ s with heap := s.heap.push { cls := .type "dict", data := .dict #[] } } : Shared) = s3 at *
 have eh : s.heap.push { cls := .type "dict", data := .dict #[] } = s3.heap := by rw [← hs3]
 rw [eh] at st3 lt3
 refine wpAny_newFunctionEnv ok.ncell (by intro y hy; simp at hy) (fun h₁ hns₁ hsb₁ => ?_) ok.kind
 try dsimp only at hns₁ hsb₁ ⊢
 have k4 : ∀ b u, s3.heap.get? b = some u → h₁.get? b = some u := fun b u e => (hsb₁.2 b (Nat.ne_of_lt (Heap.lt_size e))).trans (Heap.get?_push_of_some _ e)
 have I4 := zf9 (cl := cl) (h₁ := h₁) (t' := s3.toks + ([] : List (Str × Value)).length) ok I3 h2 h3 hf3 lt3 k4 ⟨_, hns₁⟩
 have st4 : tn 0 h₁ := T.keep _ _ _ st3 fun b _ o e => k4 b o e
 generalize hX : lcx X N' scope cl s3.heap.objs.size s3 (upd H p (.dK [])) fp = X' at I4
 have hg' : PG X' tg g := by rw [← hX]; exact hg _ _ _ _ _
 have ht' : PIfs X' ifs tc := by rw [← hX]; exact ht _ _ _ _ _
 have he' : PE X' kx tk := by rw [← hX]; exact he _ _ _ _ _
 have hv' : PE X' vx tv := by rw [← hX]; exact hv _ _ _ _ _
 have eP : X'.prog = X.prog := by rw [← hX]; rfl
 have ew : X'.w = X.w := by rw [← hX]; rfl
 have eK : X'.K = X.K := by rw [← hX]; rfl
 have ec : X'.calm = true := by rw [← hX]; exact hc
 have eA : X'.A = X.A := by rw [← hX]; rfl
 have ex : X'.xe = fun _ _ => False := by rw [← hX]; rfl
 have eE : X'.env = compEnvC scope cl s3.heap.objs.size X.env := by rw [← hX]; rfl
 have eEx : X'.ex = fp := by rw [← hX]; rfl
 have eN : X'.pn = [] := by rw [← hX]; rfl
 have stat : ∀ {H' : Hp}, (∀ b ∈ fp, H' b = none) → ∀ b ∈ fp, FpOk X' [] H' b := fun {H'} hn b hb => by
  have okc := I4.ok
  refine ⟨hn b hb, (okc.exf b (by rw [eEx]; exact hb)).1, okc.exfs b (by rw [eEx]; exact hb), .inl (by rw [eEx]; exact hb), (okc.exf b (by rw [eEx]; exact hb)).2, fun q hq => ?_⟩
  rw [eN] at hq
  cases hq
 have loop : ∀ s₄ : Shared, s₄ = { s3 with heap := h₁, toks := s3.toks + ([] : List (Str × Value)).length } →
  codeAny (model X.prog X.w) X.A (.compLoop (.DictComp kx vx [⟨tg, iter, ifs, 0⟩] scope pos) 0 (.ref it) (.ref p) (compEnvC scope cl s3.heap.objs.size X.env))
   (fun r s' => r = .ok .next ∧ (∃ m, s'.heap.Ns s3.heap.objs.size m) ∧ ∃ v H', RelV v (.ref p) ∧ Inv X pins σ H' s' ∧ FpOk X pins H' s3.heap.objs.size ∧ Q v H') s₄ := by
  rintro s₄ rfl
  refine zgf (fun n s' => ∃ i σ' ys H', Inv X' [] σ' H' s' ∧ tn i s'.heap ∧ (∀ b ∈ fp, H' b = none) ∧ W i n σ' ys H') ?_ m0 ⟨0, _, [], _, I4, st4, fun b hb => (hf3 b hb).1, w0⟩
  rintro n s5 ⟨i, σ5, ys, H5, I5, st5, fr5, w5⟩
  obtain ⟨hp5, tu⟩ := turn i n σ5 ys H5 w5
  rcases tu with ⟨stop, qn⟩ | ⟨go, hz, step⟩
  · have D := T.done X' eP ew eK ec i [] s5 σ5 H5 (fun _ _ => False) I5 (stat fr5) st5 stop
    rw [eA] at D
    refine thn D fun r s6 ⟨hr, I6⟩ => ?_
    subst hr
    refine ⟨rfl, ?_, .ref p, H5, rfl, ?_, ?_, qn⟩
    · obtain ⟨m, hm, _⟩ := I6.loc
      rw [eE] at hm
      exact ⟨m, hm⟩
    · have b6 := I6.base
      have ho := I6.os
      have hk := I6.hok
      have hb := I6.bare
      subst hX
      exact I3.call' (ch := fp) ho b6 hk hb fun b hb' => ⟨(hf b hb').2.2.2.1, (hf b hb').2.1, (hf b hb').2.2.2.2.1, (hf b hb').2.2.2.2.2⟩
    · have fr := I6.free
      rw [eE] at fr
      exact I3.fpOk (Nat.le_refl _) fr
  · have D := T.item X' eP ew eK ec i [] s5 σ5 H5 (fun _ _ => False) I5 (stat fr5) st5 go
    rw [eA] at D
    refine thn D fun r s6 ⟨u, hr, h6⟩ => ?_
    subst hr
    refine thn h6 fun _ s7 ⟨x, H7, I7, r7, y7, st7, fr7⟩ => ?_
    have I7' := I7.pinned (stat fr7) (T.obj _ _ st7)
    have G := hg' _ s7 σ5 H7 x u _ I7' r7 (step x H7 y7)
    rw [eP, ew, eA, ex, eE] at G
    refine thn G fun _ s8 ⟨σ8, H8, I8, q8⟩ => ?_
    have Tt := ht' _ s8 σ8 H8 _ I8 q8
    rw [eP, ew, eA, ex, eE] at Tt
    refine thn Tt fun b s9 ⟨H9, I9, q9⟩ => ?_
    have again : ∀ {s' : Shared} {ys' : List (Key × V)} {H' : Hp}, Inv X' ([] ++ zex fp s7.heap) σ8 H' s' → (∃ m', m' < n ∧ W (i + 1) m' σ8 ys' H') →
     ∃ m, m < n ∧ ∃ i σ' ys H', Inv X' [] σ' H' s' ∧ tn i s'.heap ∧ (∀ b ∈ fp, H' b = none) ∧ W i m σ' ys H' := fun {s' ys' H'} I' ⟨m', hm, w'⟩ => by
     refine ⟨m', hm, i + 1, σ8, ys', H', I'.unpinned, T.keep _ _ _ st7 fun b hb o e => (I'.pin (b, o) (List.mem_append_right _ (List.mem_append_right _ (zbT hb e)))).1, fun b hb => ?_, w'⟩
     obtain ⟨o, e, d⟩ := T.obj _ _ st7 b hb
     exact (I'.pin (b, o) (List.mem_append_right _ (List.mem_append_right _ (zbT hb e)))).2.1
    cases b with
    | false => exact again I9 q9
    | true =>
     have Ee := he' _ s9 σ8 H9 _ I9 q9
     rw [eP, ew, eA, ex, eE] at Ee
     show wpAny _ _ _ _ _ _
     refine thn Ee fun kv s10 ⟨kk, H10, I10, r10, q10⟩ => ?_
     have Ev := hv' _ s10 σ8 H10 _ I10 q10
     rw [eP, ew, eA, ex, eE] at Ev
     refine thn Ev fun vv s11 ⟨y, H11, I11, r11, ky, ek, hp11, q11⟩ => ?_
     subst ek
     obtain ⟨z0, hd0, vs0, rel0, dd0⟩ := zlE I11.hok hp11
     have hz0 : vs0.length ≤ sizeLine := by rw [← rel0.length]; exact z0
     have hl0 : (putK ys ky y).length ≤ sizeLine := by have := zbr ys ky y; omega
     rw [eP, ew] at dd0
     refine wpAny_dictSet_pairs (hsz := hz0) (zf7 r10) dd0 fun h' dd' hs' => ?_
     have he0 : ∃ q, h'.get? p = some q := let ⟨q, _, _, hq, _⟩ := dd'; ⟨q, hq⟩
     have I12 := zht (t' := s11.toks + 1) I11 (by rw [hp11]; exact True.intro) hs' he0 (zjY hl0 hd0 (rel0.put ky r11) (by rw [eP, ew]; exact dd'))
     exact again I12 q11
 exact codeAny_compStart_dict (loop _ rfl) (T.self _ 0 _ _ _ st4 (loop _ rfl))
theorem zmK (hc : X.calm = true) (ok : CapOk X N' js scope) (hi : PI X tg iter wi)
 (hg : ∀ cl C s₀ H₀ ex, PG (lcx X N' scope cl C s₀ H₀ ex) tg g) (ht : ∀ cl C s₀ H₀ ex, PIfs (lcx X N' scope cl C s₀ H₀ ex) ifs tc) (he : ∀ cl C s₀ H₀ ex, PE (lcx X N' scope cl C s₀ H₀ ex) kx tk) (hv : ∀ cl C s₀ H₀ ex, PE (lcx X N' scope cl C s₀ H₀ ex) vx tv)
 (hs : ∀ x, foldedSetIterable iter X.env x = pure x := by intro _; rfl) : PE X (.DictComp kx vx [⟨tg, iter, ifs, 0⟩] scope pos) (tDC wi js g tc tk tv) := by
 intro pins s σ H Q I h
 obtain ⟨cl, c1, c2, c3⟩ := zhw (scope := scope) I.ok.has ok.free
 show wpAny _ X.A (comprehension (.DictComp kx vx [⟨tg, iter, ifs, 0⟩] scope pos) scope X.env _ newDict false (eval iter X.env)) _ _ s
 refine wpAny_comprehension_free (use := none) rfl hs c1 ok.kind ok.names (thn (hi pins s σ H _ I h) fun v s1 h1 => thn h1 fun itv s2 h2 => ?_)
 obtain ⟨it, fp, tn, J, H2, e, I2, T, st2, f2, hw⟩ := h2
 subst e
 refine wpAny_mono (zkS (iter := iter) (pos := pos) hc ok c2 c3 hg ht he hv I2 T st2 f2 hw) (fun acc s3 h3 => wpAny_mono h3 (fun cenv s4 h4 => ?_) fun _ _ z => z) fun _ _ z => z
 refine codeAny_mono h4 fun r s5 h5 => ?_
 obtain ⟨rfl, ⟨m, hm⟩, v, H5, rv, I5, f5, q5⟩ := h5
 refine ⟨m, hm, fun h' sb => ?_⟩
 obtain ⟨f0, f1, _, f3, f4, f6⟩ := f5
 exact ⟨v, H5, I5.turned (t' := s5.toks) (fun b o hb e => (sb.2 b hb).trans e) f0 f1 f3 f4 f6, rv, q5⟩
end
section
variable {prog : Program} {w : World} {A : Around} {E : Value → Shared → Prop} {s : Shared}
theorem zg9 {ti tp : Addr} {k : Nat} {vs : Array Value} {v : Value} {Q : Value → Shared → Prop} (hi : s.heap.IsTupleIter ti tp k) (ht : s.heap.IsTuple tp vs) (hv : vs[k]? = some v)
 (fin : ∀ g, g.IsTupleIter ti tp (k + 1) → Heap.SameBut ti s.heap g → Q v { s with heap := g }) : wpAny (model prog w) A (Builtin.SmallTypes.nextOf (.ref ti)) Q E s := by
 obtain ⟨oi, e1, c1, d1⟩ := id hi
 obtain ⟨ot, e2, _, nt, d2⟩ := ht
 unfold Builtin.SmallTypes.nextOf
 refine wpAny_bind (wpAny_callSpecial?_slot (name := Str.ofString "__next__") hi.typeIs PySem.F.slot_tuple_iterator_next (wpAny_call_entry PySem.F.slot_tuple_iterator_next hi.typeIs PySem.F.entry_tuple_iterator_next ?_ (PySem.F.args_tuple_iterator_next_1 _)))
 show wpAny _ _ (field (.ref ti) 0 >>= _) _ _ s
 refine wpAny_bind (wpAny_field e1 d1 (x := .ref tp) rfl ?_)
 show wpAny _ _ (if (Value.ref tp == Value.none) = true then _ else _) _ _ s
 rw [if_neg (show ¬ ((Value.ref tp == Value.none) = true) from Bool.false_ne_true)]
 show wpAny _ _ (field (.ref ti) 1 >>= _) _ _ s
 refine wpAny_bind (wpAny_field e1 d1 (x := .int k 0) rfl ?_)
 show wpAny _ _ (seqItems? (.ref tp) >>= _) _ _ s
 refine wpAny_bind (wpAny_seqItems e2 d2 ?_)
 simp only [Int.toNat_natCast, hv]
 refine wpAny_bind (wpAny_setField e1 d1 (by simp) (wpAny_pure ⟨v, rfl, wpAny_pure (fin _ ?_ (Heap.SameBut.update ..))⟩))
 exact ⟨_, Heap.get?_update_self _ e1 (Obj.isFreed_of_fields (Obj.data_mapFields d1 _)), (Obj.cls_mapFields ..).trans c1, by rw [Obj.data_mapFields d1]; simp [rawInt]⟩
theorem zk3 {ti tp : Addr} {k : Nat} {vs : Array Value} {Q : Value → Shared → Prop} (hh : A.handled = none) (hi : s.heap.IsTupleIter ti tp k) (ht : s.heap.IsTuple tp vs) (hv : vs[k]? = none)
 (fin : ∀ g e, Heap.ExtBut ti s.heap g → (∃ o, g.get? e = some o ∧ o.cls = .type "StopIteration") → E (.ref e) { s with heap := g }) : wpAny (model prog w) A (Builtin.SmallTypes.nextOf (.ref ti)) Q E s := by
 obtain ⟨oi, e1, c1, d1⟩ := id hi
 obtain ⟨ot, e2, _, nt, d2⟩ := ht
 unfold Builtin.SmallTypes.nextOf
 refine wpAny_bind (wpAny_callSpecial?_slot (name := Str.ofString "__next__") hi.typeIs PySem.F.slot_tuple_iterator_next (wpAny_call_entry PySem.F.slot_tuple_iterator_next hi.typeIs PySem.F.entry_tuple_iterator_next ?_ (PySem.F.args_tuple_iterator_next_1 _)))
 show wpAny _ _ (field (.ref ti) 0 >>= _) _ _ s
 refine wpAny_bind (wpAny_field e1 d1 (x := .ref tp) rfl ?_)
 show wpAny _ _ (if (Value.ref tp == Value.none) = true then _ else _) _ _ s
 rw [if_neg (show ¬ ((Value.ref tp == Value.none) = true) from Bool.false_ne_true)]
 show wpAny _ _ (field (.ref ti) 1 >>= _) _ _ s
 refine wpAny_bind (wpAny_field e1 d1 (x := .int k 0) rfl ?_)
 show wpAny _ _ (seqItems? (.ref tp) >>= _) _ _ s
 refine wpAny_bind (wpAny_seqItems e2 d2 ?_)
 simp only [Int.toNat_natCast, hv]
 refine wpAny_bind (wpAny_rule (wpAny_bind (wpAny_setField e1 d1 (by simp) ?_)))
 show wpAny _ _ (newExc (.type "StopIteration") [] >>= _) _ _ _
 refine wpAny_bind ?_
 simp only [newExc, newTuple]
 refine wpAny_bind (wpAny_newObj_type ?_ (by size_fits))
 refine wpAny_bind (m := firstArgMember _ _) (wpAny_of_eq (a := Value.none) (by first | rfl | (simp only [firstArgMember]; rfl)) ?_)
 refine wpAny_newObj_type ?_ (by size_fits)
 simp only [raiseNew]
 refine wpAny_bind (wpAny_handled ?_)
 first | rw [show A.in1.handled = none from hh] | rw [hh]
 refine wpAny_bind (wpAny_pure (wpAny_throw ?_))
 exact fin _ _ (((Heap.SameBut.update ..).extBut.push _).push _) ⟨_, Heap.get?_push_size _ rfl, rfl⟩
structure ZA (z a b i j : Addr) : Prop where
 az : a ≠ z
 bz : b ≠ z
 iz : i ≠ z
 jz : j ≠ z
 ab : a ≠ b
 ai : a ≠ i
 aj : a ≠ j
 bi : b ≠ i
 bj : b ≠ j
 ij : i ≠ j
theorem zcj {h h' : Heap} {t c : Addr} {vs : Array Value} (x : h.IsTuple t vs) (hs : Heap.SameBut c h h') (n : t ≠ c) : h'.IsTuple t vs := x.extBut hs.extBut n
theorem zlb {z a b i j t1 t2 : Addr} {k1 k2 : Nat} {xs ys : Array Value} {x y p q : Value} {Q : Value → Shared → Prop} (D : ZA z a b i j) (n1 : t1 ≠ z ∧ t1 ≠ b ∧ t1 ≠ i ∧ t1 ≠ j) (n2 : t2 ≠ z ∧ t2 ≠ b ∧ t2 ≠ i ∧ t2 ≠ j)
 (hz : IsZip s.heap z a b .none) (ha : IsPair s.heap a (.ref i) (.ref j)) (hb : IsPair s.heap b p q) (h1 : s.heap.IsTupleIter i t1 k1) (h2 : s.heap.IsTupleIter j t2 k2) (g1 : s.heap.IsTuple t1 xs) (g2 : s.heap.IsTuple t2 ys) (hx : xs[k1]? = some x) (hy : ys[k2]? = some y)
 (fin : ∀ g, IsZip g z a b (rawInt s.heap.objs.size) → IsPair g b x y → g.IsTupleIter i t1 (k1 + 1) → g.IsTupleIter j t2 (k2 + 1) → IsPair g s.heap.objs.size x y →
  (∀ c o, c ≠ z → c ≠ b → c ≠ i → c ≠ j → s.heap.get? c = some o → g.get? c = some o) → Q (.ref s.heap.objs.size) { s with heap := g }) :
 wpAny (model prog w) A (Builtin.«zip.__next__» ⟨[.ref z], []⟩) (fun r s' => ∃ v, r = .done (.ret v) ∧ Q v s') E s := by
 show wpAny _ _ (field (.ref z) 2 >>= _) _ _ _
 refine wpAny_bind (wpAny_field hz rfl (x := .bool false) rfl ?_)
 show wpAny _ _ (field (.ref z) 3 >>= _) _ _ _
 refine wpAny_bind (wpAny_field hz rfl (x := .ref a) rfl ?_)
 refine wpAny_bind (wpAny_seqItems ha rfl ?_)
 show wpAny _ _ (Builtin.SmallTypes.ownedTupleIsFree (.ref z) >>= _) _ _ _
 refine wpAny_bind ?_
 unfold Builtin.SmallTypes.ownedTupleIsFree
 refine wpAny_bind (wpAny_field hz rfl (x := .none) rfl (wpAny_pure ?_))
 simp only [if_true]
 refine wpAny_bind (wpAny_rule ?_)
 refine wpAny_bind (wpAny_field hz rfl (x := .ref b) rfl ?_)
 refine wpAny_bind (wpAny_setField_rec hz (by simp) fun w1 z1 m1 => ?_)
 replace z1 : IsZip w1 z a b .ellipsis := z1
 refine wpAny_bind ?_
 simp only [List.zipIdx_cons, List.zipIdx_nil, List.forIn_cons, List.forIn_nil]
 refine wpAny_bind (wpAny_bind (wpAny_onRaise ?_))
 show wpAny _ _ (Builtin.SmallTypes.nextOf (.ref i) >>= _) _ _ _
 refine wpAny_bind (zg9 (h1.extBut m1.extBut D.iz) (zcj g1 m1 n1.1) hx fun w2 i2 m2 => wpAny_pure ?_)
 have b2 : IsPair w2 b p q := m2.extBut _ _ D.bi (m1.extBut _ _ D.bz hb)
 refine wpAny_bind (wpAny_seqItems b2 rfl ?_)
 refine wpAny_bind (wpAny_updateSeq_pair b2 fun w3 b3 m3 => ?_)
 replace b3 : IsPair w3 b x q := b3
 refine wpAny_bind (wpAny_letGo (wpAny_pure ?_))
 refine wpAny_bind (wpAny_bind (wpAny_onRaise ?_))
 show wpAny _ _ (Builtin.SmallTypes.nextOf (.ref j) >>= _) _ _ _
 refine wpAny_bind (zg9 (((h2.extBut m1.extBut D.jz).extBut m2.extBut D.ij.symm).extBut m3.extBut D.bj.symm) (zcj (zcj (zcj g2 m1 n2.1) m2 n2.2.2.1) m3 n2.2.1) hy fun w4 j4 m4 => wpAny_pure ?_)
 have b4 : IsPair w4 b x q := m4.extBut _ _ D.bj b3
 refine wpAny_bind (wpAny_seqItems b4 rfl ?_)
 refine wpAny_bind (wpAny_updateSeq_pair b4 fun w5 b5 m5 => ?_)
 replace b5 : IsPair w5 b x y := b5
 refine wpAny_bind (wpAny_letGo (wpAny_pure (wpAny_pure ?_)))
 refine wpAny_bind (wpAny_seqItems b5 rfl ?_)
 refine wpAny_bind (wpAny_newTuple ?_)
 have sz : w5.objs.size = s.heap.objs.size := by rw [m5.1, m4.1, m3.1, m2.1, m1.1]
 have z5 : IsZip w5 z a b .ellipsis := m5.extBut _ _ D.bz.symm (m4.extBut _ _ D.jz.symm (m3.extBut _ _ D.bz.symm (m2.extBut _ _ D.iz.symm z1)))
 have k5 : ∀ c o, c ≠ z → c ≠ b → c ≠ i → c ≠ j → s.heap.get? c = some o → w5.get? c = some o := fun c o c1 c2 c3 c4 e =>
  m5.extBut _ _ c2 (m4.extBut _ _ c4 (m3.extBut _ _ c2 (m2.extBut _ _ c3 (m1.extBut _ _ c1 e))))
 have i5 : w5.IsTupleIter i t1 (k1 + 1) := ((i2.extBut m3.extBut D.bi.symm).extBut m4.extBut D.ij).extBut m5.extBut D.bi.symm
 have j5 : w5.IsTupleIter j t2 (k2 + 1) := j4.extBut m5.extBut D.bj.symm
 have zlt : z < w5.objs.size := Heap.lt_size z5
 show wpAny _ _ (Builtin.SmallTypes.ownedTupleHandOut (.ref z) (.ref w5.objs.size) >>= _) _ _ _
 refine wpAny_bind ?_
 unfold Builtin.SmallTypes.ownedTupleHandOut
 have z6 : IsZip (w5.push { cls := .type "tuple", data := .seq #[x, y] }) z a b .ellipsis := Heap.get?_push_of_some _ z5
 refine wpAny_bind (wpAny_setField_rec z6 (by simp) fun w7 z7 m7 => ?_)
 replace z7 : IsZip w7 z a b (rawInt w5.objs.size) := z7
 refine wpAny_setField_rec z7 (by simp) fun w8 z8 m8 => ?_
 replace z8 : IsZip w8 z a b (rawInt w5.objs.size) := z8
 have up : ∀ c o, c ≠ z → w5.get? c = some o → w8.get? c = some o := fun c o c1 e => m8.extBut _ _ c1 (m7.extBut _ _ c1 (Heap.get?_push_of_some _ e))
 have t8 : IsPair w8 w5.objs.size x y := m8.extBut _ _ (Nat.ne_of_gt zlt) (m7.extBut _ _ (Nat.ne_of_gt zlt) (Heap.get?_push_size _ rfl))
 rw [sz] at z8 t8
 refine wpAny_pure ⟨_, rfl, ?_⟩
 show Q (.ref w5.objs.size) _
 rw [sz]
 obtain ⟨oi, ei, ri⟩ := i5
 obtain ⟨oj, ej, rj⟩ := j5
 exact fin w8 z8 (up _ _ D.bz b5) ⟨oi, up _ oi D.iz ei, ri⟩ ⟨oj, up _ oj D.jz ej, rj⟩ t8 fun c o c1 c2 c3 c4 e => up c o c1 (k5 c o c1 c2 c3 c4 e)
theorem zlO {z a b i j t1 t2 : Addr} {k1 k2 : Nat} {xs ys : Array Value} {p q : Value} {Q : Fin → Shared → Prop} (hh : A.handled = none) (D : ZA z a b i j) (n1 : t1 ≠ z ∧ t1 ≠ b ∧ t1 ≠ i ∧ t1 ≠ j) (n2 : t2 ≠ z ∧ t2 ≠ b ∧ t2 ≠ i ∧ t2 ≠ j)
 (hz : IsZip s.heap z a b .none) (ha : IsPair s.heap a (.ref i) (.ref j)) (hb : IsPair s.heap b p q) (h1 : s.heap.IsTupleIter i t1 k1) (h2 : s.heap.IsTupleIter j t2 k2) (g1 : s.heap.IsTuple t1 xs) (g2 : s.heap.IsTuple t2 ys) (hend : xs[k1]? = none ∨ ys[k2]? = none)
 (fin : ∀ g e, (∀ c o, c ≠ z → c ≠ b → c ≠ i → c ≠ j → s.heap.get? c = some o → g.get? c = some o) → (∃ o, g.get? e = some o ∧ o.cls = .type "StopIteration") → E (.ref e) { s with heap := g }) :
 wpAny (model prog w) A (Builtin.«zip.__next__» ⟨[.ref z], []⟩) Q E s := by
 show wpAny _ _ (field (.ref z) 2 >>= _) _ _ _
 refine wpAny_bind (wpAny_field hz rfl (x := .bool false) rfl ?_)
 show wpAny _ _ (field (.ref z) 3 >>= _) _ _ _
 refine wpAny_bind (wpAny_field hz rfl (x := .ref a) rfl ?_)
 refine wpAny_bind (wpAny_seqItems ha rfl ?_)
 show wpAny _ _ (Builtin.SmallTypes.ownedTupleIsFree (.ref z) >>= _) _ _ _
 refine wpAny_bind ?_
 unfold Builtin.SmallTypes.ownedTupleIsFree
 refine wpAny_bind (wpAny_field hz rfl (x := .none) rfl (wpAny_pure ?_))
 simp only [if_true]
 refine wpAny_bind (wpAny_rule ?_)
 refine wpAny_bind (wpAny_field hz rfl (x := .ref b) rfl ?_)
 refine wpAny_bind (wpAny_setField_rec hz (by simp) fun w1 z1 m1 => ?_)
 replace z1 : IsZip w1 z a b .ellipsis := z1
 refine wpAny_bind ?_
 simp only [List.zipIdx_cons, List.zipIdx_nil, List.forIn_cons, List.forIn_nil]
 refine wpAny_bind (wpAny_bind (wpAny_onRaise ?_))
 show wpAny _ _ (Builtin.SmallTypes.nextOf (.ref i) >>= _) _ _ _
 cases hx : xs[k1]? with
 | none =>
  refine wpAny_bind (zk3 hh (h1.extBut m1.extBut D.iz) (zcj g1 m1 n1.1) hx fun w2 e m2 he => ?_)
  obtain ⟨oe, e1, e2⟩ := he
  have z2 : IsZip w2 z a b .ellipsis := m2 _ _ D.iz.symm z1
  have ez : e ≠ z := fun u => by subst u; rw [z2] at e1; cases e1; simp at e2
  exact wpAny_setField_rec z2 (by simp) fun w3 _ m3 => fin w3 e (fun c o c1 _ c3 _ u => m3.extBut _ _ c1 (m2 _ _ c3 (m1.extBut _ _ c1 u))) ⟨oe, m3.extBut _ _ ez e1, e2⟩
 | some x =>
  have hy : ys[k2]? = none := by
   rcases hend with u | u
   · rw [hx] at u; cases u
   · exact u
  refine wpAny_bind (zg9 (h1.extBut m1.extBut D.iz) (zcj g1 m1 n1.1) hx fun w2 i2 m2 => wpAny_pure ?_)
  have b2 : IsPair w2 b p q := m2.extBut _ _ D.bi (m1.extBut _ _ D.bz hb)
  refine wpAny_bind (wpAny_seqItems b2 rfl ?_)
  refine wpAny_bind (wpAny_updateSeq_pair b2 fun w3 b3 m3 => ?_)
  refine wpAny_bind (wpAny_letGo (wpAny_pure ?_))
  refine wpAny_bind (wpAny_bind (wpAny_onRaise ?_))
  show wpAny _ _ (Builtin.SmallTypes.nextOf (.ref j) >>= _) _ _ _
  refine wpAny_bind (zk3 hh (((h2.extBut m1.extBut D.jz).extBut m2.extBut D.ij.symm).extBut m3.extBut D.bj.symm) (zcj (zcj (zcj g2 m1 n2.1) m2 n2.2.2.1) m3 n2.2.1) hy fun w4 e m4 he => ?_)
  obtain ⟨oe, e1, e2⟩ := he
  have z4 : IsZip w4 z a b .ellipsis := m4 _ _ D.jz.symm (m3.extBut _ _ D.bz.symm (m2.extBut _ _ D.iz.symm z1))
  have ez : e ≠ z := fun u => by subst u; rw [z4] at e1; cases e1; simp at e2
  exact wpAny_setField_rec z4 (by simp) fun w5 _ m5 => fin w5 e (fun c o c1 c2 c3 c4 u => m5.extBut _ _ c1 (m4 _ _ c4 (m3.extBut _ _ c2 (m2.extBut _ _ c3 (m1.extBut _ _ c1 u))))) ⟨oe, m5.extBut _ _ ez e1, e2⟩
end
section
variable {X : Cx} {pins : List (Addr × Obj)} {σ : St} {H : Hp} {s : Shared} {h' : Heap}
theorem Inv.newTup {T : Addr} {x y : V} {t' : Nat} (I : Inv X pins σ H s) (ch : List Addr) (hch : ∀ c ∈ ch, FpOk X pins H c) (keep : ∀ c o, c ∉ ch → s.heap.get? c = some o → h'.get? c = some o) (hT : s.heap.objs.size ≤ T)
 (tup : ∃ its : List Value, Vals [x, y] its ∧ IsTupP h' T its.toArray) : Inv X pins σ (upd H T (.tup [x, y])) { s with heap := h', toks := t' } := by
 have hn : H T = none := I.hok.fresh hT
 have neT : ∀ c o, s.heap.get? c = some o → c ≠ T := fun c o e => Nat.ne_of_lt (Nat.lt_of_lt_of_le (Heap.lt_size e) hT)
 have off : ∀ c u, H c = some u → c ∉ ch := fun c u e z => by rw [(hch c z).1] at e; cases e
 refine I.step (g' := s.gens) (d' := s.drawn) (ch := ch) (fun c hc => ⟨(hch c hc).2.2.2.1, (hch c hc).2.1, (hch c hc).2.2.2.2.1, (hch c hc).2.2.2.2.2⟩) (fun c o _ _ hc e _ => keep c o hc e) (fun c o _ _ hc e _ => ⟨o.slots, keep c o hc e⟩)
  (fun c o _ e n => by rw [zak (neT c o e)]; exact n) (fun c o hc e => ⟨o, keep c o hc e⟩) (fun c xs e => by rw [zak (zav e hn)]; exact e) (fun c o u e => by rw [zak (zav e hn)]; exact e)
  (fun c ps e => ⟨#[], by rw [zak (zav e hn), e]; simp⟩) (fun m hm => ?_) (fun c u e => ?_) I.bare
 · obtain ⟨o, es, ep, ho, r⟩ := hm
   exact ⟨o, es, ep, keep _ o (fun z => (hch _ z).2.1 rfl) ho, r⟩
 · by_cases hc : c = T
   · subst hc
     rw [zab] at e
     cases e
     obtain ⟨its, r, p⟩ := tup
     exact ⟨by show 2 ≤ sizeLine; decide, its, r, p⟩
   · rw [zak hc] at e
     refine (I.hok c u e).stay (fun d v hd q => keep d v ?_ q) (fun d q => by rw [zak (zav q hn)]; exact q) fun d xs q => by rw [zak (zav q hn)]; exact q
     rcases hd with z | z
     · rw [z]; exact off c u e
     · exact off d _ z
theorem Inv.turnedN {t' : Nat} (I : Inv X pins σ H s) (ch : List Addr) (hch : ∀ c ∈ ch, FpOk X pins H c) (keep : ∀ c o, c ∉ ch → s.heap.get? c = some o → h'.get? c = some o) : Inv X pins σ H { s with heap := h', toks := t' } := by
 have off : ∀ c u, H c = some u → c ∉ ch := fun c u e z => by rw [(hch c z).1] at e; cases e
 refine I.step (g' := s.gens) (d' := s.drawn) (ch := ch) (fun c hc => ⟨(hch c hc).2.2.2.1, (hch c hc).2.1, (hch c hc).2.2.2.2.1, (hch c hc).2.2.2.2.2⟩) (fun c o _ _ hc e _ => keep c o hc e) (fun c o _ _ hc e _ => ⟨o.slots, keep c o hc e⟩)
  (fun c o _ e n => n) (fun c o hc e => ⟨o, keep c o hc e⟩) (fun c xs e => e) (fun c o u e => e) (fun c ps e => ⟨#[], by rw [e]; simp⟩) (fun m hm => ?_) (fun c u e => ?_) I.bare
 · obtain ⟨o, es, ep, ho, r⟩ := hm
   exact ⟨o, es, ep, keep _ o (fun z => (hch _ z).2.1 rfl) ho, r⟩
 · refine (I.hok c u e).stay (fun d v hd q => keep d v ?_ q) (fun _ q => q) fun _ _ q => q
   rcases hd with z | z
   · rw [z]; exact off c u e
   · exact off d _ z
theorem zbI {t c : Addr} {xs : List V} (I : Inv X pins σ H s) (h : SqT X.K H t xs) (f : FpOk X pins H c) : t ≠ c := by
 intro e
 subst e
 rcases h with (h | ⟨o, h⟩) | ⟨o, its, n, hk, _⟩
 · rw [f.1] at h; cases h
 · rw [f.1] at h; cases h
 · have eb := I.ok.mod.kin t o hk
   rcases f.2.2.2.1 with z | z
   · exact I.ok.noex t o eb z
   · exact absurd (Nat.lt_of_lt_of_le (Heap.lt_size eb) (Nat.le_trans I.ok.bsz z)) (Nat.lt_irrefl _)
end
def Itz (K : PySem.W.Frag) (t1 t2 : Addr) : It :=
 ⟨fun k H => ∃ (xs ys : List V) (x y : V), SqT K H t1 xs ∧ SqT K H t2 ys ∧ xs[k]? = some x ∧ ys[k]? = some y,
  fun k H v H' => ∃ p, v = .ref p ∧ H p = none ∧ ∀ (xs ys : List V) (x y : V), SqT K H t1 xs → SqT K H t2 ys → xs[k]? = some x → ys[k]? = some y → H' = upd H p (.tup [x, y]),
  fun k H => ∃ (xs ys : List V), SqT K H t1 xs ∧ SqT K H t2 ys ∧ (xs.length ≤ k ∨ ys.length ≤ k)⟩
theorem zkg {P : Program} {w : World} {K : PySem.W.Frag} {es : List Expr} {kk : Nat} {pos : Pos} (t1 t2 z a b i j : Addr) (D : ZA z a b i j) :
 Turn P w K (.Tuple es kk pos) (Itz K t1 t2) [z, a, b, i, j] z (fun k h => IsZip h z a b .none ∧ IsPair h a (.ref i) (.ref j) ∧ (∃ p q, IsPair h b p q) ∧ h.IsTupleIter i t1 k ∧ h.IsTupleIter j t2 k) where
 mem := by simp
 obj := fun k h st c hc => by
  obtain ⟨hz, ha, ⟨p, q, hb⟩, ⟨oi, ei, _, di⟩, ⟨oj, ej, _, dj⟩⟩ := st
  simp only [List.mem_cons, List.not_mem_nil, or_false] at hc
  rcases hc with rfl | rfl | rfl | rfl | rfl
  · exact ⟨_, hz, fun v e => by cases e⟩
  · exact ⟨_, ha, fun v e => by cases e⟩
  · exact ⟨_, hb, fun v e => by cases e⟩
  · exact ⟨oi, ei, fun v e => by rw [di] at e; cases e⟩
  · exact ⟨oj, ej, fun v e => by rw [dj] at e; cases e⟩
 keep := fun k h h' st kp => by
  obtain ⟨hz, ha, ⟨p, q, hb⟩, ⟨oi, ei, ri⟩, ⟨oj, ej, rj⟩⟩ := st
  exact ⟨kp z (by simp) _ hz, kp a (by simp) _ ha, ⟨p, q, kp b (by simp) _ hb⟩, ⟨oi, kp i (by simp) _ ei, ri⟩, ⟨oj, kp j (by simp) _ ej, rj⟩⟩
 item := by
  intro X hP hw hK hc k pins s σ H E I hf st hg
  subst hP hw hK
  obtain ⟨xs, ys, x, y, q1, q2, hx, hy⟩ := hg
  obtain ⟨hz, ha, ⟨p, q, hb⟩, h1, h2⟩ := st
  obtain ⟨its1, r1, g1, _⟩ := I.tuple q1
  obtain ⟨its2, r2, g2, _⟩ := I.tuple q2
  obtain ⟨u1, hu1, v1⟩ := r1.get hx
  obtain ⟨u2, hu2, v2⟩ := r2.get hy
  have fz := hf z (by simp)
  have fb := hf b (by simp)
  have fi := hf i (by simp)
  have fj := hf j (by simp)
  have hT : s.TypeIs (.ref z) "zip" := ⟨_, hz, rfl⟩
  unfold pyNext
  refine wpAny_bind (wpAny_attempt (wpAny_callSpecial?_slot (name := Str.ofString "__next__") hT PySem.F.slot_zip_next (wpAny_call_entry PySem.F.slot_zip_next hT PySem.F.entry_zip_next
   (zlb D ⟨zbI I q1 fz, zbI I q1 fb, zbI I q1 fi, zbI I q1 fj⟩ ⟨zbI I q2 fz, zbI I q2 fb, zbI I q2 fi, zbI I q2 fj⟩ hz ha hb h1 h2 g1 g2 (by simpa using hu1) (by simpa using hu2) fun g a1 a2 a3 a4 a5 a6 => wpAny_pure ?_) (PySem.F.args_zip_next_1 _))))
  refine ⟨_, rfl, wpAny_letOwnedTupleGo_zip a1 fun g' z' m' => ?_⟩
  have zT : z ≠ s.heap.objs.size := Nat.ne_of_lt (Heap.lt_size hz)
  have up : ∀ c o, c ≠ z → g.get? c = some o → g'.get? c = some o := fun c o hc e => m'.extBut c o hc e
  have fr : H s.heap.objs.size = none := I.hok.fresh (Nat.le_refl _)
  have I1 : Inv X pins σ (upd H s.heap.objs.size (.tup [x, y])) { s with heap := g' } := by
   refine I.newTup (t' := s.toks) [z, b, i, j] (fun c hc => ?_) (fun c o hc e => ?_) (Nat.le_refl _) ⟨[u1, u2], .cons v1 (.cons v2 .nil), _, up _ _ zT.symm a5, rfl, rfl, _, rfl⟩
   · simp only [List.mem_cons, List.not_mem_nil, or_false] at hc
     rcases hc with rfl | rfl | rfl | rfl
     · exact fz
     · exact fb
     · exact fi
     · exact fj
   · simp only [List.mem_cons, List.not_mem_nil, or_false, not_or] at hc
     exact up c o hc.1 (a6 c o hc.1 hc.2.1 hc.2.2.1 hc.2.2.2 e)
  obtain ⟨oi, ei, ri⟩ := a3
  obtain ⟨oj, ej, rj⟩ := a4
  refine ⟨.ref s.heap.objs.size, _, I1, rfl, ⟨_, rfl, fr, fun xs' ys' x' y' s1 s2 e1 e2 => ?_⟩, ⟨z', up _ _ D.az (a6 a _ D.az D.ab D.ai D.aj ha), ⟨_, _, up _ _ D.bz a2⟩, ⟨oi, up _ _ D.iz ei, ri⟩, ⟨oj, up _ _ D.jz ej, rj⟩⟩, fun c hc => ?_⟩
  · rw [I.tuple_inj s1 q1, hx] at e1
    rw [I.tuple_inj s2 q2, hy] at e2
    cases e1
    cases e2
    rfl
  · have fc := hf c hc
    have : c ≠ s.heap.objs.size := by
     simp only [List.mem_cons, List.not_mem_nil, or_false] at hc
     obtain ⟨oi', ei', _⟩ := h1
     obtain ⟨oj', ej', _⟩ := h2
     rcases hc with rfl | rfl | rfl | rfl | rfl
     · exact zT
     · exact Nat.ne_of_lt (Heap.lt_size ha)
     · exact Nat.ne_of_lt (Heap.lt_size hb)
     · exact Nat.ne_of_lt (Heap.lt_size ei')
     · exact Nat.ne_of_lt (Heap.lt_size ej')
    rw [zak this]
    exact fc.1
 done := by
  intro X hP hw hK hc k pins s σ H E I hf st hg
  subst hP hw hK
  obtain ⟨xs, ys, q1, q2, hend⟩ := hg
  obtain ⟨hz, ha, ⟨p, q, hb⟩, h1, h2⟩ := st
  obtain ⟨its1, r1, g1, _⟩ := I.tuple q1
  obtain ⟨its2, r2, g2, _⟩ := I.tuple q2
  have l1 := r1.length
  have l2 := r2.length
  have fz := hf z (by simp)
  have fb := hf b (by simp)
  have fi := hf i (by simp)
  have fj := hf j (by simp)
  have hT : s.TypeIs (.ref z) "zip" := ⟨_, hz, rfl⟩
  unfold pyNext
  refine wpAny_bind (wpAny_attempt (wpAny_callSpecial?_slot (name := Str.ofString "__next__") hT PySem.F.slot_zip_next (wpAny_call_entry PySem.F.slot_zip_next hT PySem.F.entry_zip_next
   (zlO (I.ok.hd hc) D ⟨zbI I q1 fz, zbI I q1 fb, zbI I q1 fi, zbI I q1 fj⟩ ⟨zbI I q2 fz, zbI I q2 fb, zbI I q2 fi, zbI I q2 fj⟩ hz ha hb h1 h2 g1 g2 ?_ fun g e kp he => ?_) (PySem.F.args_zip_next_1 _))))
  · rcases hend with u | u
    · exact .inl (by simp; omega)
    · exact .inr (by simp; omega)
  · obtain ⟨o, ho, hcl⟩ := he
    refine wpAny_bind (wpAny_isInstance (T := "StopIteration") (b := true) ⟨o, ho, hcl⟩ isSubtype_stop ?_)
    refine wpAny_pure ⟨rfl, I.turnedN (t' := s.toks) [z, b, i, j] (fun c hc => ?_) (fun c o hc e => ?_)⟩
    · simp only [List.mem_cons, List.not_mem_nil, or_false] at hc
      rcases hc with rfl | rfl | rfl | rfl
      · exact fz
      · exact fb
      · exact fi
      · exact fj
    · simp only [List.mem_cons, List.not_mem_nil, or_false, not_or] at hc
      exact kp c o hc.1 hc.2.1 hc.2.2.1 hc.2.2.2 e
 self := fun _ _ _ _ _ st h => wpAny_pyIter_zip st.1 h
abbrev zw1 (h : Heap) (t : Addr) : Heap := h.push { cls := .type "tuple_iterator", data := .fields #[.ref t, .int 0 0] }
abbrev zw2 (h : Heap) (t u : Addr) : Heap := (zw1 h t).push { cls := .type "tuple_iterator", data := .fields #[.ref u, .int 0 0] }
abbrev zw3 (h : Heap) (t u : Addr) : Heap := (zw2 h t u).push { cls := .type "tuple", data := .seq #[.ref h.objs.size, .ref (zw1 h t).objs.size] }
abbrev zw4 (h : Heap) (t u : Addr) : Heap := (zw3 h t u).push { cls := .type "tuple", data := .seq #[.none, .none] }
abbrev zw5 (h : Heap) (t u : Addr) : Heap := (zw4 h t u).push { cls := .type "zip", data := .fields #[.none, .bool false, .bool false, .ref (zw2 h t u).objs.size, .ref (zw3 h t u).objs.size] }
theorem zlN (t u : Addr) (xs ys : Array Value) : Meets (Builtin.«zip.__new__» ⟨[.type "zip", .ref t, .ref u], []⟩) (fun _ R s => s.heap.IsTuple t xs ∧ s.heap.IsTuple u ys ∧
 R (.ok (.ret (.ref (zw4 s.heap t u).objs.size))) { s with heap := zw5 s.heap t u }) :=
 .of_wp fun prog w A R s h => by
  obtain ⟨hp, g, d, tk, os⟩ := s; obtain ⟨g1, g2, h⟩ := h
  have f0 := sub_zip
  have f1 : Heap.IsTuple (Shared.heap ⟨hp, g, d, tk, os⟩) t xs := g1
  have f2 : Heap.IsTuple (Shared.heap ⟨hp.push { cls := .type "tuple_iterator", data := .fields #[.ref t, .int 0 0] }, g, d, tk, os⟩) u ys := Heap.IsTuple.push g2 _
  wp_walk using wpAny_pyIter_tuple f1, wpAny_pyIter_tuple f2
  exact ⟨_, rfl, h⟩
theorem zmr : bootBuiltins "zip" = some (.type "zip") := by decide +kernel
section
variable {X : Cx}
def iZip (K : PySem.W.Frag) (ta : TA) : TI := fun σ H R => ta σ H fun vs H1 => ∃ t u, vs = [.ref t, .ref u] ∧ (∃ xs, SqT K H1 t xs) ∧ (∃ ys, SqT K H1 u ys) ∧ R (Itz K t u) H1
theorem zl9 {es : List Expr} {kk : Nat} {tpos : Pos} {a b : Expr} {ta : TA} {p pos : Pos} (hg : Gl X "zip") (hm : X.mg "zip" = none) (ha : PA X [a, b] ta)
 (he : starEach [a, b] X.env = (false, eval a X.env) :: starEach [b] X.env := by rfl) (hpl : (backTo pos (starEach [b] X.env)).any (·.1) = false := by rfl) :
 PI X (.Tuple es kk tpos) (.Call (.Name "zip" p) [a, b] [] pos) (iZip X.K ta) := by
 intro pins s σ H R I h
 refine wpAny_Call_Name_kw (zdA I hg hm zmr ?_ (by decide) (by decide))
 refine PyProof.Rows.callWith_type1 (thn (ha pos pins s σ H _ I h) fun us s1 ⟨vs, H1, I1, r1, t, u, e, ⟨xs, q1⟩, ⟨ys, q2⟩, q⟩ => ?_) he hpl
 subst e
 obtain ⟨u1, u2, rfl, v1, v2⟩ := ziM r1
 cases v1
 cases v2
 obtain ⟨its1, rv1, g1, _⟩ := I1.tuple q1
 obtain ⟨its2, rv2, g2, _⟩ := I1.tuple q2
 refine callType_new PySem.F.called_zip (by decide) (PySem.F.typeCall_zip_2 _ _) (PySem.F.newCall_zip_2 _ _) (fun obj => PySem.F.args_object_init_3 obj _ _) PySem.F.entry_zip_new (zlN t u its1.toArray its2.toArray) ⟨g1, g2, ?_⟩
 have y1 : (zw1 s1.heap t).objs.size = s1.heap.objs.size + 1 := Heap.size_push ..
 have y2 : (zw2 s1.heap t u).objs.size = s1.heap.objs.size + 2 := by rw [Heap.size_push, y1]
 have y3 : (zw3 s1.heap t u).objs.size = s1.heap.objs.size + 3 := by rw [Heap.size_push, y2]
 have y4 : (zw4 s1.heap t u).objs.size = s1.heap.objs.size + 4 := by rw [Heap.size_push, y3]
 have k5 : ∀ c o, s1.heap.get? c = some o → (zw5 s1.heap t u).get? c = some o := fun c o e => Heap.get?_push_of_some _ (Heap.get?_push_of_some _ (Heap.get?_push_of_some _ (Heap.get?_push_of_some _ (Heap.get?_push_of_some _ e))))
 have e5 : (zw5 s1.heap t u).get? (zw4 s1.heap t u).objs.size = some _ := Heap.get?_push_size _ rfl
 have e4 : (zw5 s1.heap t u).get? (zw3 s1.heap t u).objs.size = some _ := Heap.get?_push_of_some _ (Heap.get?_push_size _ rfl)
 have e3 : (zw5 s1.heap t u).get? (zw2 s1.heap t u).objs.size = some _ := Heap.get?_push_of_some _ (Heap.get?_push_of_some _ (Heap.get?_push_size _ rfl))
 have e2 : (zw5 s1.heap t u).get? (zw1 s1.heap t).objs.size = some _ := Heap.get?_push_of_some _ (Heap.get?_push_of_some _ (Heap.get?_push_of_some _ (Heap.get?_push_size _ rfl)))
 have e1 : (zw5 s1.heap t u).get? s1.heap.objs.size = some _ := Heap.get?_push_of_some _ (Heap.get?_push_of_some _ (Heap.get?_push_of_some _ (Heap.get?_push_of_some _ (Heap.get?_push_size _ rfl))))
 have I2 : Inv X pins σ H1 { s1 with heap := zw5 s1.heap t u } := I1.kept (t' := s1.toks) k5
 have fp : ∀ c, s1.heap.objs.size ≤ c → FpOk X pins H1 c := fun c hc => I1.fpOk hc (I1.hok.fresh hc)
 have D : ZA (zw4 s1.heap t u).objs.size (zw2 s1.heap t u).objs.size (zw3 s1.heap t u).objs.size s1.heap.objs.size (zw1 s1.heap t).objs.size := by
  have n4 : (zw3 s1.heap t u).objs.size < (zw4 s1.heap t u).objs.size := by rw [y3, y4]; exact Nat.lt_succ_self _
  have n3 : (zw2 s1.heap t u).objs.size < (zw3 s1.heap t u).objs.size := by rw [y2, y3]; exact Nat.lt_succ_self _
  have n2 : (zw1 s1.heap t).objs.size < (zw2 s1.heap t u).objs.size := by rw [y1, y2]; exact Nat.lt_succ_self _
  have n1 : s1.heap.objs.size < (zw1 s1.heap t).objs.size := by rw [y1]; exact Nat.lt_succ_self _
  exact ⟨Nat.ne_of_lt (Nat.lt_trans n3 n4), Nat.ne_of_lt n4, Nat.ne_of_lt (Nat.lt_trans n1 (Nat.lt_trans n2 (Nat.lt_trans n3 n4))), Nat.ne_of_lt (Nat.lt_trans n2 (Nat.lt_trans n3 n4)), Nat.ne_of_lt n3, Nat.ne_of_gt (Nat.lt_trans n1 n2), Nat.ne_of_gt n2,
   Nat.ne_of_gt (Nat.lt_trans n1 (Nat.lt_trans n2 n3)), Nat.ne_of_gt (Nat.lt_trans n2 n3), Nat.ne_of_lt n1⟩
 refine ⟨⟨_, e5, rfl⟩, wpAny_pyIter_zip e5 ?_⟩
 refine ⟨_, _, _, _, H1, rfl, I2, zkg t u _ _ _ _ _ D, ⟨e5, e3, ⟨_, _, e4⟩, ⟨_, e1, rfl, rfl⟩, ⟨_, e2, rfl, rfl⟩⟩, fun c hc => fp c ?_, q⟩
 simp only [List.mem_cons, List.not_mem_nil, or_false] at hc
 rcases hc with rfl | rfl | rfl | rfl | rfl
 · rw [y4]; exact Nat.le_add_right _ _
 · rw [y2]; exact Nat.le_add_right _ _
 · rw [y3]; exact Nat.le_add_right _ _
 · exact Nat.le_refl _
 · rw [y1]; exact Nat.le_add_right _ _
end
section
variable {X : Cx} {tg iter kx vx : Expr} {ifs : List Expr} {wi : TI} {js : Cap} {g : TG} {tc : TT} {tk tv : TE} {N' : List Str} {scope : Scope} {pos : Pos}
end
section
variable {prog : Program} {w : World} {A : Around} {E : Value → Shared → Prop} {s : Shared}
theorem zj5 {t sl : Addr} {items : Array Value} {vl vu : Value} {lo hi : Option Int} {Q : Value → Shared → Prop} (ht : IsTup s.heap t items) (hs : s.heap.IsSliceOf sl vl vu .none) (pl : IsPart vl lo) (pu : IsPart vu hi)
 (h0 : HT.sIx items.size 0 lo = 0) (h1 : HT.sIx items.size items.size hi = items.size) (h : Q (.ref t) s) : wpAny (model prog w) A (getItem (.ref t) (.ref sl)) Q E s := by
 obtain ⟨os, hos, hcs, hds⟩ := id hs
 have hTs : s.TypeIs (.ref sl) "slice" := ⟨os, hos, hcs⟩
 unfold getItem
 try with_reducible refine wpAny_holding ?_
 first | refine wpAny_bind (wpAny_pure ?_) | skip
 refine wpAny_bind (wpAny_sequenceKey ht.typeIs (by decide) ?_)
 refine wpAny_bind (wpAny_callSpecial?_slot (name := Str.ofString "__getitem__") ht.typeIs PyProof.Rows.slot_tuple_getitem
  (wpAny_call_entry PyProof.Rows.slot_tuple_getitem ht.typeIs PySem.F.entry_tuple_getitem ?_ (PySem.F.args_tuple_getitem_2 _ _)))
 show wpAny _ _ (Builtin.Tuple.tupleItemsOf (.ref t) >>= _) _ _ s
 refine wpAny_bind (tupleItemsOf_ ht ?_)
 refine wpAny_bind (wpAny_typeOf hTs ?_)
 rw [if_pos (by decide)]
 refine wpAny_bind (HT.sliceApplied_gen hs pl pu ?_)
 have yes : ((((HT.sIx items.size 0 lo : Nat) : Int) == 0 && (1 : Int) == 1 && (HT.sIx items.size items.size hi - HT.sIx items.size 0 lo) == items.size) = true) := by
  rw [h0, h1]
  simp
 show wpAny _ _ (if (((HT.sIx items.size 0 lo : Nat) : Int) == 0 && (1 : Int) == 1 && (HT.sIx items.size items.size hi - HT.sIx items.size 0 lo) == items.size) = true then _ else _) _ _ s
 rw [if_pos yes]
 unfold Builtin.Tuple.tupleIsExact
 refine wpAny_bind (wpAny_bind (wpAny_typeOf ht.typeIs (wpAny_pure ?_)))
 rw [if_pos (by decide)]
 exact wpAny_bind (wpAny_rule (wpAny_pure ⟨_, rfl, wpAny_pure h⟩))
end
section
variable {X : Cx}
def rSlW (K : PySem.W.Frag) : V → Option Int → Option Int → Hp → VK → Prop := fun x lo hi H Q => ∃ a xs, x = .ref a ∧ SqT K H a xs ∧
 (HT.sIx xs.length 0 lo = 0 ∧ HT.sIx xs.length xs.length hi = xs.length → Q (.ref a) H) ∧
 (¬ (HT.sIx xs.length 0 lo = 0 ∧ HT.sIx xs.length xs.length hi = xs.length) → ∀ p, H p = none → Q (.ref p) (upd H p (.tup (cutV xs lo hi))))
theorem zlj : SlR X (rSlW X.K) := by
 intro pins s σ H x v vl vu lo hi sl Q I rx hs pl pu h
 obtain ⟨a, xs, rfl, hx, q1, q2⟩ := h
 by_cases hw : HT.sIx xs.length 0 lo = 0 ∧ HT.sIx xs.length xs.length hi = xs.length
 · cases rx
   obtain ⟨its, r, ht, hz⟩ := I.tuple hx
   have hlen : its.toArray.size = xs.length := by rw [List.size_toArray]; exact r.length.symm
   refine ⟨"tuple", _, PyProof.Rows.slot_tuple_getitem.lookup, ht.typeIs, ?_⟩
   exact zj5 ht hs pl pu (by rw [hlen]; exact hw.1) (by rw [hlen]; exact hw.2) ⟨.ref a, H, I, rfl, q1 hw⟩
 · exact zlZ pins s σ H (.ref a) v vl vu lo hi sl Q I rx hs pl pu ⟨a, xs, rfl, hx, hw, q2 hw⟩
theorem zlk {K : PySem.W.Frag} {H : Hp} {a : Addr} {xs : List V} {Q : VK} (h : SqT K H a xs) (q : ∀ p H', Same H H' → SqT K H' p (xs.drop 1) → Q (.ref p) H') : rSlW K (.ref a) (some 1) none H Q := by
 have e0 : HT.sIx xs.length 0 (some 1) = min 1 xs.length := HT.sIx_nat _ _ 1
 refine ⟨a, xs, rfl, h, fun hw => ?_, fun hw p hp => ?_⟩
 · rw [e0] at hw
   have hl : xs.length = 0 := by omega
   have hx : xs = [] := List.length_eq_zero_iff.mp hl
   subst hx
   exact q a H (Same.refl _) h
 · refine q p _ (zae hp _) (SqT.of ?_)
   rw [zab]
   unfold cutV
   rw [e0, show HT.sIx xs.length xs.length none = xs.length from rfl]
   cases xs with
   | nil => rfl
   | cons x r =>
    have e1 : min 1 (x :: r).length = 1 := by rw [List.length_cons]; omega
    rw [e1]
    congr 2
    rw [List.length_cons, Nat.add_sub_cancel]
    exact List.take_of_length_le (by simp)
end
section
variable {X : Cx} {K : PySem.W.Frag}
theorem zdt (K : PySem.W.Frag) (h : X.K = K) : IxR X (rIxT K) := by subst h; exact za8
theorem zh1 (K : PySem.W.Frag) (h : X.K = K) : IxR X (rIxL K) := by subst h; exact zaJ
theorem ze8 (K : PySem.W.Frag) (h : X.K = K) {es : List Expr} {k : Nat} {t : TGs} {n : Nat} {pos : Pos} (hc : X.calm = true) (hg : PGs X es t)
 (hn : (assignEach es X.env).length = n := by rfl) (hst : (assignEach es X.env).findIdx? (·.1) = none := by rfl) : PG X (.Tuple es k pos) (gTup K n t) := by subst h; exact zca hc hg hn hst
end
theorem zmh {K : PySem.W.Frag} {t1 t2 p : Addr} {xs ys : List V} {g : TG} {tc : TT} {te : TE} {σ : St} {H : Hp} {Q : VK} {js : Cap} {n : Nat} (h1 : n ≤ xs.length) (h2 : n ≤ ys.length) (h3 : xs.length ≤ n ∨ ys.length ≤ n) (Pv : Nat → St → List V → Hp → Prop) (h0 : Pv 0 (inn js σ) [] (upd H p (.lst [])))
 (hl : ∀ i σ zs H, i ≤ n → Pv i σ zs H → SqT K H t1 xs ∧ SqT K H t2 ys ∧ H p = some (.lst zs) ∧ zs.length < sizeLine)
 (hs : ∀ (i : Nat) x y σ zs H q (N : St → List V → Hp → Prop), xs[i]? = some x → ys[i]? = some y → H q = none → Pv i σ zs H → (∀ σ' ys' H', Pv (i + 1) σ' ys' H' → N σ' ys' H') → zel p g tc te zs (.ref q) σ (upd H q (.tup [x, y])) N)
 (hd : ∀ σ zs H, Pv n σ zs H → Q (.ref p) H) : zbE (Itz K t1 t2) p js g tc te σ H Q :=
 zeF (n := n) (J := Itz K t1 t2) (js := js) (σ := σ) (H := H) (p := p) (Q := Q) (g := g) (tc := tc) (te := te) Pv h0 (fun i σ zs H hi pv => (hl i σ zs H hi pv).2.2)
  (fun i σ zs H hi pv => ⟨xs, ys, xs[i], ys[i], (hl i σ zs H (Nat.le_of_lt hi) pv).1, (hl i σ zs H (Nat.le_of_lt hi) pv).2.1, by simp, by simp⟩)
  (fun σ zs H pv => ⟨xs, ys, (hl _ σ zs H (Nat.le_refl _) pv).1, (hl _ σ zs H (Nat.le_refl _) pv).2.1, h3⟩)
  (fun i v σ zs H H' N hi y pv hN => by
   obtain ⟨q, e, hq, y⟩ := y
   subst e
   have ex : xs[i]? = some xs[i] := by simp
   have ey : ys[i]? = some ys[i] := by simp
   have e2 := y xs ys _ _ (hl i σ zs H (Nat.le_of_lt hi) pv).1 (hl i σ zs H (Nat.le_of_lt hi) pv).2.1 ex ey
   subst e2
   exact hs i _ _ σ zs H q N ex ey hq pv hN) hd
theorem zfm : typeLookup (.type "tuple") "keys" = pure none := by rw [typeLookup_type, builtinLookup_eq_fast]; kernel_rfl
set_option maxHeartbeats 4000000 in
theorem zgv {prog : Program} {w : World} {A : Around} {E : Value → Shared → Prop} {a : Addr} {its : Array Value} {n : Nat} {sl : Array (Option Value)} {h : Heap} {g d t os} {Q : Option Value → Shared → Prop}
 (hh : A.handled = none) (hx : h.get? a = some { cls := .type "tuple", dict := none, data := .seq its n, slots := sl })
 (q : ∀ h' tk, (∀ b o, h.get? b = some o → h'.get? b = some o) → Q none ⟨h', g, d, tk, os⟩) : wpAny (model prog w) A (getAttr? (.ref a) "keys") Q E ⟨h, g, d, t, os⟩ := by
 have y0 : ∀ tk', (⟨h, g, d, tk', os⟩ : Shared).TypeIs (.ref a) "tuple" := fun _ => ⟨_, hx, rfl⟩
 have y1 := sub_AttributeError
 have y2 := F.slot_tuple_getattribute.lookup
 have y3 := F.slot_tuple_getattribute.bind (.ref a)
 have y4 := am_tuple_getattr_none
 unfold getAttr? getAttrBy? getAttrBy
 repeat (any_goals (first
  | assumption
  | exact y0 _
  | ((with_reducible show wpAny _ _ (call (Value.builtin "tuple.__getattribute__") _ _) _ _ _)
     refine call_meets F.slot_tuple_getattribute (y0 _) am_entry_tuple_getattribute (F.args_tuple_getattribute_2 _ _) (meets_getattribute_miss_tuple a its n sl "keys" _ zfm (by decide +kernel)) ⟨hx, hh, fun h' tk' e hx' => ?_⟩)
  | wp_step))
 obtain ⟨t', u', he⟩ := hx'.there
 show wpAny _ _ (getattributeRaised _ _ _ _ _ _ _) _ _ _
 unfold getattributeRaised
 repeat (any_goals (first | assumption | wp_step))
 exact q _ _ hx'.keeps
theorem zeg : mroOf (.type "dict") = pure [.type "dict", .type "object"] := by rw [mroOf_type]; kernel_rfl
theorem zhl : typeLookup (.type "dict") "__new__" = pure (some (.builtin "dict.__new__")) := by rw [typeLookup_type, builtinLookup_eq_fast]; kernel_rfl
theorem zfA : isSubtype (.type "dict") (.type "dict") = pure true := by rw [isSubtype_type]; kernel_rfl
theorem zgi : TypeCalled "dict" "dict.__new__" "dict.__init__" :=
 ⟨by decide +kernel, by decide +kernel, ⟨_, _, zeg⟩, madeBy_type zeg zhl (by decide +kernel), by decide +kernel, by rw [isSubtype_type]; kernel_rfl, PySem.F.slot_dict_init⟩
theorem zgw (a : Value) : checkTypeCall "dict" ⟨[a], []⟩ = pure () := by kernel_rfl
theorem zhe (a : Value) : checkBuiltinCall "dict.__new__" ⟨[.type "dict", a], []⟩ = pure () := by kernel_rfl
theorem zgc : entryFor table "dict.__new__" = some Builtin.«dict.__new__» := entryFor_of_tree (by kernel_rfl)
theorem zd6 : plainId "dict.__new__" = true := by decide +kernel
theorem zdf : entryFor table "dict.update.loop" = some Builtin.«dict.update.loop» := entryFor_of_tree (by kernel_rfl)
theorem zb8 : plainId "dict.update.loop" = true := by decide +kernel
section
variable {prog : Program} {w : World} {A : Around} {E : Value → Shared → Prop} {s : Shared}
theorem zj6 (a : Value) {Q₁ : Value → Shared → Prop} (h : Q₁ (.ref s.heap.objs.size) { s with heap := s.heap.push { cls := .type "dict", data := .dict #[] } }) :
 codeAny (model prog w) A (.call (.builtin "dict.__new__") ⟨[.type "dict", a], []⟩) (wants Q₁ E) s := by
 refine codeAny_of_tree ?_
 show wpAny _ A.in1 (checkBuiltinCall "dict.__new__" ⟨[.type "dict", a], []⟩ >>= fun _ => again (.builtin "dict.__new__" ⟨[.type "dict", a], []⟩)) _ _ s
 refine wpAny_bind (wpAny_of_eq (zhe a) (wpAny_pure ⟨plainId_quiet zd6 _, codeAny_builtin zgc ?_⟩))
 rw [Around.under_plainId zd6 _]
 have y1 := zfA
 have y2 := zeg
 obtain ⟨hp, g, d, tk, os⟩ := s
 wp_walk
 exact h
structure Pr (P : Program) (w : World) where
 k : Key
 key : Value
 v : Value
 p : Addr
 is : (zaB P w).is k key = true
theorem zmo {d it t : Addr} {vs : Array Value} {R : Result → Shared → Prop} (hh : A.handled = none) (dt : d ≠ t) (di : d ≠ it) (ti : t ≠ it) : ∀ (rest : List (Pr prog w)) (i : Nat) (kvs : List (Key × Value)) (s : Shared),
 s.heap.IsTupleIter it t i → s.heap.IsTuple t vs → vs.toList.drop i = rest.map (fun r => .ref r.p) → (∀ r ∈ rest, s.heap.IsTuple r.p #[r.key, r.v] ∧ r.p ≠ d ∧ r.p ≠ it) → s.heap.DictOf (zaB prog w) d kvs → kvs.length + rest.length ≤ sizeLine →
 (∀ h' tk, h'.DictOf (zaB prog w) d (rest.foldl (fun acc r => stored acc r.k r.v) kvs) → (∀ b o, b ≠ d → b ≠ it → s.heap.get? b = some o → h'.get? b = some o) → R (.ok (.ret .none)) { s with heap := h', toks := tk }) →
 codeAny (model prog w) A (.builtin "dict.update.loop" ⟨[.ref d, .ref it, rawInt i, .none], []⟩) R s
 | [], i, kvs, s, h1, h2, h3, h4, h5, h6, q => by
  refine codeAny_builtin zdf ?_
  rw [Around.under_plainId zb8 _]
  show wpAny _ _ (pyNext (.ref it) >>= _) _ _ _
  have hv : vs[i]? = none := by
   have : vs.toList.length ≤ i := List.drop_eq_nil_iff.mp h3
   rw [Array.getElem?_eq_none_iff]
   simpa using this
  refine wpAny_bind (wpAny_pyNext_tuple_end (A := A.in1) hh h1 h2 hv fun h' eb => ?_)
  show wpAny _ _ (Builtin.Dict.addKeywords d [] >>= fun _ => ret .none) _ _ _
  refine wpAny_bind (wpAny_pure (wpAny_pure ?_))
  exact q h' _ (h5.extBut eb di) (fun b o hb hb2 e => eb b o hb2 e)
 | r :: rest, i, kvs, s, h1, h2, h3, h4, h5, h6, q => by
  refine codeAny_builtin zdf ?_
  rw [Around.under_plainId zb8 _]
  show wpAny _ _ (pyNext (.ref it) >>= _) _ _ _
  have hl : i < vs.toList.length := by
   rcases Nat.lt_or_ge i vs.toList.length with z | z
   · exact z
   · rw [List.drop_eq_nil_of_le z] at h3; cases h3
  have hv : vs[i]? = some (.ref r.p) := by
   rw [List.drop_eq_getElem_cons hl, List.map_cons] at h3
   injection h3 with e1 e2
   rw [← e1]
   simp at hl ⊢
  have h3' : vs.toList.drop (i + 1) = rest.map (fun r => .ref r.p) := by
   rw [List.drop_eq_getElem_cons hl, List.map_cons] at h3
   injection h3
  obtain ⟨hp, pd, pi⟩ := h4 r (List.mem_cons_self ..)
  refine wpAny_bind (wpAny_pyNext_tuple_item h1 h2 hv fun h' st' sb => ?_)
  have hp' : h'.IsTuple r.p #[r.key, r.v] := hp.extBut sb.extBut pi
  show wpAny _ _ (holding [.ref r.p] _ >>= _) _ _ _
  refine wpAny_bind (wpAny_holding (wpAny_bind (wpAny_tryCatch ?_)))
  obtain ⟨ob, e1, e2, nn, e3⟩ := hp'
  unfold Builtin.Dict.pairItems
  refine wpAny_bind (wpAny_typeOf (s := { s with heap := h' }) ⟨ob, e1, e2⟩ ?_)
  rw [if_pos (by decide)]
  refine wpAny_bind (wpAny_seqItems (s := { s with heap := h' }) e1 e3 (wpAny_pure ?_))
  show wpAny _ _ (holding [r.key, r.v] (dictSet d r.key r.v)) _ _ _
  refine wpAny_holding (wpAny_dictSet_pairs (s := { s with heap := h' }) (knd := zaB prog w) r.is (h5.extBut sb.extBut di) (fun h2' hd2 sb2 => ?_) (by rw [List.length_cons] at h6; omega))
  refine wpAny_pure ⟨plainId_quiet zb8 _, ?_⟩
  have ks : (stored kvs r.k r.v).length ≤ kvs.length + 1 := by
   unfold stored
   split
   · rw [List.length_map]; omega
   · rw [List.length_append, List.length_singleton]; omega
  have := zmo (R := R) hh dt di ti rest (i + 1) (stored kvs r.k r.v) { s with heap := h2', toks := s.toks + 1 } (st'.extBut sb2.extBut di.symm) ((h2.extBut sb.extBut ti).extBut sb2.extBut dt.symm) h3'
   (fun r' hr' => by
    obtain ⟨a1, a2, a3⟩ := h4 r' (List.mem_cons_of_mem _ hr')
    exact ⟨(a1.extBut sb.extBut a3).extBut sb2.extBut a2, a2, a3⟩) hd2 (by rw [List.length_cons] at h6; omega)
   (fun h3 tk a1 a2 => q h3 tk a1 (fun b o hb hb2 e => a2 b o hb hb2 (sb2.extBut b o hb (sb.extBut b o hb2 e))))
  exact this
end
def zl6 : List V → Hp → VK → Prop := fun xs H Q => ∃ (a : Addr) (prs : List (Addr × Key × V)), xs = [.ref a] ∧ H a = some (.tup (prs.map fun p => V.ref p.1)) ∧ (∀ p ∈ prs, H p.1 = some (.tup [kV p.2.1, p.2.2])) ∧
 ∀ d, H d = none → Q (.ref d) (upd H d (.dK (prs.foldl (fun acc p => putK acc p.2.1 p.2.2) [])))
theorem zl8 {P : Program} {w : World} {H : Hp} {h : Heap} (ok : HOk P w H h) : ∀ prs : List (Addr × Key × V), (∀ p ∈ prs, H p.1 = some (.tup [kV p.2.1, p.2.2])) →
 ∃ rs : List (Pr P w), rs.map (fun r => r.p) = prs.map (·.1) ∧ (∀ r ∈ rs, h.IsTuple r.p #[r.key, r.v]) ∧ ∀ (kvs : List (Key × V)) (vs : List (Key × Value)), KV kvs vs → KV (prs.foldl (fun acc p => putK acc p.2.1 p.2.2) kvs) (rs.foldl (fun acc r => stored acc r.k r.v) vs)
 | [], _ => ⟨[], rfl, fun r hr => by simp at hr, fun kvs vs r => r⟩
 | p :: prs, hp => by
  obtain ⟨rs, e1, e2, e3⟩ := zl8 ok prs (fun q hq => hp q (List.mem_cons_of_mem _ hq))
  obtain ⟨_, its, r, tp⟩ := (show ObjOk P w H h p.1 (.tup [kV p.2.1, p.2.2]) from ok p.1 _ (hp p (List.mem_cons_self ..)))
  obtain ⟨u1, u2, rfl, r1, r2⟩ := ziM r
  refine ⟨⟨p.2.1, u1, u2, p.1, zf7 r1⟩ :: rs, by rw [List.map_cons, List.map_cons, e1], fun q hq => ?_, fun kvs vs rv => ?_⟩
  · rcases List.mem_cons.mp hq with rfl | hq
    · exact tp.tup
    · exact e2 q hq
  · rw [List.foldl_cons, List.foldl_cons]
    exact e3 _ _ (rv.put p.2.1 r2)
section
variable {X : Cx}
theorem ziJ (hc : X.calm = true) : zdj X (.type "dict") zl6 := by
 intro pins s σ H xs us Q I r h
 obtain ⟨a, prs, rfl, ha, hp, q⟩ := h
 obtain ⟨u, rfl, rx⟩ := zcu r
 cases rx
 obtain ⟨zl, its, rv, o, e1, e2, e3, n, e4⟩ := (show ObjOk X.prog X.w H s.heap a (.tup (prs.map fun p => V.ref p.1)) from I.hok a _ ha)
 obtain ⟨oc, od, odat, osl⟩ := o
 cases e2
 cases e3
 cases e4
 have hh := I.ok.hd hc
 have sz : s.heap.objs.size ≠ a := Nat.ne_of_gt (Heap.lt_size e1)
 refine callType_codes (Q₁ := fun obj s₁ => obj = .ref s.heap.objs.size ∧ s₁ = { s with heap := s.heap.push { cls := .type "dict", data := .dict #[] } }) zgi (zgw _) PySem.F.entry_dict_init (zj6 _ ⟨rfl, rfl⟩) fun obj s₁ h₁ => ?_
 obtain ⟨rfl, rfl⟩ := h₁
 have I1 := I.laid (a := s.heap.objs.size) (o := .dK []) (h' := s.heap.push { cls := .type "dict", data := .dict #[] }) (t' := s.toks) (fun _ _ q => Heap.get?_push_of_some _ q) (Nat.le_refl _) (zfr s.heap I.big)
 have hD : (s.heap.push { cls := .type "dict", data := .dict #[] }).get? s.heap.objs.size = some { cls := .type "dict", data := .dict #[] } := Heap.get?_push_size _ rfl
 refine ⟨⟨_, hD, rfl⟩, PySem.F.args_dict_init_2 _ _, ?_⟩
 have hT : Shared.TypeIs { s with heap := s.heap.push { cls := .type "dict", data := .dict #[] } } (.ref s.heap.objs.size) "dict" := ⟨_, hD, rfl⟩
 have hA : (s.heap.push { cls := .type "dict", data := .dict #[] }).get? a = some { cls := .type "tuple", dict := none, data := .seq its.toArray n, slots := osl } := Heap.get?_push_of_some _ e1
 unfold Builtin.«dict.__init__» Builtin.Dict.selfAndRest
 refine wpAny_bind (wpAny_bind (wpAny_notOrdered_dict hT (wpAny_pure ?_)))
 show wpAny _ _ (Builtin.Dict.updateFrom "dict.__init__" s.heap.objs.size (.ref a) [] .none) _ _ _
 unfold Builtin.Dict.updateFrom
 refine wpAny_bind (wpAny_typeOf (s := { s with heap := s.heap.push { cls := .type "dict", data := .dict #[] } }) ⟨_, hA, rfl⟩ ?_)
 rw [if_pos (by decide)]
 obtain ⟨rs, r1, r2, r3⟩ := zl8 I.hok prs hp
 have hits : its = rs.map (fun r => Value.ref r.p) := by
  have e : ∀ (l : List (Addr × Key × V)) (m : List Value), Vals (l.map fun p => V.ref p.1) m → m = (l.map (·.1)).map Value.ref := by
   intro l
   induction l with
   | nil => intro m q; cases q; rfl
   | cons p l ih =>
    intro m q
    cases q with
    | cons q1 q2 => cases q1; rw [ih _ q2]; rfl
  rw [e prs its rv, ← r1, List.map_map]
  rfl
 have hlen : rs.length = prs.length := by
  have := congrArg List.length r1
  simpa using this
 rw [List.length_map] at zl
 have hsys := I.big
 obtain ⟨hp0, g, dr, tk0, os⟩ := s
 refine wpAny_bind (zgv (A := X.A.in1.in1) hh hA fun h' tk kp => ?_)
 simp only [Option.isNone_none, if_true]
 have kp0 : ∀ b o, hp0.get? b = some o → h'.get? b = some o := fun b o e => kp b o (Heap.get?_push_of_some _ e)
 have I2 : Inv X pins σ (upd H hp0.objs.size (.dK [])) ⟨h', g, dr, tk, os⟩ := I1.kept (t' := tk) kp
 have hA' : h'.IsTuple a its.toArray := ⟨_, kp _ _ hA, rfl, _, rfl⟩
 have dlt : hp0.objs.size < h'.objs.size := Heap.lt_size (kp _ _ hD)
 have alt : a < h'.objs.size := Heap.lt_size (kp _ _ hA)
 refine wpAny_bind (wpAny_rule (wpAny_bind (wpAny_pyIter_tuple (s := ⟨h', g, dr, tk, os⟩) hA' (wpAny_pure ⟨plainId_quiet zb8 _, ?_⟩))))
 obtain ⟨zd, hd, vs0, rk0, dd⟩ := zlE I2.hok (show (upd H hp0.objs.size (.dK [])) hp0.objs.size = some (.dK []) from zab)
 cases rk0
 refine zmo (A := X.A.in1) hh sz (Nat.ne_of_lt dlt) (Nat.ne_of_lt alt) rs 0 [] _ ⟨_, Heap.get?_push_size _ rfl, rfl, rfl⟩ (Heap.IsTuple.push hA' _) ?_ ?_ (dd.push _) ?_ ?_
 · rw [List.drop_zero, ← hits]
 · intro r hr
   have t0 := r2 r hr
   have plt : r.p < hp0.objs.size := by
    obtain ⟨o, e, _⟩ := t0
    exact Heap.lt_size e
   exact ⟨Heap.IsTuple.push (t0.at fun o e => kp0 _ o e) _, Nat.ne_of_lt plt, Nat.ne_of_lt (Nat.lt_trans plt dlt)⟩
 · rw [hlen]; simpa using zl
 · intro h2 tk2 hd2 k2
   have k3 : ∀ b u, b ≠ hp0.objs.size → h'.get? b = some u → h2.get? b = some u := fun b u hb e => k2 b u hb (Nat.ne_of_lt (Heap.lt_size e)) (Heap.get?_push_of_some _ e)
   have he : ∃ q, h2.get? hp0.objs.size = some q := let ⟨q, _, _, hq, _⟩ := hd2; ⟨q, hq⟩
   have hz : (prs.foldl (fun acc p => putK acc p.2.1 p.2.2) []).length ≤ sizeLine := by
    have len : ∀ (l : List (Addr × Key × V)) (acc : List (Key × V)), (l.foldl (fun acc p => putK acc p.2.1 p.2.2) acc).length ≤ acc.length + l.length := by
     intro l
     induction l with
     | nil => intro acc; exact Nat.le_refl _
     | cons p l ih =>
      intro acc
      rw [List.foldl_cons, List.length_cons]
      have h1 := ih (putK acc p.2.1 p.2.2)
      have h2 := zbr acc p.2.1 p.2.2
      omega
    have := len prs []
    simp at this
    omega
   have I3 := I2.write (x := hp0.objs.size) (e := hp0.objs.size) (o := .dK (prs.foldl (fun acc p => putK acc p.2.1 p.2.2) [])) (t' := tk2) (by rw [zab]; exact True.intro) (.inl rfl) k3 he (zjY hz hd (r3 [] [] .nil) hd2)
   rw [zlc] at I3
   exact ⟨rfl, .ref hp0.objs.size, _, I3, rfl, q _ (I.hok.fresh (Nat.le_refl _))⟩
end
section
variable {X : Cx} {pins : List (Addr × Obj)} {σ : St} {H : Hp} {s : Shared} {h' : Heap}
end
section
variable {X : Cx}
end
section
variable {X : Cx} {e : Expr} {te : TE} {pos p2 p3 p4 : Pos} {n : Nat}
end
def unlike (ns : List Int) : Nat := (ns.foldl step_dedup []).length
section
variable {X : Cx} {e : Expr} {te : TE} {pos p2 p3 p4 : Pos}
end
section
variable {X : Cx}
end
end L2
namespace WB
end WB
namespace L2
open PySem PySem.Spec PyProof.Rows
section
variable {X : Cx}
def CMulB (i j : Int) : Prop := i.natAbs < 2 ^ 1000 ∧ j.natAbs < 2 ^ 1000
end
section
variable {K : PySem.W.Frag} {H : Hp} {Q : VK}
end
theorem zhc {H H' : Hp} {l : Addr} (s : Same H H') (h : H' l = none) : H l = none := by
 cases hz : H l with
 | none => rfl
 | some o => rw [s _ _ hz] at h; cases h
theorem nb {i : Int} (h0 : 0 ≤ i) (h1 : i < 2 ^ 400) : i.natAbs < 2 ^ 1000 := by
 have : i.natAbs < 2 ^ 400 := by omega
 exact Nat.lt_of_lt_of_le this (by decide)
def zkj (K : PySem.W.Frag) : Sp := fun vs H Q _ => ∃ (a : Addr) (ns : List Int), vs = [.ref a] ∧ SqL K H a (ns.map V.int) ∧ ns.length ≤ 63 ∧ ∀ H', Q (.bl true) H'
theorem mn (i j : Int) : (if j < i then j else i) = min i j := by rw [Int.min_def]; split <;> split <;> omega
def Tups (H H' : Hp) : Prop := ∀ a xs, H a = some (.tup xs) → H' a = some (.tup xs)
theorem Tups.trans {H H1 H2 : Hp} (a : Tups H H1) (b : Tups H1 H2) : Tups H H2 := fun c xs h => b c xs (a c xs h)
theorem Same.tups {H H' : Hp} (s : Same H H') : Tups H H' := fun a xs h => s _ _ h
theorem zaY {H : Hp} {p : Addr} {ys : List V} {o : HO} (h : H p = some (.lst ys)) : Tups H (upd H p o) := fun a xs e => by
 rw [zak (zdc e h (by intro z; cases z))]
 exact e
theorem za1 {H H0 : Hp} {p : Addr} {o : HO} (s : Same H0 H) (n : H0 p = none) : Same H0 (upd H p o) := fun a u e => by
 rw [zak (zav e n)]
 exact s _ _ e
theorem ziT : ∀ {ts : List Str} {us : List Value}, Vals (ts.map V.str) us → ∃ l : List (Str × Tok), strValues l = us ∧ l.map (·.1) = ts
 | [], _, h => by cases h; exact ⟨[], rfl, rfl⟩
 | x :: ts, _, h => by
  rw [List.map_cons] at h
  cases h with
  | cons r h =>
   obtain ⟨t, rfl⟩ := r
   obtain ⟨l, h1, h2⟩ := ziT h
   exact ⟨(x, t) :: l, by rw [← h1]; rfl, by rw [← h2]; rfl⟩
theorem zdk : ∀ {ts : List Str} {us : List Value}, Vals (ts.map V.str) us → StrsAre us ts
 | [], _, h => by cases h; exact .nil
 | x :: ts, _, h => by
  rw [List.map_cons] at h
  cases h with
  | cons r h =>
   obtain ⟨t, rfl⟩ := r
   exact .cons _ _ (zdk h)
theorem zb1 : ∀ {us : List Value} {ts : List Str}, StrsAre us ts → Vals (ts.map V.str) us
 | _, _, .nil => .nil
 | _, _, .cons n t h => .cons ⟨t, rfl⟩ (zb1 h)
section
variable {X : Cx}
def zmI (K : PySem.W.Frag) : V → List V → Hp → VK → Prop := fun x vs H Q => ∃ (y : Str) (a : Addr) (ts : List Str), x = .str y ∧ vs = [.ref a] ∧ SqL K H a (ts.map V.str) ∧ JoinOk y ts = true ∧ Q (.str (Txt.join y ts)) H
theorem zjx : MtM X "str.join" (zmI X.K) := by
 intro pins s σ H x vs v us Q I rx rv h
 obtain ⟨y, a, ts, rfl, rfl, hq, hok, q⟩ := h
 obtain ⟨t, rfl⟩ := rx
 obtain ⟨u, rfl, ru⟩ := rv.one
 cases ru
 obtain ⟨its, r, ht, hz⟩ := I.list hq
 obtain ⟨l, rfl, rfl⟩ := ziT r
 unfold JoinOk at hok
 rw [Bool.not_eq_true'] at hok
 refine call_meets F.slot_str_join (typeIs_str _ _ _) F.entry_str_join (F.args_str_join_2 _ _) (meets_str_join_list y t a l hok) ⟨ht.isList, post_join l ⟨joinFit_length hok, fun t' k => ?_⟩⟩
 exact ⟨.str _, H, I.kept (t' := k) fun b o e => e, ⟨t', rfl⟩, q⟩
def zl4 (K : PySem.W.Frag) : List V → Hp → VK → Prop := fun xs H Q => ∃ (a : Addr) (ns : List Str), xs = [.ref a] ∧ SqL K H a (ns.map V.str) ∧ ns.length < 64 ∧
 ∀ (p : Addr) (ms : List Str), ms.Perm ns → sortedS ms = true → H p = none → Q (.ref p) (upd H p (.lst (ms.map V.str)))
theorem zgk : zdj X (.builtin "sorted") (zl4 X.K) := by
 intro pins s σ H xs us Q I r h
 obtain ⟨a, ns, rfl, hq, h64, q⟩ := h
 obtain ⟨u, rfl, rx⟩ := zcu r
 cases rx
 obtain ⟨its, rv, ht, hz⟩ := I.list hq
 have hl := rv.length
 rw [List.length_map] at hl
 refine sorted_strs ht.isList (zdk rv) (by omega) fun out ns' a1 a2 a3 => ?_
 obtain ⟨e, he⟩ := sortedAll_at s.heap its out
 have hn : H (s.heap.objs.size + 1) = none := I.hok.fresh (Nat.le_succ _)
 have hlen : ns'.length = ns.length := a2.length_eq
 refine ⟨.ref (s.heap.objs.size + 1), upd H (s.heap.objs.size + 1) (.lst (ns'.map V.str)), I.laid (t' := s.toks) (fun b o e => sortedAll_old e) (Nat.le_succ _) ?_, rfl, q _ ns' a2 a3 hn⟩
 have hz' : ns.length ≤ sizeLine := by rw [List.length_map] at hz; exact hz
 exact ⟨by rw [List.length_map]; omega, out.toList, e, zb1 a1, by simpa [seqObj] using he⟩
end
theorem zmf (t : SetTable) (n : Nat) : (t.orStandIn n).led = t.led := by unfold SetTable.orStandIn; split <;> rfl
theorem zkv (t : SetTable) (n : Nat) (h : t.plain = false) : (t.orStandIn n).plain = false := by
 unfold SetTable.orStandIn
 split
 · exact h
 · rfl
theorem zlA (t : SetTable) (es : Array (Int × Value)) (h : Int) (x : Value) : (layNew t es h x).2.1.led = t.led := by
 unfold layNew
 split
 · exact (zmf _ _).trans rfl
 · rfl
theorem zjJ (t : SetTable) (es : Array (Int × Value)) (h : Int) (x : Value) : t.plain = false → (layNew t es h x).2.1.plain = false := by
 intro hp
 unfold layNew
 split
 · exact zkv _ _ hp
 · rfl
theorem zjK {mask finger moves : Nat} {led plain : Bool} {hs : Array Int} {t : SetTable} {o : Array Nat} (h : SetTable.laid mask finger moves led plain hs = some (t, o)) : t.led = led ∧ t.plain = plain := by
 unfold SetTable.laid at h
 cases h1 : SetTable.layClean mask hs with
 | none => rw [h1] at h; cases h
 | some ow =>
  rw [h1] at h
  simp only [Option.bind_eq_bind, Option.bind_some, Option.pure_def, Option.some.injEq, Prod.mk.injEq] at h
  rw [← h.1]
  exact ⟨rfl, rfl⟩
theorem zja (t : SetTable) (es : Array (Int × Value)) (n : Nat) : (relayAll t es n).2.1.led = t.led := by
 unfold relayAll
 split
 · rename_i t' o h
   dsimp only
   split
   · exact (zjK h).1
   · rfl
 · rfl
theorem zgT (t : SetTable) (es : Array (Int × Value)) (n : Nat) (hp : t.plain = false) : (relayAll t es n).2.1.plain = false := by
 unfold relayAll
 split
 · rename_i t' o h
   dsimp only
   split
   · rw [← hp]; exact (zjK h).2
   · rfl
 · rfl
def byTx (w : World) : Bool := w.params.followText "set-order"
structure TxSet (prog : Program) (w : World) (h : Heap) (a : Addr) (ks : List Str) : Prop where
 at' : ∃ (es : Array (Int × Value)) (ep : Nat) (t : SetTable), h.get? a = some { cls := .type "set", dict := none, data := .set es ep t } ∧ ElemsOf (strKind prog w) es.toList ∧
  StrsAre (es.toList.map (·.2)) ks ∧ t.fits es.size = true ∧ t.led = !byTx w ∧ (es.size = 0 ∨ t.plain = false)
 nodup : ks.Nodup
 few : ks.length < scanBound
theorem zbU : ∀ {vs : List Value} {ks : List Str}, StrsAre vs ks → vs.length = ks.length
 | _, _, .nil => rfl
 | _, _, .cons _ _ h => by rw [List.length_cons, List.length_cons, zbU h]
theorem zdR : ∀ {vs us : List Value} {ks js : List Str}, StrsAre vs ks → StrsAre us js → StrsAre (vs ++ us) (ks ++ js)
 | _, _, _, _, .nil, h => h
 | _, _, _, _, .cons _ _ h', h => .cons _ _ (zdR h' h)
theorem zcv {vs us : List Value} (p : us.Perm vs) : ∀ {ks : List Str}, StrsAre vs ks → ∃ js, StrsAre us js ∧ js.Perm ks := by
 induction p with
 | nil => intro ks h; exact ⟨ks, h, .refl _⟩
 | cons x p ih =>
  intro ks h
  cases h with
  | cons y t h =>
   obtain ⟨js, h1, h2⟩ := ih h
   exact ⟨y :: js, .cons y t h1, h2.cons _⟩
 | swap x y l =>
  intro ks h
  cases h with
  | cons y t h =>
   cases h with
   | cons y2 t2 h => exact ⟨y2 :: y :: _, .cons _ _ (.cons _ _ h), .swap _ _ _⟩
 | trans p1 p2 ih1 ih2 =>
  intro ks h
  obtain ⟨js, h1, h2⟩ := ih2 h
  obtain ⟨is, h3, h4⟩ := ih1 h1
  exact ⟨is, h3, h4.trans h2⟩
theorem zcX : ∀ {vs : List Value} {ks : List Str}, StrsAre vs ks → ∀ k, k ∈ ks ↔ ∃ t, Value.str k t ∈ vs
 | _, _, .nil, k => by simp
 | _, _, .cons y t h, k => by
  rw [List.mem_cons, zcX h k]
  constructor
  · rintro (rfl | ⟨u, hu⟩)
    · exact ⟨t, .head _⟩
    · exact ⟨u, .tail _ hu⟩
  · rintro ⟨u, hu⟩
    cases hu with
    | head => exact .inl rfl
    | tail _ hu => exact .inr ⟨u, hu⟩
theorem zgy {prog : Program} {w : World} (k : Str) (t : Tok) : (strKind prog w).is k (.str k t) = true := by
 show Value.isStrOf k (.str k t) = true
 simp [Value.isStrOf]
theorem zjg (h : Heap) (a : Addr) (es es' : Array (Int × Value)) (ep : Nat) (t t' : SetTable) (ho : h.get? a = some { cls := .type "set", dict := none, data := .set es ep t }) :
 (h.update a (Obj.putSet es' t')).get? a = some { cls := .type "set", dict := none, data := .set es' (ep + 1) t' } := by
 have := Heap.get?_update_self (Obj.putSet es' t') ho (by rw [putSet_of es' t' (o := { cls := .type "set", dict := none, data := .set es ep t }) rfl]; rfl)
 rw [putSet_of es' t' (o := { cls := .type "set", dict := none, data := .set es ep t }) rfl] at this
 exact this
section
variable {prog : Program} {w : World} {A : Around} {E : Value → Shared → Prop} {s : Shared}
theorem zkh {a : Addr} {ks : List Str} {k : Str} {tk : Tok} {Q : Bool → Shared → Prop} (hS : TxSet prog w s.heap a ks) (hroom : ks.length + 1 < scanBound)
 (h : ∀ h' ks', Heap.SameBut a s.heap h' → TxSet prog w h' a ks' → ks'.length ≤ ks.length + 1 → (∀ x, x ∈ ks' ↔ x ∈ ks ∨ x = k) → ∀ b, Q b { s with heap := h' }) :
 wpAny (model prog w) A (setAddHashed a (.str k tk) ((strKind prog w).hash k)) Q E s := by
 obtain ⟨⟨es, ep, t, ho, hel, hks, hf, hled, hpl⟩, hnd, hfew⟩ := hS
 have hsz : es.size = ks.length := by rw [← zbU hks, List.length_map, Array.length_toList]
 have hb : es.size < scanBound := by rw [hsz]; exact hfew
 have hkey : (strKind prog w).is k (.str k tk) = true := zgy k tk
 unfold setAddHashed setAddHashedIn
 refine wpAny_holding (wpAny_bind (wpAny_setState_of ho rfl hf ?_))
 dsimp only
 rw [byScan_of (knd := strKind prog w) rfl hb hel]
 simp only [↓reduceIte]
 unfold setAddByScan
 refine wpAny_bind ?_
 refine wpAny_bind (wpAny_rule ?_)
 refine wpAny_bind (wpAny_setScan_of (knd := strKind prog w) hkey ho rfl hf hel ?_)
 have isk : ∀ e ∈ es.toList, (strKind prog w).is k e.2 = true → k ∈ ks := fun e he q => by
  obtain ⟨t', q'⟩ := Value.isStrOf_shape q
  exact (zcX hks k).mpr ⟨t', by rw [← q']; exact List.mem_map_of_mem he⟩
 cases hr : List.findIdx? (fun e => (strKind prog w).is k e.2) es.toList with
 | some j =>
  dsimp only
  obtain ⟨hj, hpj, _⟩ := List.findIdx?_eq_some_iff_getElem.mp hr
  have hk : k ∈ ks := isk _ (List.getElem_mem hj) hpj
  refine wpAny_pure (wpAny_pure ?_)
  exact h s.heap ks (Heap.SameBut.refl a s.heap) ⟨⟨es, ep, t, ho, hel, hks, hf, hled, hpl⟩, hnd, hfew⟩ (Nat.le_succ _) (fun x => ⟨.inl, fun q => q.elim id fun e => e ▸ hk⟩) _
 | none =>
  dsimp only
  have hk : k ∉ ks := fun hm => by
   obtain ⟨t', ht⟩ := (zcX hks k).mp hm
   obtain ⟨e, he, q⟩ := List.mem_map.mp ht
   have := List.findIdx?_eq_none_iff.mp hr e he
   rw [q, zgy] at this
   cases this
  have hgw : ∀ (b : Bool) {s₁ : Shared} {Q' : Unit → Shared → Prop}, Q' () s₁ → wpAny (model prog w) A (match b with | true => rule "set.scan.the-table-gave-way" | false => pure ()) Q' E s₁ :=
   fun b s₁ Q' hq => by cases b <;> first | exact wpAny_pure hq | exact wpAny_rule hq
  have hperm := layNew_perm t es ((strKind prog w).hash k) (.str k tk)
  have hfits := layNew_fits t es ((strKind prog w).hash k) (.str k tk)
  have hl1 := zlA t es ((strKind prog w).hash k) (.str k tk)
  have hp1 := zjJ t es ((strKind prog w).hash k) (.str k tk)
  generalize hL : layNew t es ((strKind prog w).hash k) (.str k tk) = L at hperm hfits hl1 hp1 ⊢
  obtain ⟨es1, t1, wasDummy, gave⟩ := L
  dsimp only at hperm hfits hl1 hp1 ⊢
  rw [Array.toList_push] at hperm
  have hel1 : ElemsOf (strKind prog w) es1.toList := (hel.push hkey rfl).perm hperm
  have h0 : StrsAre ((es.toList ++ [((strKind prog w).hash k, Value.str k tk)]).map (·.2)) (ks ++ [k]) := by
   rw [List.map_append]
   exact zdR hks (.cons k tk .nil)
  obtain ⟨k1, hk1, hkp1⟩ := zcv (hperm.map (·.2)) h0
  have hsz1 : es1.size = ks.length + 1 := by rw [← Array.length_toList, hperm.length_eq, List.length_append, Array.length_toList, hsz]; rfl
  have nd0 : (ks ++ [k]).Nodup := by
   rw [List.nodup_append]
   exact ⟨hnd, by simp, fun x hx y hy => by rw [List.mem_singleton] at hy; subst hy; exact fun e => hk (e ▸ hx)⟩
  have fin : ∀ (h' : Heap) (es2 : Array (Int × Value)) (ep2 : Nat) (t2 : SetTable), Heap.SameBut a s.heap h' → h'.get? a = some { cls := .type "set", dict := none, data := .set es2 ep2 t2 } → es2.toList.Perm es1.toList → t2.fits es2.size = true →
   t2.led = t.led → t2.plain = false → ∀ b, Q b { s with heap := h' } := fun h' es2 ep2 t2 sb ho2 p2 f2 l2 pl2 b => by
   obtain ⟨k2, hk2, hkp2⟩ := zcv (p2.map (·.2)) hk1
   have hp : k2.Perm (ks ++ [k]) := hkp2.trans hkp1
   have hlen : k2.length = ks.length + 1 := by rw [hp.length_eq, List.length_append]; rfl
   refine h h' k2 sb ⟨⟨es2, ep2, t2, ho2, hel1.perm p2, hk2, f2, l2.trans hled, .inr pl2⟩, hp.nodup_iff.mpr nd0, by omega⟩ (by omega) (fun x => ?_) b
   rw [hp.mem_iff, List.mem_append, List.mem_singleton]
  refine wpAny_bind (hgw _ ?_)
  have tail : ∀ (t2 : SetTable), t2.fits es1.size = true → t2.led = t.led → t2.plain = false → ∀ {R : Option Bool → Shared → Prop}, (∀ h', (∀ b, Q b { s with heap := h' }) → R (some true) { s with heap := h' }) →
   wpAny (model prog w) A (do
    storeSet a es1 t2
    if (!wasDummy && t2.tooFull) = true then do
        (match (relayAll t2 es1 (SetTable.grown es1.size)).2.2 with | true => rule "set.scan.the-table-gave-way" | false => pure ())
        storeSet a (relayAll t2 es1 (SetTable.grown es1.size)).1 (relayAll t2 es1 (SetTable.grown es1.size)).2.1
        pure (some true)
     else pure (some true)) R E s := by
   intro t2 f2 l2 pl2 R hR
   refine wpAny_bind (wpAny_storeSet_of ho rfl ?_ (fits_of_scanBound (by omega)))
   have ho1 := zjg s.heap a es es1 ep t t2 ho
   have sb1 := Heap.SameBut.update s.heap a (Obj.putSet es1 t2)
   split
   · have hp := relayAll_perm t2 es1 (SetTable.grown es1.size)
     have hfr := relayAll_fits t2 es1 (SetTable.grown es1.size)
     have hl2 := zja t2 es1 (SetTable.grown es1.size)
     have hp2 := zgT t2 es1 (SetTable.grown es1.size) pl2
     generalize hRl : relayAll t2 es1 (SetTable.grown es1.size) = Rl at hp hfr hl2 hp2 ⊢
     obtain ⟨es2, t3, gave2⟩ := Rl
     dsimp only at hp hfr hl2 hp2 ⊢
     have hs2 : es2.size = es1.size := by rw [← Array.length_toList, hp.length_eq, Array.length_toList]
     refine wpAny_bind (hgw _ ?_)
     refine wpAny_bind (wpAny_storeSet_of ho1 rfl ?_ (fits_of_scanBound (by omega)))
     exact wpAny_pure (hR _ (fin _ es2 _ t3 (sb1.trans (Heap.SameBut.update _ a _)) (zjg _ a es1 es2 (ep + 1) t2 t3 ho1) hp hfr (hl2.trans l2) hp2))
   · exact wpAny_pure (hR _ (fin _ es1 _ t2 sb1 ho1 (.refl _) f2 l2 pl2))
  split
  · refine wpAny_bind ?_
    rw [hashByValue_scannable 8 (x := .str k tk) rfl]
    refine wpAny_pure ?_
    exact tail { t1 with plain := false } (SetTable.fits_plain_off hfits) hl1 rfl fun h' q => wpAny_pure (q _)
  · rename_i hnp
    refine wpAny_bind (wpAny_pure ?_)
    simp only [↓reduceIte]
    exact tail t1 hfits hl1 (by simpa using hnp) fun h' q => wpAny_pure (q _)
end
theorem TxSet.kept {prog : Program} {w : World} {h h' : Heap} {a : Addr} {ks : List Str} (T : TxSet prog w h a ks) (k : ∀ o, h.get? a = some o → h'.get? a = some o) : TxSet prog w h' a ks := by
 obtain ⟨⟨es, ep, t, ho, r⟩, b, c⟩ := T
 exact ⟨⟨es, ep, t, k _ ho, r⟩, b, c⟩
theorem ziU : ∀ {vs : List Value} {ts : List Str}, StrsAre vs ts → ∀ (i : Nat) (v : Value), vs[i]? = some v → ∃ x t, v = .str x t ∧ ts[i]? = some x
 | _, _, .nil, i, v, h => by simp at h
 | _, _, .cons y t hr, 0, v, h => by simp at h; exact ⟨y, t, h.symm, rfl⟩
 | _, _, .cons y t hr, i + 1, v, h => by
  rw [List.getElem?_cons_succ] at h
  obtain ⟨x, t', e, e2⟩ := ziU hr i v h
  exact ⟨x, t', e, by rw [List.getElem?_cons_succ]; exact e2⟩
section
variable {prog : Program} {w : World} {A : Around} {R : Result → Shared → Prop} {I : Addr} {fp wr : List Addr} {G : Array GenState → Array GenState → Prop} {P : Nat → Value → Prop} {St : Nat → Shared → Prop}
theorem ziP (ts : List Str) (W : WalksS prog w A.in1 I fp wr G ts.length P St) (S : Addr) (hSf : S ∉ fp)
 (hval : ∀ i v, P i v → ∃ x t, v = .str x t ∧ ts[i]? = some x) (hb : ts.length + 1 < scanBound) :
 ∀ (k i : Nat) (s : Shared) (ks : List Str), ts.length - i = k → i ≤ ts.length → St i s → TxSet prog w s.heap S ks → ks.length ≤ i → (∀ x, x ∈ ks ↔ x ∈ ts.take i) →
  (∀ s' ks', Moved (S :: wr) G s s' → TxSet prog w s'.heap S ks' → ks'.length ≤ ts.length → (∀ x, x ∈ ks' ↔ x ∈ ts) → R (.ok (.ret .none)) s') →
  codeAny (model prog w) A (.builtin "set.update.loop" ⟨[.ref S, .ref I], []⟩) R s := by
 have hSw : S ∉ wr := fun h => hSf (W.sub _ h)
 have hsub : ∀ b ∈ wr, b ∈ S :: wr := fun b hb => List.mem_cons_of_mem _ hb
 intro k
 induction k with
 | zero =>
  intro i s ks hk hi hst hS hl hm0 hR
  have hin : i = ts.length := by omega
  subst hin
  refine codeAny_builtin PyProof.Rows.F.entry_set_update_loop ?_
  rw [Around.under_plainId PyProof.Rows.F.plain_set_update_loop _]
  show wpAny _ A.in1 (pyNext (.ref I) >>= _) _ _ s
  refine wpAny_bind (W.done s _ _ hst fun s' hm => ?_)
  show wpAny _ A.in1 (ret Value.none) _ _ s'
  exact wpAny_pure (hR s' ks (hm.mono hsub) (hS.kept fun o e => hm.heap S _ hSw e) hl (fun x => by rw [hm0, List.take_length]))
 | succ k ih =>
  intro i s ks hk hi hst hS hl hm0 hR
  have hlt : i < ts.length := by omega
  refine codeAny_builtin PyProof.Rows.F.entry_set_update_loop ?_
  rw [Around.under_plainId PyProof.Rows.F.plain_set_update_loop _]
  show wpAny _ A.in1 (pyNext (.ref I) >>= _) _ _ s
  refine wpAny_bind (W.item i s _ _ hlt hst fun v s' hP hst' hm => ?_)
  obtain ⟨x, t, rfl, hx⟩ := hval i v hP
  have hS' : TxSet prog w s'.heap S ks := hS.kept fun o e => hm.heap S _ hSw e
  show wpAny _ A.in1 (holding [Value.str x t] (setAdd S (.str x t)) >>= _) _ _ s'
  refine wpAny_bind (wpAny_holding ?_)
  unfold setAdd
  refine wpAny_holding ?_
  refine wpAny_bind ((strKind prog w).pyHash (k := x) (zgy x t) ?_)
  refine zkh (s := { s' with toks := s'.toks + 1 }) hS' (by omega) fun h' ks' hsb hS2 hl2 hm2 b => ?_
  refine wpAny_pure ⟨plainId_quiet PyProof.Rows.F.plain_set_update_loop _, ih (i + 1) _ ks' (by omega) hlt (W.frame _ s' _ _ hst' (Nat.le_succ _) fun b hb o e => ?_) hS2 (by omega) (fun y => ?_) fun s'' k2 hm'' hS'' => ?_⟩
  · rw [hsb.2 b (fun h : b = S => hSf (by rw [← h]; exact hb))]; exact e
  · rw [hm2, hm0, List.take_succ, hx]
    simp
  · refine hR s'' k2 (Moved.trans W.gtrans ((hm.mono hsub).then_heap (Nat.le_succ _) fun b o hb e => ?_) hm'') hS''
    rw [hsb.2 b (fun h : b = S => hb (by rw [h]; exact List.mem_cons_self))]; exact e
end
section
variable {prog : Program} {w : World} {A : Around} {E : Value → Shared → Prop} {s : Shared}
theorem zhv (a : Value) {Q₁ : Value → Shared → Prop}
 (h : Q₁ (.ref s.heap.objs.size) { s with heap := s.heap.push { cls := .type "set", dict := none, data := .set #[] 0 (.fresh 0 0 (!byTx w)) } }) :
 codeAny (model prog w) A (.call (.builtin "set.__new__") ⟨[.type "set", a], []⟩) (wants Q₁ E) s := by
 refine codeAny_of_tree ?_
 show wpAny _ A.in1 (do checkBuiltinCall "set.__new__" ⟨[.type "set", a], []⟩; again (.builtin "set.__new__" ⟨[.type "set", a], []⟩)) _ _ s
 refine wpAny_bind (wpAny_of_eq (PySem.F.newCall_set_1 a) (wpAny_pure ⟨plainId_quiet PySem.F.plain_set_new _, codeAny_builtin PySem.F.entry_set_new ?_⟩))
 rw [Around.under_plainId PySem.F.plain_set_new _]
 unfold Builtin.«set.__new__» Builtin.Frozenset.newClass
 have hsub := sub_set_self
 obtain ⟨hp, g, d, tk, os⟩ := s
 dsimp only
 wp_walk
 refine wpAny_askSetting (wpAny_pure ?_)
 dsimp only
 simp only [newObj]
 refine wpAny_bind (wpAny_alloc (wpAny_pure ?_))
 exact wpAny_pure h
theorem zii {h : Heap} {a : Addr} (e : h.get? a = some { cls := .type "set", dict := none, data := .set #[] 0 (.fresh 0 0 (!byTx w)) }) : TxSet prog w h a [] :=
 ⟨⟨#[], 0, _, e, fun e he => by simp at he, .nil, rfl, rfl, .inl rfl⟩, List.nodup_nil, by decide⟩
end
section
variable {prog : Program} {w : World} {A : Around} {E : Value → Shared → Prop} {s : Shared}
set_option maxHeartbeats 3200000 in
theorem zfv {l : Addr} {items : Array Value} {ts : List Str} {Q : Value → Shared → Prop}
 (hh : A.handled = none) (hl : s.heap.IsList l items) (hi : StrsAre items.toList ts) (hb : ts.length + 1 < scanBound)
 (h : ∀ (h' : Heap) (tk : Nat) (ks : List Str), TxSet prog w h' s.heap.objs.size ks → ks.length ≤ ts.length → (∀ x, x ∈ ks ↔ x ∈ ts) →
  (∀ b o, b < s.heap.objs.size → s.heap.get? b = some o → h'.get? b = some o) → Q (.ref s.heap.objs.size) { s with heap := h', toks := tk }) :
 wpAny (model prog w) A (call (.type "set") [.ref l]) Q E s := by
 have hsz : items.size = ts.length := by rw [← Array.length_toList]; exact zbU hi
 obtain ⟨c, tl, hmro⟩ := PySem.F.called_set.mro
 have hmade := PySem.F.called_set.made
 have hsub := PySem.F.called_set.sub
 refine wpAny_call (codeAny_of_tree ?_)
 show wpAny _ _ (callAny (.type "set") _) _ _ _
 refine wpAny_pure ⟨Code.quiet_builtin _ (by decide +kernel), codeAny_builtin PySem.F.entry_type_call ?_⟩
 rw [Around.under_plain (weight_type_call_type "set" [.ref l] []) rfl]
 have h1 := PySem.F.called_set.notType
 have h2 := PySem.F.called_set.canCreate
 have hct := PySem.F.typeCall_set_1 (.ref l)
 repeat (any_goals (first | assumption | wp_step))
 refine codeAny_mono (zhv (.ref l) (E := E) (Q₁ := fun obj s₁ => obj = .ref s.heap.objs.size ∧ s₁ = { s with heap := s.heap.push { cls := .type "set", dict := none, data := .set #[] 0 (.fresh 0 0 (!byTx w)) } }) ⟨rfl, rfl⟩) fun r s₁ hr => ?_
 cases r with
 | error e => exact hr
 | ok fl =>
  cases fl with
  | ret obj =>
   obtain ⟨rfl, rfl⟩ := hr
   have hS : (s.heap.push { cls := .type "set", dict := none, data := .set #[] 0 (.fresh 0 0 (!byTx w)) }).get? s.heap.objs.size = some { cls := .type "set", dict := none, data := .set #[] 0 (.fresh 0 0 (!byTx w)) } := Heap.get?_push_size _ rfl
   have hT : Shared.TypeIs { s with heap := s.heap.push { cls := .type "set", dict := none, data := .set #[] 0 (.fresh 0 0 (!byTx w)) } } (.ref s.heap.objs.size) "set" := ⟨_, hS, rfl⟩
   have hli := PySem.F.called_set.init.lookup
   have hbi := PySem.F.called_set.init.bind (.ref s.heap.objs.size)
   repeat (any_goals (first | assumption | wp_step))
   refine codeAny_mono (codeAny_call_builtin (R := wants (fun r s₂ => r = .none ∧ ∃ h' tk ks, s₂ = { s with heap := h', toks := tk } ∧ TxSet prog w h' s.heap.objs.size ks ∧ ks.length ≤ ts.length ∧ (∀ x, x ∈ ks ↔ x ∈ ts) ∧
    (∀ b o, b < s.heap.objs.size → s.heap.get? b = some o → h'.get? b = some o)) E) PySem.F.called_set.init.plain PySem.F.entry_set_init (check_set_init_1 hT ?_)) fun r₂ s₂ hr₂ => ?_
   · obtain ⟨ol, hol, hcl, nl, hdl⟩ := hl
     obtain ⟨ocls, odict, odata, oslots⟩ := ol
     simp only at hcl hdl
     subst hcl; subst hdl
     have hol' : (s.heap.push { cls := .type "set", dict := none, data := .set #[] 0 (.fresh 0 0 (!byTx w)) }).get? l = some { cls := .type "list", dict := odict, data := .seq items nl, slots := oslots } := Heap.get?_push_of_some _ hol
     have hsls := PySem.F.sub_list_set
     have hslf := PySem.F.sub_list_frozenset
     have hne : (Value.type "list" == Value.type "dict") = false := by decide
     have hl1 : (s.heap.push { cls := .type "set", dict := none, data := .set #[] 0 (.fresh 0 0 (!byTx w)) }).IsList l items := ⟨_, hol', rfl, nl, rfl⟩
     unfold Builtin.«set.__init__» noKeywords Builtin.Frozenset.updateFrom
     generalize hPI : pyIter = PI
     wp_walk
     subst hPI
     refine wpAny_pyIter_list hl1 ?_
     refine wpAny_bind (wpAny_runValue ?_)
     have hlS : l < s.heap.objs.size := Heap.lt_size hol
     have hh3 : A.in1.in1.in1.handled = none := by simp [hh]
     have hneI : l ≠ (s.heap.push { cls := .type "set", dict := none, data := .set #[] 0 (.fresh 0 0 (!byTx w)) }).objs.size := by
      rw [Heap.size_push]; exact Nat.ne_of_lt (Nat.lt_succ_of_lt hlS)
     have hSf : s.heap.objs.size ∉ [(s.heap.push { cls := .type "set", dict := none, data := .set #[] 0 (.fresh 0 0 (!byTx w)) }).objs.size, l] := by
      rw [Heap.size_push]; simp only [List.mem_cons, List.mem_singleton, List.not_mem_nil, or_false, not_or]
      exact ⟨Nat.ne_of_lt (Nat.lt_succ_self _), Nat.ne_of_gt hlS⟩
     have hval : ∀ (i : Nat) (v : Value), items[i]? = some v → ∃ x t, v = .str x t ∧ ts[i]? = some x := fun i v hv =>
      ziU hi i v (by rw [Array.getElem?_toList]; exact hv)
     have W := (Walks.list (prog := prog) (w := w) hh3 (s.heap.push { cls := .type "set", dict := none, data := .set #[] 0 (.fresh 0 0 (!byTx w)) }).objs.size l hneI items).toS
     rw [hsz] at W
     refine ziP ts W s.heap.objs.size hSf hval hb (ts.length - 0) 0 _ [] (by omega) (Nat.zero_le _)
      ⟨⟨_, Heap.get?_push_size _ rfl, rfl, rfl⟩, (hl1.push _)⟩ (zii (Heap.get?_push_of_some _ hS)) (Nat.le_refl _) (fun x => by simp) ?hR
     case hR =>
      intro s' ks hm hS' hlk hmk
      obtain ⟨h', g', d', tk', os'⟩ := s'
      have eg : g' = s.gens := hm.gens
      have ed : d' = s.drawn := hm.drawn
      have eo : os' = s.os := hm.os
      subst eg; subst ed; subst eo
      show wpAny _ _ _ _ _ _
      refine wpAny_pure ?_
      show wpAny _ _ (ret Value.none) _ _ _
      refine wpAny_pure ⟨rfl, h', tk', ks, rfl, hS', hlk, hmk, fun b o hb e => ?_⟩
      have hb1 : b ≠ s.heap.objs.size := Nat.ne_of_lt hb
      have hb2 : b ≠ (s.heap.push { cls := .type "set", dict := none, data := .set #[] 0 (.fresh 0 0 (!byTx w)) }).objs.size := by
       rw [Heap.size_push]; exact Nat.ne_of_lt (Nat.lt_succ_of_lt hb)
      exact hm.heap b o (by simp only [List.mem_cons, List.mem_singleton, List.not_mem_nil, or_false, not_or]; exact ⟨hb1, hb2⟩) (Heap.get?_push_of_some _ (Heap.get?_push_of_some _ e))
   · cases r₂ with
     | error e => exact hr₂
     | ok fl₂ =>
      cases fl₂ with
      | ret r =>
       obtain ⟨rfl, h', tk, ks, rfl, hS', hlk, hmk, hk'⟩ := hr₂
       repeat (any_goals (first | assumption | wp_step))
       exact h _ _ ks hS' hlk hmk hk'
      | _ => exact hr₂.elim
  | _ => exact hr.elim
end
theorem zic {M : Model} {A : Around} {E : Value → Shared → Prop} {s : Shared} {src : Source} {n : Nat} {Q : Nat → Shared → Prop} (hn : 0 < n) (h : ∀ i d', i < n → Q i { s with drawn := d' }) :
 wpAny M A (choose src n) Q E s := fun Γ p hΓ => by
 show Sem.wp M Γ (.choose src n .pure) _ _ p s
 rw [Sem.wp_choose]
 exact ⟨by omega, h _ _ (Nat.mod_lt _ hn)⟩
theorem zdu {α : Type} : ∀ {l : List α} {i : Nat} {x : α}, l[i]? = some x → (x :: l.eraseIdx i).Perm l
 | [], i, x, h => by simp at h
 | y :: l, 0, x, h => by simp at h; subst h; exact .refl _
 | y :: l, i + 1, x, h => by
  rw [List.getElem?_cons_succ] at h
  rw [List.eraseIdx_cons_succ]
  exact (List.Perm.swap _ _ _).trans ((zdu h).cons _)
theorem zhB {M : Model} {A : Around} {E : Value → Shared → Prop} {α : Type} : ∀ (n : Nat) (xs : List α) (s : Shared) {Q : List α → Shared → Prop}, xs.length ≤ n → (∀ ys d', ys.Perm xs → Q ys { s with drawn := d' }) →
 wpAny M A (drawOrder n xs) Q E s
 | 0, xs, s, Q, hn, h => by
  have : xs = [] := List.length_eq_zero_iff.mp (Nat.le_zero.mp hn)
  subst this
  exact wpAny_pure (h [] s.drawn (.refl _))
 | n + 1, [], s, Q, hn, h => wpAny_pure (h [] s.drawn (.refl _))
 | n + 1, x :: xs, s, Q, hn, h => by
  show wpAny M A (choose .order (x :: xs).length >>= _) Q E s
  refine wpAny_bind (zic (by simp) fun i d1 hi => ?_)
  have hx : (x :: xs)[i]? = some (x :: xs)[i] := List.getElem?_eq_getElem hi
  rw [hx]
  show wpAny M A (drawOrder n ((x :: xs).eraseIdx i) >>= _) Q E _
  have hl : ((x :: xs).eraseIdx i).length ≤ n := by
   rw [List.length_eraseIdx, if_pos hi]
   simp at hn ⊢
   omega
  refine wpAny_bind (zhB n _ _ hl fun ys d2 hp => wpAny_pure ?_)
  exact h _ d2 ((hp.cons _).trans (zdu hx))
theorem zjj {α : Type} (next : Nat → Nat) : ∀ (n k : Nat) (left : List α) (out : Array α), left.length ≤ n → ((pickOrder.go next n k left out).toList).Perm (out.toList ++ left)
 | 0, k, left, out, h => by
  have : left = [] := List.length_eq_zero_iff.mp (Nat.le_zero.mp h)
  subst this
  simp [pickOrder.go]
 | n + 1, k, left, out, h => by
  unfold pickOrder.go
  split
  · rename_i x hx
    have hlt : next k % left.length < left.length := (List.getElem?_eq_some_iff.mp hx).1
    refine (zjj next n (k + 1) _ _ ?_).trans ?_
    · rw [List.length_eraseIdx, if_pos hlt]; omega
    · rw [Array.toList_push, List.append_assoc]
      exact List.Perm.append_left _ (zdu hx)
  · rename_i hx
    cases left with
    | nil => simp
    | cons y l =>
     have : next k % (y :: l).length < (y :: l).length := Nat.mod_lt _ (by simp)
     rw [List.getElem?_eq_getElem this] at hx
     cases hx
theorem zfM {α : Type} (next : Nat → Nat) (xs : Array α) : ((pickOrder next xs).toList).Perm xs.toList := by
 have := zjj next xs.size 0 xs.toList #[] (by simp)
 simpa [pickOrder] using this
theorem zgL (a : Addr) : setDrawn a = (do
 let (es, _, t) ← setState a
 let byText ← setsByText
 return !byText && (!t.plain && decide (es.size > 1))) := rfl
theorem zcJ (a : Addr) (slot given epochThen : Nat) : setNext a slot given epochThen = (do
 let (es, epoch, t) ← setState a
 if ← setsByText then
  if epoch != epochThen then unsupported "set_iterator.__next__:elements-changed"
  return ((← setWalk a)[given]?).map fun e => (e.2, slot)
 if (!t.plain && decide (es.size > 1)) then unsupported "set_iterator.__next__:the-table-is-plain-no-more"
 (do if !t.led && !es.isEmpty then unsupported "set:maker-not-led" : Sem Unit)
 let i := SetTable.below t.place slot
 return match es[i]?, t.place[i]? with
  | some (_, x), some j => some (x, j + 1)
  | _, _ => none) := rfl
namespace FS
theorem entry_set_iter : entryFor table "set.__iter__" = some Builtin.«frozenset.__iter__» := entryFor_alias (id' := "frozenset.__iter__") (by kernel_rfl) rfl (by decide +kernel) (by kernel_rfl)
theorem slot_si_next : Slot "set_iterator" "__next__" "set_iterator.__next__" :=
 .of (owner := "set_iterator") (n := "__next__") (by rw [typeLookup_type, builtinLookup_eq_fast]; kernel_rfl) (by decide +kernel) (by decide +kernel) (by decide +kernel)
  (by first | exact .inl (by decide +kernel) | exact .inr (by decide +kernel)) (by rw [isSubtype_type]; kernel_rfl)
theorem entry_si_next : entryFor table "set_iterator.__next__" = some Builtin.«set_iterator.__next__» := entryFor_of_tree (by kernel_rfl)
theorem args_si_next (a : Value) : argsOk "set_iterator.__next__" ⟨[a], []⟩ := by unfold argsOk; kernel_rfl
theorem slot_si_iter : Slot "set_iterator" "__iter__" "set_iterator.__iter__" :=
 .of (owner := "set_iterator") (n := "__iter__") (by rw [typeLookup_type, builtinLookup_eq_fast]; kernel_rfl) (by decide +kernel) (by decide +kernel) (by decide +kernel)
  (by first | exact .inl (by decide +kernel) | exact .inr (by decide +kernel)) (by rw [isSubtype_type]; kernel_rfl)
theorem entry_si_iter : entryFor table "set_iterator.__iter__" = some Builtin.«dict_keyiterator.__iter__» :=
 entryFor_alias (id' := "dict_keyiterator.__iter__") (by kernel_rfl) rfl (by decide +kernel) (by kernel_rfl)
theorem args_si_iter (a : Value) : argsOk "set_iterator.__iter__" ⟨[a], []⟩ := by unfold argsOk; kernel_rfl
end FS
abbrev zcI (h : Heap) (I a : Addr) (first : Value) (i n ep : Nat) : Prop :=
 h.get? I = some { cls := .type "set_iterator", dict := none, data := .fields #[first, .int i 0, .ref a, .int n 0, .int ep 0] }
inductive SOrd (w : World) (a : Addr) (es : Array (Int × Value)) (ep : Nat) (t : SetTable) : (Nat → Value) → List Value → List (Addr × Obj) → Prop
 | drawn (T : Addr) (places : List Nat) (h0 : byTx w = false) (hp : places.Perm (List.range es.size)) (h2 : 1 < es.size) :
  SOrd w a es ep t (fun _ => .ref T) (places.filterMap fun p => (es[p]?).map (·.2)) [(T, { cls := .type "tuple", data := .seq (places.map fun (i : Nat) => rawInt i).toArray })]
 | text (h0 : byTx w = true) : SOrd w a es ep t (fun _ => rawInt 0) ((pickOrder (w.params.setOrder a ep) es).toList.map (·.2)) []
 | few (h0 : byTx w = false) (h2 : es.size ≤ 1) : SOrd w a es ep t (fun i => rawInt (if i = 0 then 0 else t.place.getD 0 0 + 1)) (es.toList.map (·.2)) []
theorem zkM (es : Array (Int × Value)) : ((List.range es.size).filterMap fun p => (es[p]?).map (·.2)) = es.toList.map (·.2) := by
 have := filterMap_getElem?_range es
 rw [← this, List.map_filterMap]
theorem SOrd.perm {w : World} {a : Addr} {es : Array (Int × Value)} {ep : Nat} {t : SetTable} {f : Nat → Value} {vs : List Value} {ob : List (Addr × Obj)} (h : SOrd w a es ep t f vs ob) : vs.Perm (es.toList.map (·.2)) := by
 cases h with
 | drawn T places h0 hp h2 => rw [← zkM]; exact hp.filterMap _
 | text h0 => exact (zfM _ _).map _
 | few h0 h2 => exact .refl _
section
variable {prog : Program} {w : World} {A : Around} {E : Value → Shared → Prop} {s : Shared}
theorem zbn {Q : Bool → Shared → Prop} (h : Q (byTx w) s) : wpAny (model prog w) A setsByText Q E s := by
 unfold setsByText
 exact wpAny_bind (wpAny_askSetting (wpAny_pure h))
theorem zjO {a : Addr} {es : Array (Int × Value)} {ep : Nat} {t : SetTable} {Q : Value → Shared → Prop} (ho : s.heap.get? a = some { cls := .type "set", dict := none, data := .set es ep t })
 (hf : t.fits es.size = true) (hp : es.size = 0 ∨ t.plain = false) (hz : es.size ≤ sizeLine)
 (hQ : ∀ h' d' I f vs ob, SOrd w a es ep t f vs ob → s.heap.objs.size ≤ I → zcI h' I a (f 0) 0 es.size ep → (∀ p ∈ ob, h'.get? p.1 = some p.2 ∧ s.heap.objs.size ≤ p.1 ∧ p.1 ≠ I) → (∀ b o, s.heap.get? b = some o → h'.get? b = some o) →
  I < h'.objs.size → (∀ p ∈ ob, p.1 < h'.objs.size) → Q (.ref I) { s with heap := h', drawn := d' }) :
 wpAny (model prog w) A (pyIter (.ref a)) Q E s := by
 have hT : s.TypeIs (.ref a) "set" := ⟨_, ho, rfl⟩
 refine wpAny_pyIter_slot hT PySem.F.slot_set_iter (wpAny_call_entry PySem.F.slot_set_iter hT FS.entry_set_iter ?_ (PySem.F.args_set_iter_1 _))
 unfold Builtin.«frozenset.__iter__» Builtin.Frozenset.slot0 Builtin.Frozenset.sizeOf
 refine wpAny_bind (wpAny_bind (m := slotArgs _ _ _) (wpAny_pure (wpAny_pure ?_)))
 refine wpAny_bind (wpAny_bind (wpAny_setEntries_of ho rfl hf (wpAny_pure ?_)))
 dsimp only
 rw [zgL]
 refine wpAny_bind (wpAny_bind (wpAny_setState_of ho rfl hf (wpAny_bind (zbn (wpAny_pure ?_)))))
 by_cases hd : (!byTx w && (!t.plain && decide (es.size > 1))) = true
 · rw [if_pos hd]
   have hd' : byTx w = false ∧ 1 < es.size := by
    simp only [Bool.and_eq_true, Bool.not_eq_true', decide_eq_true_eq] at hd
    exact ⟨hd.1, hd.2.2⟩
   refine wpAny_bind (zhB _ _ _ (by simp) fun ys d' hy => ?_)
   refine wpAny_bind (wpAny_newTuple ?_ (by rw [List.length_map, hy.length_eq, List.length_range]; exact hz))
   have ho2 : (s.heap.push { cls := .type "tuple", data := .seq (ys.map fun (i : Nat) => rawInt i).toArray }).get? a = some { cls := .type "set", dict := none, data := .set es ep t } := Heap.get?_push_of_some _ ho
   refine wpAny_bind (wpAny_setEpoch_of (s := { s with drawn := d', heap := s.heap.push { cls := .type "tuple", data := .seq (ys.map fun (i : Nat) => rawInt i).toArray } }) ho2 rfl hf ?_)
   refine wpAny_bind (wpAny_newObj_type (wpAny_pure ⟨_, rfl, "set_iterator", _, ⟨_, Heap.get?_push_size _ rfl, rfl⟩, FS.slot_si_next.lookup, ?_⟩))
   refine hQ _ d' _ _ _ _ (.drawn s.heap.objs.size ys hd'.1 hy hd'.2) ?_ (Heap.get?_push_size _ rfl) (fun p hp => ?_) (fun b o e => Heap.get?_push_of_some _ (Heap.get?_push_of_some _ e)) ?_ (fun p hp => ?_)
   · rw [Heap.size_push]; exact Nat.le_succ _
   · rw [List.mem_singleton] at hp
     subst hp
     exact ⟨Heap.get?_push_of_some _ (Heap.get?_push_size _ rfl), Nat.le_refl _, by rw [Heap.size_push]; exact Nat.ne_of_lt (Nat.lt_succ_self _)⟩
   · simp only [Heap.size_push]; omega
   · rw [List.mem_singleton] at hp
     subst hp
     show s.heap.objs.size < _
     simp only [Heap.size_push]; omega
 · rw [if_neg hd]
   refine wpAny_bind (wpAny_pure ?_)
   refine wpAny_bind (wpAny_setEpoch_of ho rfl hf ?_)
   refine wpAny_bind (wpAny_newObj_type (wpAny_pure ⟨_, rfl, "set_iterator", _, ⟨_, Heap.get?_push_size _ rfl, rfl⟩, FS.slot_si_next.lookup, ?_⟩))
   cases hb : byTx w with
   | true =>
    exact hQ _ s.drawn _ _ _ _ (.text hb) (Nat.le_refl _) (Heap.get?_push_size _ rfl) (fun p hp => nomatch hp) (fun b o e => Heap.get?_push_of_some _ e) (by rw [Heap.size_push]; exact Nat.lt_succ_self _) (fun p hp => nomatch hp)
   | false =>
    refine hQ _ s.drawn _ _ _ _ (.few hb ?_) (Nat.le_refl _) (Heap.get?_push_size _ rfl) (fun p hp => nomatch hp) (fun b o e => Heap.get?_push_of_some _ e) (by rw [Heap.size_push]; exact Nat.lt_succ_self _) (fun p hp => nomatch hp)
    rcases hp with h | h
    · omega
    · simp [hb, h] at hd
      exact hd
end
section
variable {prog : Program} {w : World} {A : Around} {E : Value → Shared → Prop} {s : Shared}
def SSt (w : World) (I a : Addr) (es : Array (Int × Value)) (ep : Nat) (t : SetTable) (f : Nat → Value) (ob : List (Addr × Obj)) (i : Nat) (h : Heap) : Prop :=
 zcI h I a (f i) i es.size ep ∧ h.get? a = some { cls := .type "set", dict := none, data := .set es ep t } ∧ ∀ p ∈ ob, h.get? p.1 = some p.2
theorem zgt (p : Nat) : SetTable.below #[p] 0 = 0 ∧ SetTable.below #[p] (p + 1) = 1 := by
 constructor
 · simp [SetTable.below, SetTable.below.go]
 · simp [SetTable.below, SetTable.below.go]
theorem zcc {h : Heap} {I a : Addr} {first x : Value} {i n ep k : Nat} (hi : zcI h I a first i n ep) (f : Array Value → Array Value) :
 (h.update I (Obj.mapFields f)).get? I = some { cls := .type "set_iterator", dict := none, data := .fields (f #[first, .int i 0, .ref a, .int n 0, .int ep 0]) } := by
 have := Heap.get?_update_self (Obj.mapFields f) hi rfl
 exact this
set_option maxHeartbeats 1000000 in
theorem zjw {I a : Addr} {es : Array (Int × Value)} {ep : Nat} {t : SetTable} {f : Nat → Value} {vs : List Value} {ob : List (Addr × Obj)} {i : Nat} {v : Value} {Q : Option Value → Shared → Prop}
 (hO : SOrd w a es ep t f vs ob) (hf : t.fits es.size = true) (hl : t.led = !byTx w) (hne : a ≠ I) (hob : ∀ p ∈ ob, p.1 ≠ I) (hS : SSt w I a es ep t f ob i s.heap) (hv : vs[i]? = some v)
 (hQ : ∀ h', SSt w I a es ep t f ob (i + 1) h' → Heap.SameBut I s.heap h' → Q (some v) { s with heap := h' }) :
 wpAny (model prog w) A (pyNext (.ref I)) Q E s := by
 obtain ⟨hi, ha, hbs⟩ := hS
 have hT : s.TypeIs (.ref I) "set_iterator" := ⟨_, hi, rfl⟩
 unfold pyNext
 refine wpAny_bind (wpAny_attempt (wpAny_callSpecial?_slot (name := Str.ofString "__next__") hT FS.slot_si_next
  (wpAny_call_entry FS.slot_si_next hT FS.entry_si_next ?_ (FS.args_si_next _))))
 unfold Builtin.«set_iterator.__next__»
 refine wpAny_bind (m := slotArgs _ _ _) (wpAny_pure ?_)
 dsimp only
 refine wpAny_bind (wpAny_fieldsOf hi rfl ?_)
 dsimp only
 refine wpAny_bind (wpAny_setEntries_of ha rfl hf ?_)
 rw [if_neg (by simp)]
 have hil : i < vs.length := (List.getElem?_eq_some_iff.mp hv).1
 have fin : ∀ (first : Value) (h' : Heap), Heap.SameBut I s.heap h' → zcI h' I a (f (i + 1)) (i + 1) es.size ep → Q (some v) { s with heap := h' } := fun first h' sb hi' =>
  hQ h' ⟨hi', by rw [sb.2 a hne]; exact ha, fun p hp => by rw [sb.2 p.1 (hob p hp)]; exact hbs p hp⟩ sb
 cases hO with
 | drawn T places h0 hp h2 =>
  dsimp only
  have hTt := hbs _ (List.mem_singleton.mpr rfl)
  refine wpAny_bind (wpAny_seqItems hTt rfl ?_)
  have hpl : places.length = es.size := by rw [hp.length_eq, List.length_range]
  have hall : ∀ p ∈ places, p < es.size := fun p hm => by simpa using hp.mem_iff.mp hm
  have hfm : ∀ (l : List Nat), (∀ p ∈ l, p < es.size) → (l.filterMap fun p => (es[p]?).map (·.2)) = l.map fun p => (es.getD p (0, .none)).2 := by
   intro l
   induction l with
   | nil => intro _; rfl
   | cons q l ih =>
    intro hq
    have hq0 : q < es.size := hq q (by simp)
    have h1 : es[q]? = some es[q] := Array.getElem?_eq_getElem hq0
    rw [List.filterMap_cons, h1, List.map_cons, ← ih fun p hm => hq p (by simp [hm])]
    simp [Array.getD, hq0]
  rw [hfm places hall, List.getElem?_map] at hv
  cases hpi : places[i]? with
  | none => rw [hpi] at hv; cases hv
  | some pl =>
   rw [hpi] at hv
   have hlt : pl < es.size := hall pl (List.mem_of_getElem? hpi)
   have hvv : v = es[pl].2 := by
    have : (es.getD pl (0, .none)).2 = v := Option.some.inj hv
    rw [← this]
    simp [Array.getD, hlt]
   have hpi' : (places.map fun (i : Nat) => rawInt i).toArray[i]? = some (.int pl 0) := by
    rw [List.getElem?_toArray, List.getElem?_map, hpi]; rfl
   show wpAny _ _ (match (places.map fun (i : Nat) => rawInt i).toArray[(i : Int).toNat]? with | some (.int place _) => _ | some _ => _ | none => _) _ _ _
   rw [Int.toNat_natCast, hpi']
   dsimp only
   unfold setNextDrawn
   refine wpAny_bind (wpAny_bind (wpAny_setState_of ha rfl hf ?_))
   dsimp only
   rw [if_neg (by simp)]
   rw [Int.toNat_natCast, Array.getElem?_eq_getElem hlt]
   dsimp only
   refine wpAny_pure ?_
   refine wpAny_bind (wpAny_setField hi rfl (by simp) ?_)
   refine wpAny_pure ⟨_, rfl, wpAny_pure ?_⟩
   rw [← hvv]
   exact fin v _ (Heap.SameBut.update ..) (zcc (x := v) (k := 0) hi _)
 | text h0 =>
  show wpAny _ _ (setNext a 0 (i : Int).toNat (ep : Int).toNat >>= _) _ _ _
  rw [zcJ, Int.toNat_natCast, Int.toNat_natCast]
  refine wpAny_bind (wpAny_bind (wpAny_setState_of ha rfl hf (wpAny_bind (zbn ?_))))
  rw [if_pos h0]
  dsimp only
  rw [if_neg (by simp)]
  unfold setWalk
  refine wpAny_bind (wpAny_bind (wpAny_setState_of ha rfl hf (wpAny_bind (zbn ?_))))
  rw [if_pos h0]
  refine wpAny_bind (wpAny_askSetting (wpAny_pure (wpAny_pure ?_)))
  rw [List.getElem?_map, Array.getElem?_toList] at hv
  cases hpk : (pickOrder (w.params.setOrder a ep) es)[i]? with
  | none => rw [hpk] at hv; cases hv
  | some e =>
   rw [hpk] at hv
   show wpAny _ _ (match ((pickOrder (w.params.setOrder a ep) es)[i]?).map fun e => (e.2, 0) with | some (x, next) => _ | none => _) _ _ _
   rw [hpk]
   have hvv : e.2 = v := Option.some.inj hv
   dsimp only [Option.map]
   refine wpAny_bind (wpAny_setField hi rfl (by simp) ?_)
   have hi1 := zcc (x := v) (k := 0) hi (·.setIfInBounds 0 (rawInt (0 : Nat)))
   refine wpAny_bind (wpAny_setField (s := { s with heap := s.heap.update I (Obj.mapFields (·.setIfInBounds 0 (rawInt (0 : Nat)))) }) hi1 rfl (by simp) ?_)
   refine wpAny_pure ⟨_, rfl, wpAny_pure ?_⟩
   rw [hvv]
   refine fin v _ ((Heap.SameBut.update ..).trans (Heap.SameBut.update ..)) ?_
   exact zcc (x := v) (k := 0) (i := i) (first := rawInt 0) (n := es.size) (ep := ep) (a := a) (by exact hi1) _
 | few h0 h2 =>
  have hi0 : i = 0 := by rw [List.length_map, Array.length_toList] at hil; omega
  subst hi0
  have hsz : es.size = 1 := by rw [List.length_map, Array.length_toList] at hil; omega
  show wpAny _ _ (setNext a 0 (0 : Int).toNat (ep : Int).toNat >>= _) _ _ _
  rw [zcJ, Int.toNat_natCast]
  refine wpAny_bind (wpAny_bind (wpAny_setState_of ha rfl hf (wpAny_bind (zbn ?_))))
  rw [if_neg (by rw [h0]; simp)]
  dsimp only
  rw [if_neg (by simp [hsz])]
  rw [hl, h0]
  refine wpAny_bind (m := ite _ _ _) ?_
  rw [if_neg (by simp)]
  refine wpAny_pure ?_
  obtain ⟨p, hpp⟩ : ∃ p, t.place = #[p] := by
   have h1 : t.place.size = 1 := by
    simp only [SetTable.fits, Bool.and_eq_true, beq_iff_eq] at hf
    rw [hf.1, hsz]
   generalize t.place = tp at h1
   obtain ⟨pl⟩ := tp
   cases pl with
   | nil => simp at h1
   | cons p r => cases r with
    | nil => exact ⟨p, rfl⟩
    | cons q r => simp at h1
  obtain ⟨⟨eh, ev⟩, hes⟩ : ∃ e, es = #[e] := by
   obtain ⟨el⟩ := es
   cases el with
   | nil => simp at hsz
   | cons p r => cases r with
    | nil => exact ⟨p, rfl⟩
    | cons q r => simp at hsz
  subst hes
  have hvv : ev = v := by simpa using hv
  subst hvv
  rw [hpp, (zgt p).1]
  refine wpAny_pure ?_
  show wpAny _ _ (setField (.ref I) 0 (rawInt ((p + 1 : Nat) : Int)) >>= _) _ _ _
  refine wpAny_bind (wpAny_setField hi rfl (by simp) ?_)
  have hi1 := zcc (x := ev) (k := 0) hi (·.setIfInBounds 0 (rawInt ((p + 1 : Nat) : Int)))
  refine wpAny_bind (wpAny_setField (s := { s with heap := s.heap.update I (Obj.mapFields (·.setIfInBounds 0 (rawInt ((p + 1 : Nat) : Int)))) }) hi1 rfl (by simp) ?_)
  refine wpAny_pure ⟨_, rfl, wpAny_pure ?_⟩
  refine fin ev _ ((Heap.SameBut.update ..).trans (Heap.SameBut.update ..)) ?_
  have := zcc (x := ev) (k := 0) (i := 0) (first := rawInt ((p + 1 : Nat) : Int)) (n := 1) (ep := ep) (a := a) (by exact hi1) (·.setIfInBounds 1 (rawInt ((0 : Nat) + 1 : Int)))
  rw [hpp]
  exact this
end
section
variable {prog : Program} {w : World} {A : Around} {E : Value → Shared → Prop} {s : Shared}
theorem zeM {h1 : Heap} {I : Addr} {P : Fin → Shared → Prop} {Q : Option Value → Shared → Prop} (hh : A.handled = none) (sb : Heap.SameBut I s.heap h1) (hQ : ∀ h', Heap.ExtBut I s.heap h' → Q none { s with heap := h' }) :
 wpAny (model prog w) A.in1 (newExc (.type "StopIteration") [] >>= fun x => raiseNew x) P
  (fun e s' => wpAny (model prog w) A (do if ← isInstance e (.type "StopIteration") then pure none else throw e) Q E s') { s with heap := h1 } := by
 refine wpAny_bind ?_
 simp only [newExc, newTuple]
 refine wpAny_bind (wpAny_newObj_type ?_ (by size_fits))
 refine wpAny_bind (m := firstArgMember _ _) (wpAny_of_eq (a := Value.none) (by first | rfl | (simp only [firstArgMember]; rfl)) ?_)
 refine wpAny_newObj_type ?_ (by size_fits)
 simp only [raiseNew]
 refine wpAny_bind (wpAny_handled ?_)
 rw [show A.in1.handled = none from hh]
 refine wpAny_bind (wpAny_pure (wpAny_throw ?_))
 refine wpAny_bind (wpAny_isInstance (T := "StopIteration") (b := true) ⟨_, Heap.get?_push_size _ rfl, rfl⟩ isSubtype_stop ?_)
 exact wpAny_pure (hQ _ ((sb.extBut.push _).push _))
set_option maxHeartbeats 1000000 in
theorem zkP {I a : Addr} {es : Array (Int × Value)} {ep : Nat} {t : SetTable} {f : Nat → Value} {vs : List Value} {ob : List (Addr × Obj)} {Q : Option Value → Shared → Prop} (hh : A.handled = none)
 (hO : SOrd w a es ep t f vs ob) (hf : t.fits es.size = true) (hl : t.led = !byTx w) (hne : a ≠ I) (hob : ∀ p ∈ ob, p.1 ≠ I) (hS : SSt w I a es ep t f ob es.size s.heap)
 (hQ : ∀ h', Heap.ExtBut I s.heap h' → Q none { s with heap := h' }) :
 wpAny (model prog w) A (pyNext (.ref I)) Q E s := by
 obtain ⟨hi, ha, hbs⟩ := hS
 have hT : s.TypeIs (.ref I) "set_iterator" := ⟨_, hi, rfl⟩
 unfold pyNext
 refine wpAny_bind (wpAny_attempt (wpAny_callSpecial?_slot (name := Str.ofString "__next__") hT FS.slot_si_next
  (wpAny_call_entry FS.slot_si_next hT FS.entry_si_next ?_ (FS.args_si_next _))))
 unfold Builtin.«set_iterator.__next__»
 refine wpAny_bind (m := slotArgs _ _ _) (wpAny_pure ?_)
 dsimp only
 refine wpAny_bind (wpAny_fieldsOf hi rfl ?_)
 dsimp only
 refine wpAny_bind (wpAny_setEntries_of ha rfl hf ?_)
 rw [if_neg (by simp)]
 cases hO with
 | drawn T places h0 hp h2 =>
  dsimp only
  have hTt := hbs _ (List.mem_singleton.mpr rfl)
  refine wpAny_bind (wpAny_seqItems hTt rfl ?_)
  have hpl : places.length = es.size := by rw [hp.length_eq, List.length_range]
  have hpi' : (places.map fun (i : Nat) => rawInt i).toArray[es.size]? = none := by
   rw [List.getElem?_toArray, List.getElem?_map, List.getElem?_eq_none (by omega)]; rfl
  show wpAny _ _ (match (places.map fun (i : Nat) => rawInt i).toArray[(es.size : Int).toNat]? with | some (.int place _) => _ | some _ => _ | none => _) _ _ _
  rw [Int.toNat_natCast, hpi']
  dsimp only
  refine wpAny_bind (wpAny_setField hi rfl (by simp) ?_)
  have hi1 := zcc (x := .none) (k := 0) hi (·.setIfInBounds 0 (rawInt 0))
  refine wpAny_bind (wpAny_setField (s := { s with heap := s.heap.update I (Obj.mapFields (·.setIfInBounds 0 (rawInt 0))) }) hi1 rfl (by simp) ?_)
  exact zeM (s := s) (I := I) hh ((Heap.SameBut.update ..).trans (Heap.SameBut.update ..)) hQ
 | text h0 =>
  show wpAny _ _ (setNext a 0 (es.size : Int).toNat (ep : Int).toNat >>= _) _ _ _
  rw [zcJ, Int.toNat_natCast, Int.toNat_natCast]
  refine wpAny_bind (wpAny_bind (wpAny_setState_of ha rfl hf (wpAny_bind (zbn ?_))))
  rw [if_pos h0]
  dsimp only
  rw [if_neg (by simp)]
  unfold setWalk
  refine wpAny_bind (wpAny_bind (wpAny_setState_of ha rfl hf (wpAny_bind (zbn ?_))))
  rw [if_pos h0]
  refine wpAny_bind (wpAny_askSetting (wpAny_pure (wpAny_pure ?_)))
  have hpk : (pickOrder (w.params.setOrder a ep) es)[es.size]? = none := by
   have h1 := (zfM (w.params.setOrder a ep) es).length_eq
   rw [Array.length_toList, Array.length_toList] at h1
   exact Array.getElem?_eq_none (by omega)
  show wpAny _ _ (match ((pickOrder (w.params.setOrder a ep) es)[es.size]?).map fun e => (e.2, 0) with | some (x, next) => _ | none => _) _ _ _
  rw [hpk]
  dsimp only [Option.map]
  refine wpAny_bind (wpAny_setField hi rfl (by simp) ?_)
  exact zeM (s := s) (I := I) hh (Heap.SameBut.update ..) hQ
 | few h0 h2 =>
  show wpAny _ _ (setNext a (if es.size = 0 then (0 : Int) else (t.place.getD 0 0 : Int) + 1).toNat (es.size : Int).toNat (ep : Int).toNat >>= _) _ _ _
  rw [zcJ, Int.toNat_natCast]
  refine wpAny_bind (wpAny_bind (wpAny_setState_of ha rfl hf (wpAny_bind (zbn ?_))))
  rw [if_neg (by rw [h0]; simp)]
  dsimp only
  rw [if_neg (by simp; intro _; omega)]
  rw [hl, h0]
  refine wpAny_bind (m := ite _ _ _) ?_
  rw [if_neg (by simp)]
  refine wpAny_pure ?_
  have hps : t.place.size = es.size := by
   simp only [SetTable.fits, Bool.and_eq_true, beq_iff_eq] at hf
   exact hf.1
  have hnone : es[SetTable.below t.place (if es.size = 0 then (0 : Int) else (t.place.getD 0 0 : Int) + 1).toNat]? = none := by
   generalize t.place = tp at hps
   obtain ⟨pl⟩ := tp
   cases pl with
   | nil =>
    have : es.size = 0 := by simpa using hps.symm
    exact Array.getElem?_eq_none (by omega)
   | cons p r =>
    cases r with
    | nil =>
     have h1 : es.size = 1 := by simpa using hps.symm
     rw [if_neg (by omega)]
     have : ((([p].toArray).getD 0 0 : Nat) : Int) + 1 = ((p + 1 : Nat) : Int) := rfl
     rw [this, Int.toNat_natCast, (zgt p).2]
     exact Array.getElem?_eq_none (by omega)
    | cons q r =>
     have : es.size = r.length + 2 := by simpa using hps.symm
     omega
  rw [hnone]
  refine wpAny_pure ?_
  show wpAny _ _ (setField (.ref I) 2 .none >>= _) _ _ _
  refine wpAny_bind (wpAny_setField hi rfl (by simp) ?_)
  exact zeM (s := s) (I := I) hh (Heap.SameBut.update ..) hQ
theorem zi4 {I a : Addr} {first : Value} {i n ep : Nat} {Q : Value → Shared → Prop} (hi : zcI s.heap I a first i n ep) (h : Q (.ref I) s) : wpAny (model prog w) A (pyIter (.ref I)) Q E s := by
 have hT : s.TypeIs (.ref I) "set_iterator" := ⟨_, hi, rfl⟩
 refine wpAny_pyIter_slot hT FS.slot_si_iter (wpAny_call_entry FS.slot_si_iter hT FS.entry_si_iter ?_ (FS.args_si_iter _))
 show wpAny _ _ (ret (.ref I)) _ _ s
 exact wpAny_pure ⟨_, rfl, "set_iterator", _, hT, FS.slot_si_next.lookup, h⟩
end
theorem zie {prog : Program} {w : World} {A : Around} {I a : Addr} {es : Array (Int × Value)} {ep : Nat} {t : SetTable} {f : Nat → Value} {vs : List Value} {ob : List (Addr × Obj)} (hh : A.handled = none)
 (hO : SOrd w a es ep t f vs ob) (hf : t.fits es.size = true) (hl : t.led = !byTx w) (hne : a ≠ I) (hob : ∀ p ∈ ob, p.1 ≠ I) :
 Walks prog w A I (I :: a :: ob.map (·.1)) [I] es.size (fun i v => vs[i]? = some v) (SSt w I a es ep t f ob) where
 sub := fun b hb => by simp at hb; simp [hb]
 frame := fun i h h' st hk => ⟨hk I (by simp) _ st.1, hk a (by simp) _ st.2.1, fun p hp => hk p.1 (by simp; exact .inr (.inr ⟨p.2, hp⟩)) _ (st.2.2 p hp)⟩
 item := fun i s Q E hi st hQ => by
  have hlen : vs.length = es.size := by rw [hO.perm.length_eq, List.length_map, Array.length_toList]
  refine zjw hO hf hl hne hob st (v := vs[i]'(by omega)) (List.getElem?_eq_getElem (by omega)) fun h' st' sb => ?_
  exact hQ _ h' s.toks (List.getElem?_eq_getElem (by omega)) st' fun b o hb e => sb.extBut b o (fun h => hb (by simp [h])) e
 done := fun s Q E st hQ => zkP hh hO hf hl hne hob st fun h' he' => hQ h' s.toks fun b o hb e => he' b o (fun h => hb (by simp [h])) e
 self := fun _ _ _ _ st hQ => zi4 st.1 hQ
namespace FS
theorem set_len : typeLookup (.type "set") "__len__" = pure (some (.builtin "set.__len__")) := by rw [typeLookup_type, builtinLookup_eq_fast]; kernel_rfl
theorem split_set_len : splitId "set.__len__" = some ("set", "__len__") := by decide +kernel
end FS
section
variable {prog : Program} {w : World} {A : Around} {E : Value → Shared → Prop} {s : Shared}
theorem zjS {a : Addr} {Q : Bool → Shared → Prop} (hT : s.TypeIs (.ref a) "set") (h : Q false s) : wpAny (model prog w) A (Builtin.List.listLengthHint (.ref a)) Q E s := by
 unfold Builtin.List.listLengthHint
 refine wpAny_bind (wpAny_specialOf hT FS.set_len ?_)
 dsimp only
 generalize hid : ("set.__len__" : String) = id0
 rw [show splitId id0 = some ("set", "__len__") from by subst hid; exact FS.split_set_len]
 subst hid
 dsimp only
 refine wpAny_bind (wpAny_isInstance (b := true) hT sub_set_self ?_)
 simp only [Bool.not_true, Bool.false_eq_true, if_false]
 refine wpAny_bind (wpAny_typeOf hT (wpAny_pure h))
set_option maxHeartbeats 1000000 in
theorem zgg {a : Addr} {ks : List Str} {Q : List Value → Shared → Prop} (hh : A.handled = none) (T : TxSet prog w s.heap a ks)
 (hQ : ∀ h' d' tk vs js, StrsAre vs js → js.Perm ks → s.heap.objs.size < h'.objs.size → (∀ b o, s.heap.get? b = some o → h'.get? b = some o) → Q vs { s with heap := h', drawn := d', toks := tk }) :
 wpAny (model prog w) A (collect (.ref a)) Q E s := by
 obtain ⟨⟨es, ep, t, ho, hel, hks, hf, hled, hpl⟩, hnd, hfew⟩ := T
 have hsz : es.size = ks.length := by rw [← zbU hks, List.length_map, Array.length_toList]
 have haS : a < s.heap.objs.size := Heap.lt_size ho
 unfold collect
 refine wpAny_bind (wpAny_runValue (codeAny_builtin PySem.F.entry_proto_collect ?_))
 rw [Around.under_plainId PySem.F.plain_proto_collect _]
 show wpAny _ A.in1 (newList [] >>= fun l => again (.builtin "list.__iadd__" ⟨[l, .ref a], []⟩)) _ _ s
 refine wpAny_bind (wpAny_newObj_type ?_)
 refine wpAny_pure ⟨plainId_quiet PySem.F.plain_list_iadd _, codeAny_builtin PySem.F.entry_list_iadd ?_⟩
 rw [Around.under_plainId PySem.F.plain_list_iadd _]
 generalize hh1 : s.heap.push { cls := .type "list", data := .seq ([] : List Value).toArray } = h1
 have hk1 : ∀ b o, s.heap.get? b = some o → h1.get? b = some o := fun b o e => by rw [← hh1]; exact Heap.get?_push_of_some _ e
 have hS1 : h1.get? s.heap.objs.size = some { cls := .type "list", data := .seq ([] : List Value).toArray } := by rw [← hh1]; exact Heap.get?_push_size _ rfl
 have hz1 : s.heap.objs.size < h1.objs.size := Heap.lt_size hS1
 show wpAny _ A.in1 (Builtin.List.listExtendWith (.ref s.heap.objs.size) (.ref a) (.ref s.heap.objs.size)) _ _ { s with heap := h1 }
 unfold Builtin.List.listExtendWith
 have hT1 : Shared.TypeIs { s with heap := h1 } (.ref a) "set" := ⟨_, hk1 _ _ ho, rfl⟩
 refine wpAny_bind (wpAny_typeOf hT1 ?_)
 have e1 : Builtin.List.listSameRef (.ref s.heap.objs.size) (.ref a) = false := by
  unfold Builtin.List.listSameRef
  exact beq_eq_false_iff_ne.mpr (Ne.symm (Nat.ne_of_lt haS))
 rw [if_neg (by rw [e1]; decide)]
 refine wpAny_bind (zjO (s := { s with heap := h1 }) (hk1 _ _ ho) hf hpl (by rw [hsz]; exact fits_of_scanBound hfew) fun h2 d2 I f vs ob hO hI hi hob hk2 hI2 hob2 => ?_)
 refine wpAny_bind (wpAny_holding (zjS (s := { s with heap := h2, drawn := d2 }) ⟨_, hk2 _ _ (hk1 _ _ ho), rfl⟩ ?_))
 rw [if_pos (by decide)]
 refine wpAny_bind (wpAny_rule ?_)
 have hS2 : h2.get? s.heap.objs.size = some { cls := .type "list", data := .seq ([] : List Value).toArray } := hk2 _ _ hS1
 refine wpAny_bind ?_
 show wpAny _ A.in1 (updateSeq s.heap.objs.size (·.push .none) >>= fun _ => updateSeq s.heap.objs.size (·.pop)) _ _ { s with heap := h2, drawn := d2 }
 refine wpAny_bind (wpAny_updateSeq hS2 rfl ?_)
 have hS3 := Heap.get?_update_self (Obj.mapSeq (·.push Value.none)) hS2 rfl
 refine wpAny_updateSeq hS3 rfl ?_
 have hS4 := Heap.get?_update_self (Obj.mapSeq (·.pop)) hS3 rfl
 have oth : ∀ b o, b ≠ s.heap.objs.size → h2.get? b = some o → ((h2.update s.heap.objs.size (Obj.mapSeq (·.push Value.none))).update s.heap.objs.size (Obj.mapSeq (·.pop))).get? b = some o :=
  fun b o hb e => (Heap.get?_update_other _ _ (Ne.symm hb)).trans ((Heap.get?_update_other _ _ (Ne.symm hb)).trans e)
 have hIne : I ≠ s.heap.objs.size := Ne.symm (Nat.ne_of_lt (Nat.lt_of_lt_of_le hz1 hI))
 have hane : a ≠ I := Nat.ne_of_lt (Nat.lt_of_lt_of_le haS (Nat.le_trans (Nat.le_of_lt hz1) hI))
 have hobne : ∀ p ∈ ob, p.1 ≠ s.heap.objs.size := fun p hp => Ne.symm (Nat.ne_of_lt (Nat.lt_of_lt_of_le hz1 (hob p hp).2.1))
 have W := (zie (prog := prog) (A := A.in1) (by simpa using hh) hO hf hled hane (fun p hp => (hob p hp).2.2)).toS
 have hlen : vs.length = es.size := by rw [hO.perm.length_eq, List.length_map, Array.length_toList]
 obtain ⟨js, hjs, hjp⟩ := zcv hO.perm hks
 refine wpAny_pure ⟨plainId_quiet PySem.F.plain_extend_loop _, codeAny_extend_loopS W (by rw [hsz]; exact fits_of_scanBound hfew) s.heap.objs.size ?_ _ es.size 0 _ _ _ rfl (Nat.zero_le _)
  ⟨oth _ _ hIne hi, oth _ _ (Nat.ne_of_lt haS) (hk2 _ _ (hk1 _ _ ho)), fun p hp => oth _ _ (hobne p hp) (hob p hp).1⟩ hS4 (ItemsOf.nil _) fun s' acc' c' hm hS' hacc => ?_⟩
 · intro hmem
   rw [List.mem_cons, List.mem_cons, List.mem_map] at hmem
   rcases hmem with h | h | ⟨p, hp, h⟩
   · exact hIne h.symm
   · exact Nat.ne_of_lt haS h.symm
   · exact hobne p hp h
 · show wpAny _ A (load s.heap.objs.size >>= _) _ _ s'
   refine wpAny_bind (wpAny_load hS' ?_)
   have hav : acc'.toList = vs := by
    apply List.ext_getElem?
    intro j
    by_cases hj : j < es.size
    · have hj' : j < acc'.size := by rw [hacc.1]; exact hj
      have h1 : acc'.toList[j]? = some acc'[j] := by rw [Array.getElem?_toList]; exact Array.getElem?_eq_getElem hj'
      rw [h1]
      exact (hacc.2 j _ (Array.getElem?_eq_getElem hj')).symm
    · rw [List.getElem?_eq_none (by rw [Array.length_toList, hacc.1]; omega), List.getElem?_eq_none (by omega)]
   obtain ⟨h', g', d', tk', os'⟩ := s'
   have eg : g' = s.gens := hm.gens
   have ed : d' = d2 := hm.drawn
   have eo : os' = s.os := hm.os
   subst eg; subst ed; subst eo
   refine wpAny_pure ?_
   rw [hav]
   refine hQ h' d' tk' vs js hjs hjp (Heap.lt_size hS') fun b o e => ?_
   have hb : b < s.heap.objs.size := Heap.lt_size e
   refine hm.heap b o ?_ (oth b o (Nat.ne_of_lt hb) (hk2 _ _ (hk1 _ _ e)))
   have h0 : h1.objs.size ≤ I := hI
   simp only [List.mem_cons, List.not_mem_nil, or_false, not_or]
   exact ⟨Nat.ne_of_lt hb, Nat.ne_of_lt (Nat.lt_of_lt_of_le hb (Nat.le_trans (Nat.le_of_lt hz1) hI))⟩
end
section
variable {prog : Program} {w : World} {A : Around} {E : Value → Shared → Prop} {s : Shared}
theorem zgJ {a : Addr} {ks : List Str} {Q : Value → Shared → Prop} (hh : A.handled = none) (T : TxSet prog w s.heap a ks) (h64 : ks.length < 64)
 (h : ∀ (p : Addr) (h' : Heap) (d' : Drawn) (tk : Nat) (out : Array Value) (ms : List Str) (e : Nat), StrsAre out.toList ms → ms.Perm ks → sortedS ms = true → s.heap.objs.size ≤ p → h'.get? p = some (seqObj "list" out e) →
  (∀ b o, s.heap.get? b = some o → h'.get? b = some o) → Q (.ref p) { s with heap := h', drawn := d', toks := tk }) :
 wpAny (model prog w) A (call (.builtin "sorted") [.ref a]) Q E s := by
 refine Calls.call_function_entry kind_sorted plain_sorted entry_sorted (args_sorted1 _) ?_
 unfold Builtin.«sorted»
 refine wpAny_bind (m := checkCount "sorted" 1 1 _) (wpAny_pure ?_)
 refine wpAny_bind (zgg (by simpa using hh) T fun h1 d1 tk1 vs js hv hp hz hk => ?_)
 have hvl : vs.length = ks.length := by rw [zbU hv, hp.length_eq]
 refine wpAny_bind (wpAny_newList ?_ (by rw [sizeLine_eq]; omega))
 have hoL : (h1.push (seqObj "list" vs.toArray 0)).get? h1.objs.size = some (seqObj "list" vs.toArray 0) := Heap.get?_push_size _ rfl
 show wpAny _ _ (holding _ _ >>= _) _ _ { s with heap := h1.push (seqObj "list" vs.toArray 0), drawn := d1, toks := tk1 }
 refine wpAny_bind (wpAny_holding (wpAny_call_entry slot_list_sort ⟨_, hoL, rfl⟩ entry_list_sort (list_sort_treeK strKind_oneLt hoL hv.keysOf (fun v₁ v₂ rest e => keyKind_strs (by rw [← e]; exact hv)) (by omega) fun st' a1 a2 => ⟨_, rfl, ?_⟩) (args_list_sort _)))
 obtain ⟨ms, m1, m2, m3⟩ := sorted_out_str hv a1 a2
 obtain ⟨e, he⟩ := sortedHeap_at (out := (arrOf st').map (·.2)) hoL
 refine wpAny_pure ⟨_, rfl, h h1.objs.size _ d1 tk1 _ ms e m1 (m2.trans hp) m3 (Nat.le_of_lt hz) he fun b o eb => ?_⟩
 · have hb : b < h1.objs.size := Heap.lt_size (hk b o eb)
   rw [sortedHeap_old (Nat.ne_of_lt hb) (by rw [size_push']; exact Nat.lt_succ_of_lt hb)]
   exact Heap.get?_push_of_some _ (hk b o eb)
end
section
variable {X : Cx} {e : Expr} {te : TE} {pos p2 p3 p4 : Pos}
def zki (K : PySem.W.Frag) (te : TE) : TE := fun σ H Q => te σ H fun x H1 => ∃ (a : Addr) (ts : List Str), [x] = [V.ref a] ∧ SqL K H1 a (ts.map V.str) ∧ ts.length < 64 ∧
 ∀ (p : Addr) (ms : List Str), ms.Nodup → (∀ x, x ∈ ms ↔ x ∈ ts) → ms.length ≤ ts.length → sortedS ms = true → H1 p = none → Q (.ref p) (upd H1 p (.lst (ms.map V.str)))
theorem zio (hc : X.calm = true) (he : PE X e te) (hg : Gl X "sorted") (hm : X.mg "sorted" = none) (hg2 : Gl X "set") (hm2 : X.mg "set" = none)
 (h1 : starEach [e] X.env = (false, eval e X.env) :: starEach [] X.env := by rfl)
 (h2 : starEach [.Call (.Name "set" p2) [e] [] p3] X.env = (false, eval (.Call (.Name "set" p2) [e] [] p3) X.env) :: starEach [] X.env := by rfl)
 (h3 : (backTo p3 (starEach [] X.env)).any (·.1) = false := by rfl) (h4 : (backTo pos (starEach [] X.env)).any (·.1) = false := by rfl) :
 PE X (.Call (.Name "sorted" p4) [.Call (.Name "set" p2) [e] [] p3] [] pos) (zki X.K te) := by
 intro pins s σ H Q I h
 refine wpAny_Call_Name_kw (zdA I hg hm zbD ?_ (by decide) (by decide))
 refine PyProof.Rows.callWith_builtin1 ?_ h2 h4
 rw [h2]
 show wpAny _ _ (spliced ((false, eval (.Call (.Name "set" p2) [e] [] p3) X.env) :: backTo pos (starEach [] X.env))) _ _ s
 refine Calls.spliced_cons ?_
 refine wpAny_Call_Name_kw (zdA I hg2 hm2 zms ?_ (by decide) (by decide))
 refine PyProof.Rows.callWith_type1 (thn (zaa he zac h1 p3 pins s σ H (fun vs H1 => ∃ (a : Addr) (ts : List Str), vs = [.ref a] ∧ SqL X.K H1 a (ts.map V.str) ∧ ts.length < 64 ∧
  ∀ (p : Addr) (ms : List Str), ms.Nodup → (∀ x, x ∈ ms ↔ x ∈ ts) → ms.length ≤ ts.length → sortedS ms = true → H1 p = none → Q (.ref p) (upd H1 p (.lst (ms.map V.str)))) I ?_) fun us s1 ⟨vs, H1, I1, r1, a, ts, hv, hq, hn, q⟩ => ?_) h1 h3
 · exact h
 subst hv
 obtain ⟨u1, rfl, v1⟩ := zcu r1
 cases v1
 obtain ⟨its, rv, ht, hz⟩ := I1.list hq
 refine zfv (I1.ok.hd hc) ht.isList (ts := ts) (by simpa using zdk rv) (by unfold scanBound; omega) fun h' tk ks hT hl hmem kp => ?_
 have I2 : Inv X pins σ H1 { s1 with heap := h', toks := tk } := I1.kept fun b o e => kp b o (Heap.lt_size e) e
 refine Calls.spliced_nil ?_
 refine zgJ (s := { s1 with heap := h', toks := tk }) (I1.ok.hd hc) hT (by omega) fun p h2 d2 tk2 out ms ee a1 a2 a3 a4 a5 a6 => ?_
 have hn1 : H1 p = none := I2.hok.fresh a4
 have I3 : Inv X pins σ H1 { s1 with heap := h', drawn := d2, toks := tk } := ⟨I2.ok, I2.os, I2.bare, I2.base, I2.loc, I2.cell, I2.free, I2.freeC, I2.pin, I2.hok, I2.len⟩
 refine ⟨.ref p, upd H1 p (.lst (ms.map V.str)), I3.laid (t' := tk2) a6 a4 ?_, rfl, q p ms (a2.nodup_iff.mpr hT.nodup) (fun x => (a2.mem_iff).trans (hmem x)) (by rw [a2.length_eq]; exact hl) a3 hn1⟩
 have hlen : ms.length ≤ ts.length := by rw [a2.length_eq]; exact hl
 exact ⟨by rw [List.length_map, sizeLine_eq]; omega, out.toList, ee, zb1 a1, by simpa [seqObj] using a5⟩
end
namespace FS
theorem dict_len : typeLookup (.type "dict") "__len__" = pure (some (.builtin "dict.__len__")) := by rw [typeLookup_type, builtinLookup_eq_fast]; kernel_rfl
theorem split_dict_len : splitId "dict.__len__" = some ("dict", "__len__") := by decide +kernel
end FS
section
variable {prog : Program} {w : World} {A : Around} {E : Value → Shared → Prop} {s : Shared}
theorem zjT {a : Addr} {Q : Bool → Shared → Prop} (hT : s.TypeIs (.ref a) "dict") (h : Q false s) : wpAny (model prog w) A (Builtin.List.listLengthHint (.ref a)) Q E s := by
 unfold Builtin.List.listLengthHint
 refine wpAny_bind (wpAny_specialOf hT FS.dict_len ?_)
 dsimp only
 generalize hid : ("dict.__len__" : String) = id0
 rw [show splitId id0 = some ("dict", "__len__") from by subst hid; exact FS.split_dict_len]
 subst hid
 dsimp only
 refine wpAny_bind (wpAny_isInstance (b := true) hT zfA ?_)
 simp only [Bool.not_true, Bool.false_eq_true, if_false]
 refine wpAny_bind (wpAny_typeOf hT (wpAny_pure h))
variable {κ : Type} [DecidableEq κ] {knd : PySem.KeyKind prog w κ}
set_option maxHeartbeats 1000000 in
theorem zgh {a : Addr} {kvs : List (κ × Value)} {ep : Nat} {Q : List Value → Shared → Prop} (hh : A.handled = none) (hs : (a == sysModules) = false) (D : s.heap.DictAt knd a kvs ep) (hz : kvs.length ≤ sizeLine)
 (hQ : ∀ (h' : Heap) (tk : Nat) (vs : List Value), vs.length = kvs.length → (∀ (i : Nat) (v : Value), vs[i]? = some v → ∃ k u, kvs[i]? = some (k, u) ∧ knd.is k v = true) → s.heap.objs.size < h'.objs.size → (∀ b o, s.heap.get? b = some o → h'.get? b = some o) → Q vs { s with heap := h', toks := tk }) :
 wpAny (model prog w) A (collect (.ref a)) Q E s := by
 have haS : a < s.heap.objs.size := D.lt_size
 unfold collect
 refine wpAny_bind (wpAny_runValue (codeAny_builtin PySem.F.entry_proto_collect ?_))
 rw [Around.under_plainId PySem.F.plain_proto_collect _]
 show wpAny _ A.in1 (newList [] >>= fun l => again (.builtin "list.__iadd__" ⟨[l, .ref a], []⟩)) _ _ s
 refine wpAny_bind (wpAny_newObj_type ?_)
 refine wpAny_pure ⟨plainId_quiet PySem.F.plain_list_iadd _, codeAny_builtin PySem.F.entry_list_iadd ?_⟩
 rw [Around.under_plainId PySem.F.plain_list_iadd _]
 generalize hh1 : s.heap.push { cls := .type "list", data := .seq ([] : List Value).toArray } = h1
 have hk1 : ∀ b o, s.heap.get? b = some o → h1.get? b = some o := fun b o e => by rw [← hh1]; exact Heap.get?_push_of_some _ e
 have hS1 : h1.get? s.heap.objs.size = some { cls := .type "list", data := .seq ([] : List Value).toArray } := by rw [← hh1]; exact Heap.get?_push_size _ rfl
 have hz1 : s.heap.objs.size < h1.objs.size := Heap.lt_size hS1
 have D1 : h1.DictAt knd a kvs ep := D.keep hk1
 show wpAny _ A.in1 (Builtin.List.listExtendWith (.ref s.heap.objs.size) (.ref a) (.ref s.heap.objs.size)) _ _ { s with heap := h1 }
 unfold Builtin.List.listExtendWith
 have hT1 : Shared.TypeIs { s with heap := h1 } (.ref a) "dict" := D1.dictOf.typeIs
 refine wpAny_bind (wpAny_typeOf hT1 ?_)
 have e1 : Builtin.List.listSameRef (.ref s.heap.objs.size) (.ref a) = false := by
  unfold Builtin.List.listSameRef
  exact beq_eq_false_iff_ne.mpr (Ne.symm (Nat.ne_of_lt haS))
 rw [if_neg (by rw [e1]; decide)]
 refine wpAny_bind (wpAny_pyIter_dict (s := { s with heap := h1 }) (knd := knd) hs D1 ?_)
 generalize hh2 : h1.push { cls := .type "dict_keyiterator", data := .fields #[.ref a, .int 0 0, .int kvs.length 0, .int ep 0] } = h2
 have hk2 : ∀ b o, h1.get? b = some o → h2.get? b = some o := fun b o e => by rw [← hh2]; exact Heap.get?_push_of_some _ e
 have hi : h2.IsKeyIter h1.objs.size a 0 kvs.length ep := by rw [← hh2]; exact ⟨_, Heap.get?_push_size _ rfl, rfl, rfl⟩
 have D2 : h2.DictAt knd a kvs ep := D1.keep hk2
 show wpAny _ A.in1 _ _ _ { s with heap := h2 }
 refine wpAny_bind (wpAny_holding (zjT (s := { s with heap := h2 }) D2.dictOf.typeIs ?_))
 rw [if_pos (by decide)]
 refine wpAny_bind (wpAny_rule ?_)
 have hS2 : h2.get? s.heap.objs.size = some { cls := .type "list", data := .seq ([] : List Value).toArray } := hk2 _ _ hS1
 refine wpAny_bind ?_
 show wpAny _ A.in1 (updateSeq s.heap.objs.size (·.push .none) >>= fun _ => updateSeq s.heap.objs.size (·.pop)) _ _ { s with heap := h2 }
 refine wpAny_bind (wpAny_updateSeq hS2 rfl ?_)
 have hS3 := Heap.get?_update_self (Obj.mapSeq (·.push Value.none)) hS2 rfl
 refine wpAny_updateSeq hS3 rfl ?_
 have hS4 := Heap.get?_update_self (Obj.mapSeq (·.pop)) hS3 rfl
 have oth : ∀ b o, b ≠ s.heap.objs.size → h2.get? b = some o → ((h2.update s.heap.objs.size (Obj.mapSeq (·.push Value.none))).update s.heap.objs.size (Obj.mapSeq (·.pop))).get? b = some o :=
  fun b o hb e => (Heap.get?_update_other _ _ (Ne.symm hb)).trans ((Heap.get?_update_other _ _ (Ne.symm hb)).trans e)
 have hIne : h1.objs.size ≠ s.heap.objs.size := Ne.symm (Nat.ne_of_lt hz1)
 have hane : a ≠ h1.objs.size := Nat.ne_of_lt (Nat.lt_trans haS hz1)
 have ext : Heap.ExtBut s.heap.objs.size h2 ((h2.update s.heap.objs.size (Obj.mapSeq (·.push Value.none))).update s.heap.objs.size (Obj.mapSeq (·.pop))) := fun b o hb e => oth b o hb e
 have W := (Walks.dictKeys (knd := knd) (A := A.in1) (by simpa using hh) h1.objs.size a hane kvs ep).toS
 refine wpAny_pure ⟨plainId_quiet PySem.F.plain_extend_loop _, codeAny_extend_loopS W hz s.heap.objs.size ?_ _ kvs.length 0 _ _ _ rfl (Nat.zero_le _)
  ⟨hi.extBut ext hIne, D2.extBut ext (Nat.ne_of_lt haS)⟩ hS4 (ItemsOf.nil _) fun s' acc' c' hm hS' hacc => ?_⟩
 · intro hmem
   rw [List.mem_cons, List.mem_singleton] at hmem
   rcases hmem with h | h
   · exact hIne h.symm
   · exact Nat.ne_of_lt haS h.symm
 · show wpAny _ A (load s.heap.objs.size >>= _) _ _ s'
   refine wpAny_bind (wpAny_load hS' ?_)
   obtain ⟨h', g', d', tk', os'⟩ := s'
   have eg : g' = s.gens := hm.gens
   have ed : d' = s.drawn := hm.drawn
   have eo : os' = s.os := hm.os
   subst eg; subst ed; subst eo
   refine wpAny_pure ?_
   refine hQ h' tk' acc'.toList (by rw [Array.length_toList]; exact hacc.1) (fun i v hv => ?_) (Heap.lt_size hS') fun b o e => ?_
   · exact hacc.2 i v (by rw [← Array.getElem?_toList]; exact hv)
   · have hb : b < s.heap.objs.size := Heap.lt_size e
     refine hm.heap b o ?_ (oth b o (Nat.ne_of_lt hb) (hk2 _ _ (hk1 _ _ e)))
     simp only [List.mem_cons, List.not_mem_nil, or_false, not_or]
     exact ⟨Nat.ne_of_lt hb, Nat.ne_of_lt (Nat.lt_trans hb hz1)⟩
theorem zdy : ∀ (fs : List Str) (vs : List Value), vs.length = fs.length → (∀ (i : Nat) (v : Value) (f : Str), vs[i]? = some v → fs[i]? = some f → (zaB prog w).is (.inr f) v = true) → StrsAre vs fs
 | [], [], _, _ => .nil
 | [], _ :: _, h, _ => by simp at h
 | _ :: _, [], h, _ => by simp at h
 | f :: fs, v :: vs, h, q => by
  have h0 := q 0 v f rfl rfl
  rw [zeC] at h0
  obtain ⟨t, rfl⟩ : ∃ t, v = .str f t := Value.isStrOf_shape h0
  exact .cons f t (zdy fs vs (by simpa using h) fun i v f' hv hf => q (i + 1) v f' (by simpa using hv) (by simpa using hf))
end
section
variable {X : Cx}
end
section
variable {X : Cx}
end
def endV : V → Bool
 | .non => true
 | .int _ => true
 | _ => false
def leV : V → V → Bool
 | .int i, .int j => decide (i ≤ j)
 | _, _ => true
def zbH (H : Hp) : V → Bool
 | .ref a => match H a with
  | some (.tup [x, y]) => endV x && endV y && leV x y
  | _ => false
 | _ => false
def SpanAt (H : Hp) (v : V) (lo hi : Option Int) : Prop := ∃ a, v = .ref a ∧ H a = some (.tup [eV lo, eV hi])
def leO : Option Int → Option Int → Bool
 | some i, some j => decide (i ≤ j)
 | _, _ => true
theorem zjQ {H : Hp} {v : V} {lo hi : Option Int} (h : SpanAt H v lo hi) : zbH H v = leO lo hi := by
 obtain ⟨a, rfl, e⟩ := h
 unfold zbH
 simp only [e]
 cases lo <;> cases hi <;> simp [eV, endV, leV, leO]
theorem SpanAt.same {H H' : Hp} {v : V} {lo hi : Option Int} (h : SpanAt H v lo hi) (s : Same H H') : SpanAt H' v lo hi := by
 obtain ⟨a, e, q⟩ := h
 exact ⟨a, e, s _ _ q⟩
theorem zlQ {K : PySem.W.Frag} {H : Hp} (o : Option Int) : ∃ t, TyOf K H (eV o) (.type t) := by
 cases o with
 | none => exact ⟨_, .non⟩
 | some i => exact ⟨_, .int i⟩
def zdm (K : PySem.W.Frag) : Sp := fun vs H Q _ => ∃ (v : V) (t : String), vs = [v] ∧ TyOf K H v (.type t) ∧ Q (.bl (t == "int")) H
def zlh (K : PySem.W.Frag) : Sp := fun vs H Q _ => ∃ (v : V) (t : String), vs = [v] ∧ TyOf K H v (.type t) ∧ Q (.bl (endV v)) H
def zla (K : PySem.W.Frag) (H : Hp) (v : V) : Prop := ∀ a x y, v = .ref a → H a = some (.tup [x, y]) → ∃ t1 t2, TyOf K H x (.type t1) ∧ TyOf K H y (.type t2)
def zeT (K : PySem.W.Frag) : Sp := fun vs H Q _ => ∃ (v : V) (t : String), vs = [v] ∧ TyOf K H v (.type t) ∧ zla K H v ∧ Q (.bl (zbH H v)) H
theorem SpanAt.ty {K : PySem.W.Frag} {H : Hp} {v : V} {lo hi : Option Int} (h : SpanAt H v lo hi) : TyOf K H v (.type "tuple") ∧ zla K H v := by
 obtain ⟨a, rfl, q⟩ := h
 refine ⟨.tup q, fun a' x y e q' => ?_⟩
 cases e
 rw [q] at q'
 injection q' with q'
 injection q' with q'
 injection q' with e1 e2
 injection e2 with e2 _
 subst e1 e2
 obtain ⟨t1, h1⟩ := zlQ (K := K) (H := H) lo
 obtain ⟨t2, h2⟩ := zlQ (K := K) (H := H) hi
 exact ⟨t1, t2, h1, h2⟩
def zjX : Option Int → Option Int → Bool
 | none, _ => true
 | some _, none => false
 | some l, some o => decide (l ≤ o)
def upB : Option Int → Option Int → Bool
 | none, _ => true
 | some _, none => false
 | some h, some o => decide (o ≤ h)
def zcU (lo hi lo2 hi2 : Option Int) : Bool := zjX lo lo2 && upB hi hi2
def mLo : Option Int → Option Int → Option Int
 | none, o => o
 | some l, none => some l
 | some l, some o => some (if l < o then o else l)
def mHi : Option Int → Option Int → Option Int
 | none, o => o
 | some h, none => some h
 | some h, some o => some (if o < h then o else h)
def apart : Option Int → Option Int → Bool
 | some l, some h => decide (h < l)
 | _, _ => false
def zhA (H : Hp) (v : V) (lo hi : Option Int) : Prop := if apart lo hi = true then v = .non else SpanAt H v lo hi
def loB : Option Int → Int → Bool
 | none, _ => true
 | some l, k => decide (l ≤ k)
def hiB : Option Int → Int → Bool
 | none, _ => true
 | some h, k => decide (k ≤ h)
def inB (lo hi : Option Int) (k : Int) : Bool := loB lo k && hiB hi k
def zgB : Sp := fun vs H Q _ => ∃ (v w : V) (lo hi lo2 hi2 : Option Int), vs = [v, w] ∧ SpanAt H v lo hi ∧ SpanAt H w lo2 hi2 ∧ Q (.bl (zcU lo hi lo2 hi2)) H
def zeO : Sp := fun vs H Q _ => ∃ (v w : V) (lo hi lo2 hi2 : Option Int), vs = [v, w] ∧ SpanAt H v lo hi ∧ SpanAt H w lo2 hi2 ∧ ∀ v' H', Same H H' → zhA H' v' (mLo lo lo2) (mHi hi hi2) → Q v' H'
def spIn : Sp := fun vs H Q _ => ∃ (v : V) (lo hi : Option Int) (k : Int), vs = [v, .int k] ∧ SpanAt H v lo hi ∧ Q (.bl (inB lo hi k)) H
theorem zkO (o1 o2 : Option Int) : ∃ ns : List Int, ([o1, o2].filter Option.isSome).map eV = ns.map V.int ∧ zkU (fun i j => decide (j < i)) ns .non = eV (mLo o1 o2) := by
 cases o1 with
 | none =>
  cases o2 with
  | none => exact ⟨[], rfl, rfl⟩
  | some b => exact ⟨[b], rfl, rfl⟩
 | some a =>
  cases o2 with
  | none => exact ⟨[a], rfl, rfl⟩
  | some b =>
   refine ⟨[a, b], rfl, ?_⟩
   show V.int (if decide (a < b) = true then b else a) = V.int (if a < b then b else a)
   by_cases h : a < b
   · rw [if_pos (decide_eq_true h), if_pos h]
   · rw [if_neg (by rw [decide_eq_false h]; exact Bool.false_ne_true), if_neg h]
theorem zkN (o1 o2 : Option Int) : ∃ ns : List Int, ([o1, o2].filter Option.isSome).map eV = ns.map V.int ∧ zkU (fun i j => decide (i < j)) ns .non = eV (mHi o1 o2) := by
 cases o1 with
 | none =>
  cases o2 with
  | none => exact ⟨[], rfl, rfl⟩
  | some b => exact ⟨[b], rfl, rfl⟩
 | some a =>
  cases o2 with
  | none => exact ⟨[a], rfl, rfl⟩
  | some b =>
   refine ⟨[a, b], rfl, ?_⟩
   show V.int (if decide (b < a) = true then b else a) = V.int (if b < a then b else a)
   by_cases h : b < a
   · rw [if_pos (decide_eq_true h), if_pos h]
   · rw [if_neg (by rw [decide_eq_false h]; exact Bool.false_ne_true), if_neg h]
abbrev T15 : Int := 1000000000000000
def zho (i : Int) : Int := if (if i < 10 ^ (15 : Int).toNat - 1 then i else 10 ^ (15 : Int).toNat - 1) > 1 - 10 ^ (15 : Int).toNat then (if i < 10 ^ (15 : Int).toNat - 1 then i else 10 ^ (15 : Int).toNat - 1) else 1 - 10 ^ (15 : Int).toNat
theorem e15 : (10 : Int) ^ (15 : Int).toNat = T15 := by decide
theorem zh3 (i : Int) : (zho i = i ∧ -T15 < i ∧ i < T15) ∨ (zho i = T15 - 1 ∧ T15 ≤ i + 1) ∨ (zho i = 1 - T15 ∧ i ≤ 1 - T15) := by
 unfold zho
 rw [e15]
 unfold T15
 split <;> split <;> omega
def inT (o : Option Int) : Prop := ∀ i, o = some i → -T15 < i ∧ i < T15
structure Good (lo hi : Option Int) : Prop where
 le : leO lo hi = true
 lo : inT lo
 hi : inT hi
def ziZ : Sp := fun vs H Q _ => ∃ i : Int, vs = [.int i] ∧ Q (.int (zho i)) H
def zeR : Sp := fun vs H Q _ => ∃ (b g l : Addr) (n : Int), vs = [.ref b] ∧ Bag H b g l n ∧ n ≤ 10 ^ 9 ∧ ∀ (r : Int) (H' : Hp), -T15 < r → r < T15 → Bag H' b g l (n + 3) → SameB b g H H' → Q (.int r) H'
def ziW : Sp := fun vs H Q _ => ∃ (b g l : Addr) (n : Int), vs = [.ref b] ∧ Bag H b g l n ∧ n ≤ 10 ^ 8 ∧ ∀ (v : V) (lo hi : Option Int) (H' : Hp), SpanAt H' v lo hi → Good lo hi → Bag H' b g l (n + 8) → SameB b g H H' → Q v H'
def zgE : Sp := fun vs H Q _ => ∃ (b g l : Addr) (n : Int) (w : V) (lo0 hi0 : Option Int), vs = [.ref b, w] ∧ Bag H b g l n ∧ SpanAt H w lo0 hi0 ∧ n ≤ 10 ^ 8 ∧ ∀ (v : V) (lo hi : Option Int) (H' : Hp), SpanAt H' v lo hi → Good lo hi → Bag H' b g l (n + 8) → SameB b g H H' → Q v H'
theorem pw10 {j : Int} (h0 : 0 ≤ j) (h1 : j ≤ 1000) : zmy 10 j := ⟨h0, h1, by decide⟩
def near : Option Int → List Int
 | none => []
 | some e => [e - 1, e, e + 1]
def pts0 : List Int := [0, 10 ^ (17 : Int).toNat, 0 - 10 ^ (17 : Int).toNat]
def zcA (ss : List (Option Int × Option Int)) : List Int := pts0 ++ ss.flatMap fun s => near s.1 ++ near s.2
theorem zfi (o : Option Int) : (near o).length ≤ 3 := by cases o <;> simp [near]
theorem zgV : ∀ ss : List (Option Int × Option Int), (zcA ss).length ≤ 3 + 6 * ss.length := by
 intro ss
 have : (ss.flatMap fun s => near s.1 ++ near s.2).length ≤ 6 * ss.length := by
  induction ss with
  | nil => simp
  | cons s r ih =>
   rw [List.flatMap_cons, List.length_append, List.length_append, List.length_cons]
   have h1 := zfi s.1
   have h2 := zfi s.2
   omega
 unfold zcA
 rw [List.length_append]
 simp only [pts0, List.length_cons, List.length_nil]
 omega
def zeQ (K : PySem.W.Frag) : Sp := fun vs H Q _ => ∃ (a : Addr) (ss : List (Addr × Option Int × Option Int)), vs = [.ref a] ∧ SqL K H a (ss.map fun s => V.ref s.1) ∧ (∀ s ∈ ss, H s.1 = some (.tup [eV s.2.1, eV s.2.2])) ∧ ss.length ≤ 8 ∧
 ∀ r H', Same H H' → H' r = some (.lst ((zcA (ss.map (·.2))).map V.int)) → Q (.ref r) H'
theorem zfZ (lo hi lo2 hi2 : Option Int) (k : Int) : inB (mLo lo lo2) (mHi hi hi2) k = (inB lo hi k && inB lo2 hi2 k) := by
 cases lo <;> cases hi <;> cases lo2 <;> cases hi2 <;> simp only [inB, loB, hiB, mLo, mHi, Bool.true_and, Bool.and_true] <;> rw [Bool.eq_iff_iff] <;> simp <;> (try split) <;> (try split) <;> omega
theorem zkV {lo hi : Option Int} (h : apart lo hi = true) (k : Int) : inB lo hi k = false := by
 cases lo with
 | none => cases h
 | some l =>
  cases hi with
  | none => cases h
  | some j =>
   have h : decide (j < l) = true := h
   have h := of_decide_eq_true h
   simp only [inB, loB, hiB]
   by_cases h1 : l ≤ k
   · rw [decide_eq_true h1, decide_eq_false (by omega)]; rfl
   · rw [decide_eq_false h1]; rfl
theorem zlq {k : Int} {a b c d : Option Int} (h : k ∈ near a ∨ k ∈ near b ∨ k ∈ near c ∨ k ∈ near d ∨ k = 0) : k ∈ zcA [(a, b), (c, d)] := by
 simp only [zcA, List.flatMap_cons, List.flatMap_nil, List.append_nil, List.mem_append, pts0, List.mem_cons]
 rcases h with h | h | h | h | h
 · exact .inr (.inl (.inl h))
 · exact .inr (.inl (.inr h))
 · exact .inr (.inr (.inl h))
 · exact .inr (.inr (.inr h))
 · exact .inl (.inl h)
def dE : Option Int → PD
 | none => .non
 | some i => .int i
theorem zhH {K : PySem.W.Frag} {H : Hp} (o : Option Int) : Rep K H (dE o) (eV o) := by
 cases o with
 | none => show Rep K H .non .non; rw [Rep]
 | some i => show Rep K H (.int i) (.int i); rw [Rep]
theorem zhV (a : Option Int) : mLo a a = a := by
 cases a <;> simp [mLo]
theorem zhX (a : Option Int) : mHi a a = a := by
 cases a <;> simp [mHi]
theorem zil (lo hi : Option Int) : zcU lo hi lo hi = true := by
 cases lo <;> cases hi <;> simp [zcU, zjX, upB]
def zbR (c : Nat) : Bool := decide (97 ≤ c) && decide (c ≤ 122)
structure FieldOk (x : Str) : Prop where
 one : 1 ≤ x.length
 eight : x.length ≤ 8
 all : ∀ c ∈ x.cps.toList, zbR c = true
theorem zmW : ("a" : Str).cps.toList = [97] := by decide +kernel
theorem zmV : ("z" : Str).cps.toList = [122] := by decide +kernel
theorem ge_a {c : Nat} (h : zbR c = true) : (!decide ((⟨#[c]⟩ : Str).cps.toList < ("a" : Str).cps.toList)) = true := by
 rw [zmW]
 have h1 : 97 ≤ c := of_decide_eq_true ((Bool.and_eq_true _ _).mp h).1
 have : ¬ ([c] : List Nat) < [97] := by
  intro z
  cases z with
  | rel z => exact absurd z (by omega)
  | cons z => cases z
 show (!decide (([c] : List Nat) < [97])) = true
 rw [decide_eq_false this]
 rfl
theorem le_z {c : Nat} (h : zbR c = true) : (!decide (("z" : Str).cps.toList < (⟨#[c]⟩ : Str).cps.toList)) = true := by
 rw [zmV]
 have h1 : c ≤ 122 := of_decide_eq_true ((Bool.and_eq_true _ _).mp h).2
 have : ¬ ([122] : List Nat) < [c] := by
  intro z
  cases z with
  | rel z => exact absurd z (by omega)
  | cons z => cases z
 show (!decide (([122] : List Nat) < [c])) = true
 rw [decide_eq_false this]
 rfl
def zgG : Sp := fun vs H Q _ => ∃ x : Str, vs = [.str x] ∧ FieldOk x ∧ ∀ H', Same H H' → Q (.bl true) H'
def zm0 (H : Hp) (p : Addr) (f : Str) (lo hi : Option Int) : Prop := H p = some (.tup [.str f, eV lo, eV hi])
def zdl : Sp := fun vs H Q _ => ∃ (p : Addr) (f : Str) (lo hi : Option Int), vs = [.ref p] ∧ zm0 H p f lo hi ∧ FieldOk f ∧ leO lo hi = true ∧ ∀ H', Same H H' → Q (.bl true) H'
def ltF (f g : Str) : Prop := f.cps.toList < g.cps.toList
def zeV : Sp := fun vs H Q _ => ∃ (a : Addr) (ps : List (Addr × Str × List V)), vs = [.ref a] ∧ H a = some (.tup (ps.map fun p => V.ref p.1)) ∧ ps.length ≤ 100 ∧ (∀ p ∈ ps, H p.1 = some (.tup (V.str p.2.1 :: p.2.2))) ∧
 (∀ (i : Nat) p q, ps[i]? = some p → ps[i + 1]? = some q → ltF p.2.1 q.2.1) ∧ ∀ H', Same H H' → Q (.bl true) H'
abbrev WP := Str × Option Int × Option Int
def WishAt (H : Hp) (a : Addr) (w : List WP) : Prop := ∃ ps : List (Addr × WP), ps.map (·.2) = w ∧ H a = some (.tup (ps.map fun p => V.ref p.1)) ∧ ∀ p ∈ ps, H p.1 = some (.tup [.str p.2.1, eV p.2.2.1, eV p.2.2.2])
theorem WishAt.keep {H H' : Hp} {a : Addr} {w : List WP} (h : WishAt H a w) (s : Tups H H') : WishAt H' a w := by
 obtain ⟨ps, e, h1, h2⟩ := h
 exact ⟨ps, e, s _ _ h1, fun p hp => s _ _ (h2 p hp)⟩
theorem WishAt.same {H H' : Hp} {a : Addr} {w : List WP} (h : WishAt H a w) (s : Same H H') : WishAt H' a w := h.keep s.tups
structure WOk (w : List WP) : Prop where
 len : w.length ≤ 100
 ok : ∀ p ∈ w, FieldOk p.1 ∧ leO p.2.1 p.2.2 = true
 asc : (w.map (·.1)).Pairwise ltF
def zaj (w : List WP) (f : Str) : Option (Option Int × Option Int) := (w.find? (fun p => decide (p.1 = f))).map (·.2)
theorem zgz {w : List WP} {f : Str} (h : ∀ p ∈ w, p.1 ≠ f) : zaj w f = none := by
 unfold zaj
 rw [List.find?_eq_none.mpr fun p hp z => h p hp (of_decide_eq_true z)]
 rfl
theorem zbV (w : List WP) (p : WP) (f : Str) (hn : zaj w p.1 = none) : zaj (w ++ [p]) f = if f = p.1 then some p.2 else zaj w f := by
 unfold zaj at *
 rw [List.find?_append]
 by_cases h : f = p.1
 · subst h
   rw [if_pos rfl]
   cases e : w.find? (fun q => decide (q.1 = p.1)) with
   | some q => rw [e] at hn; cases hn
   | none => simp
 · rw [if_neg h]
   cases e : w.find? (fun q => decide (q.1 = f)) with
   | some q => rfl
   | none => simp; exact fun z => h z.symm
theorem zeD {f g : Str} (h : ltF f g) : f ≠ g := fun e => by
 subst e
 exact List.lt_irrefl _ h
theorem WOk.fresh {w : List WP} (h : WOk w) {i : Nat} {p : WP} (hp : w[i]? = some p) : zaj (w.take i) p.1 = none := by
 refine zgz fun q hq e => ?_
 obtain ⟨j, hj⟩ := List.getElem?_of_mem hq
 rw [List.getElem?_take] at hj
 split at hj
 · rename_i lt
   have hi : i < w.length := (List.getElem?_eq_some_iff.mp hp).1
   have := List.pairwise_iff_getElem.mp h.asc j i (by rw [List.length_map]; omega) (by rw [List.length_map]; exact hi) lt
   rw [List.getElem_map, List.getElem_map] at this
   have e1 : w[j]'(by omega) = q := (List.getElem?_eq_some_iff.mp hj).2
   have e2 : w[i] = p := (List.getElem?_eq_some_iff.mp hp).2
   rw [e1, e2] at this
   exact zeD this e
 · cases hj
def DictSp (H : Hp) (d : Addr) (w : List WP) : Prop := ∃ kvs : List (Key × V), H d = some (.dK kvs) ∧ kvs.length ≤ w.length ∧ ∀ f : Str, match zaj w f with
 | none => valV kvs (.inr f) = none
 | some s => ∃ t, valV kvs (.inr f) = some (.ref t) ∧ H t = some (.tup [eV s.1, eV s.2])
theorem DictSp.same {H H' : Hp} {d : Addr} {w : List WP} (h : DictSp H d w) (s : Same H H') : DictSp H' d w := by
 obtain ⟨kvs, e, l, q⟩ := h
 refine ⟨kvs, s _ _ e, l, fun f => ?_⟩
 have := q f
 cases hs : zaj w f with
 | none => rw [hs] at this; exact this
 | some sp => rw [hs] at this; obtain ⟨t, h1, h2⟩ := this; exact ⟨t, h1, s _ _ h2⟩
def zev (other : List WP) (p : WP) : Bool := match zaj other p.1 with
 | none => false
 | some s => zcU p.2.1 p.2.2 s.1 s.2
theorem zgU {other : List WP} {p : WP} (h : zaj other p.1 = none) : zev other p = false := by unfold zev; rw [h]
theorem zco {other : List WP} {p : WP} {s : Option Int × Option Int} (h : zaj other p.1 = some s) : zev other p = zcU p.2.1 p.2.2 s.1 s.2 := by unfold zev; rw [h]
def zcs (one other : List WP) : Bool := one.all (zev other)
def zeS : Sp := fun vs H Q _ => ∃ (a : Addr) (w : List WP), vs = [.ref a] ∧ WishAt H a w ∧ WOk w ∧ ∀ H', Same H H' → Q (.bl true) H'
def zdY : Sp := fun vs H Q _ => ∃ (a : Addr) (w : List WP), vs = [.ref a] ∧ WishAt H a w ∧ WOk w ∧ ∀ H', Same H H' → Q .non H'
def zdS : Sp := fun vs H Q _ => ∃ (a d : Addr) (w w' : List WP), vs = [.ref a, .ref d] ∧ WishAt H a w ∧ DictSp H d w' ∧ ∀ H', Same H H' → Q (.bl (zcs w w')) H'
def zcZ : Sp := fun vs H Q _ => ∃ (a b : Addr) (w w' : List WP), vs = [.ref a, .ref b] ∧ WishAt H a w ∧ WishAt H b w' ∧ WOk w' ∧ ∀ H', Same H H' → Q (.bl (zcs w w')) H'
def zdb : Option Int → Option Int → Int
 | some l, _ => l
 | none, some h => h
 | none, none => 0
def zc4 (lo hi lo2 : Option Int) : Option Int := match lo2 with
 | none => none
 | some l => if apart lo (mHi hi (some (l - 1))) = true then none else some (zdb lo (mHi hi (some (l - 1))))
def zfw (lo hi hi2 : Option Int) : Option Int := match hi2 with
 | none => none
 | some h => if apart (mLo lo (some (h + 1))) hi = true then none else some (zdb (mLo lo (some (h + 1))) hi)
def zaL (lo hi lo2 hi2 : Option Int) : Option Int := match zc4 lo hi lo2 with
 | some n => some n
 | none => zfw lo hi hi2
theorem zmv {lo hi : Option Int} {h : Int} (ap : apart (mLo lo (some (h + 1))) hi = true) : zfw lo hi (some h) = none := if_pos ap
theorem zmw {lo hi : Option Int} {h : Int} (ap : ¬ apart (mLo lo (some (h + 1))) hi = true) : zfw lo hi (some h) = some (zdb (mLo lo (some (h + 1))) hi) := if_neg ap
theorem zmY {lo hi : Option Int} {l : Int} (ap : apart lo (mHi hi (some (l - 1))) = true) : zc4 lo hi (some l) = none := if_pos ap
theorem zmZ {lo hi : Option Int} {l : Int} (ap : ¬ apart lo (mHi hi (some (l - 1))) = true) : zc4 lo hi (some l) = some (zdb lo (mHi hi (some (l - 1)))) := if_neg ap
theorem zds {lo hi lo2 hi2 : Option Int} (h : zc4 lo hi lo2 = none) : zaL lo hi lo2 hi2 = zfw lo hi hi2 := by unfold zaL; rw [h]
theorem zlw {lo hi lo2 hi2 : Option Int} {n : Int} (h : zc4 lo hi lo2 = some n) : zaL lo hi lo2 hi2 = some n := by unfold zaL; rw [h]
theorem zhW (o : Option Int) : mLo o none = o := by cases o <;> rfl
theorem zfl (o : Option Int) : mHi o none = o := by cases o <;> rfl
def zgD : Sp := fun vs H Q _ => ∃ (v : V) (lo hi : Option Int), vs = [v] ∧ SpanAt H v lo hi ∧ Q (.int (zdb lo hi)) H
def zgI : Sp := fun vs H Q _ => ∃ (v w : V) (lo hi lo2 hi2 : Option Int), vs = [v, w] ∧ SpanAt H v lo hi ∧ SpanAt H w lo2 hi2 ∧ ∀ H', Same H H' → Q (eV (zaL lo hi lo2 hi2)) H'
abbrev PP := Str × Int
def PieceAt (H : Hp) (a : Addr) (w : List PP) : Prop := ∃ ps : List (Addr × PP), ps.map (·.2) = w ∧ H a = some (.tup (ps.map fun p => V.ref p.1)) ∧ ∀ p ∈ ps, H p.1 = some (.tup [.str p.2.1, .int p.2.2])
def zeB (other : List WP) (p : WP) : Int := match zaL p.2.1 p.2.2 ((zaj other p.1).getD (none, none)).1 ((zaj other p.1).getD (none, none)).2 with
 | some n => n
 | none => zdb p.2.1 p.2.2
theorem zha {other : List WP} {p : WP} {sp : Option Int × Option Int} {n : Int} (h : (zaj other p.1).getD (none, none) = sp) (e : zaL p.2.1 p.2.2 sp.1 sp.2 = some n) : zeB other p = n := by unfold zeB; rw [h, e]
theorem zhb {other : List WP} {p : WP} {sp : Option Int × Option Int} (h : (zaj other p.1).getD (none, none) = sp) (e : zaL p.2.1 p.2.2 sp.1 sp.2 = none) : zeB other p = zdb p.2.1 p.2.2 := by unfold zeB; rw [h, e]
def zjm (one other : List WP) : List PP := one.map fun p => (p.1, zeB other p)
def zdU : Sp := fun vs H Q _ => ∃ (a b : Addr) (w w' : List WP), vs = [.ref a, .ref b] ∧ WishAt H a w ∧ WishAt H b w' ∧ WOk w ∧ WOk w' ∧ (zcs w' w = true → ∀ H', Same H H' → Q .non H') ∧
 (zcs w' w = false → ∀ r H', Same H H' → PieceAt H' r (zjm w w') → Q (.ref r) H')
theorem zmp {K : PySem.W.Frag} {a p : Addr} {xs : List V} {g : TG} {tc : TT} {tk tv : TE} {σ : St} {H : Hp} {Q : VK} {js : Cap} (Pv : Nat → St → List (Key × V) → Hp → Prop) (h0 : Pv 0 (inn js σ) [] (upd H p (.dK [])))
 (hl : ∀ i σ kvs H, i ≤ xs.length → Pv i σ kvs H → SqT K H a xs ∧ H p = some (.dK kvs) ∧ kvs.length < sizeLine)
 (hs : ∀ (i : Nat) x σ kvs H (N : St → List (Key × V) → Hp → Prop), xs[i]? = some x → Pv i σ kvs H → (∀ σ' kvs' H', Pv (i + 1) σ' kvs' H' → N σ' kvs' H') → g x σ H fun σ2 H2 => tc σ2 H2 fun b H3 =>
  if b = true then tk σ2 H3 fun k H4 => tv σ2 H4 fun y H5 => ∃ ky, k = kV ky ∧ H5 p = some (.dK kvs) ∧ N σ2 (putK kvs ky y) (upd H5 p (.dK (putK kvs ky y))) else N σ2 kvs H3)
 (hd : ∀ σ kvs H, Pv xs.length σ kvs H → Q (.ref p) H) : zkf (Itt K a) p js g tc tk tv σ H Q := by
 refine ⟨fun i m σ kvs H => m = xs.length - i ∧ i ≤ xs.length ∧ Pv i σ kvs H, ⟨xs.length, by simp, Nat.zero_le _, h0⟩, ?_⟩
 rintro i m σ kvs H ⟨rfl, hi, pv⟩
 obtain ⟨q0, q1, q2⟩ := hl i σ kvs H hi pv
 refine ⟨q1, ?_⟩
 by_cases lt : i < xs.length
 · refine .inr ⟨⟨xs, xs[i], q0, by simp [lt]⟩, q2, fun x H' y => ?_⟩
   obtain ⟨e, y⟩ := y
   subst e
   exact hs i x σ kvs H' (fun σ2 kvs2 H2 => ∃ m', m' < xs.length - i ∧ m' = xs.length - (i + 1) ∧ i + 1 ≤ xs.length ∧ Pv (i + 1) σ2 kvs2 H2) (y xs q0) pv fun σ' ys' H' p' => ⟨xs.length - (i + 1), by omega, rfl, lt, p'⟩
 · have e : i = xs.length := by omega
   subst e
   exact .inl ⟨⟨xs, q0, Nat.le_refl _⟩, hd σ kvs H pv⟩
theorem zlg {x y : Str} (h : x.cps.toList = y.cps.toList) : x = y := by
 obtain ⟨a⟩ := x
 obtain ⟨b⟩ := y
 congr
 exact Array.toList_inj.mp h
theorem zhk {x y : Str} (h : ¬ ltF x y) (n : x ≠ y) : ltF y x := by
 unfold ltF at *
 rcases Std.lt_trichotomy (α := List Nat) x.cps.toList y.cps.toList with h1 | h1 | h1
 · exact absurd h1 h
 · exact absurd (zlg h1) n
 · exact h1
theorem zeh {x y z : Str} (h : ltF x y) (h2 : ltF y z) : ltF x z := List.lt_trans h h2
theorem zfJ : ∀ (r : List Str) (p : Str), risingS p r = true → (p :: r).Nodup → (p :: r).Pairwise ltF
 | [], p, _, _ => List.pairwise_singleton _ _
 | x :: r, p, h, n => by
  unfold risingS at h
  rw [Bool.and_eq_true, Bool.not_eq_true', ltCps_eq, decide_eq_false_iff_not] at h
  rw [List.nodup_cons] at n
  have px : ltF p x := zhk (x := x) (y := p) h.1 (fun e => n.1 (by rw [← e]; exact List.mem_cons_self))
  have ih := zfJ r x h.2 n.2
  rw [List.pairwise_cons]
  refine ⟨fun y hy => ?_, ih⟩
  rcases List.mem_cons.mp hy with rfl | hy
  · exact px
  · exact zeh px ((List.pairwise_cons.mp ih).1 y hy)
theorem zc5 {ms : List Str} (h : sortedS ms = true) (n : ms.Nodup) : ms.Pairwise ltF := by
 cases ms with
 | nil => exact .nil
 | cons x r => exact zfJ r x h n
theorem PieceAt.keep {H H' : Hp} {a : Addr} {w : List PP} (h : PieceAt H a w) (s : Tups H H') : PieceAt H' a w := by
 obtain ⟨ps, e, h1, h2⟩ := h
 exact ⟨ps, e, s _ _ h1, fun p hp => s _ _ (h2 p hp)⟩
theorem PieceAt.same {H H' : Hp} {a : Addr} {w : List PP} (h : PieceAt H a w) (s : Same H H') : PieceAt H' a w := h.keep s.tups
structure POk (p : List PP) : Prop where
 len : p.length ≤ 100
 ok : ∀ x ∈ p, FieldOk x.1
 asc : (p.map (·.1)).Pairwise ltF
def zbC (p : List PP) (f : Str) : Option Int := (p.find? (fun x => decide (x.1 = f))).map (·.2)
theorem ziz {w : List PP} {f : Str} (h : ∀ p ∈ w, p.1 ≠ f) : zbC w f = none := by
 unfold zbC
 rw [List.find?_eq_none.mpr fun p hp z => h p hp (of_decide_eq_true z)]
 rfl
theorem ziy (w : List PP) (p : PP) (f : Str) (hn : zbC w p.1 = none) : zbC (w ++ [p]) f = if f = p.1 then some p.2 else zbC w f := by
 unfold zbC at *
 rw [List.find?_append]
 by_cases h : f = p.1
 · subst h
   rw [if_pos rfl]
   cases e : w.find? (fun q => decide (q.1 = p.1)) with
   | some q => rw [e] at hn; cases hn
   | none => simp
 · rw [if_neg h]
   cases e : w.find? (fun q => decide (q.1 = f)) with
   | some q => rfl
   | none => simp; exact fun z => h z.symm
theorem POk.fresh {w : List PP} (h : POk w) {i : Nat} {p : PP} (hp : w[i]? = some p) : zbC (w.take i) p.1 = none := by
 refine ziz fun q hq e => ?_
 obtain ⟨j, hj⟩ := List.getElem?_of_mem hq
 rw [List.getElem?_take] at hj
 split at hj
 · rename_i lt
   have hi : i < w.length := (List.getElem?_eq_some_iff.mp hp).1
   have := List.pairwise_iff_getElem.mp h.asc j i (by rw [List.length_map]; omega) (by rw [List.length_map]; exact hi) lt
   rw [List.getElem_map, List.getElem_map] at this
   have e1 : w[j]'(by omega) = q := (List.getElem?_eq_some_iff.mp hj).2
   have e2 : w[i] = p := (List.getElem?_eq_some_iff.mp hp).2
   rw [e1, e2] at this
   exact zeD this e
 · cases hj
def zdx (p : List PP) (x : WP) : Bool := match zbC p x.1 with
 | none => false
 | some n => inB x.2.1 x.2.2 n
theorem zgx {p : List PP} {x : WP} (h : zbC p x.1 = none) : zdx p x = false := by unfold zdx; rw [h]
theorem zcW {p : List PP} {x : WP} {n : Int} (h : zbC p x.1 = some n) : zdx p x = inB x.2.1 x.2.2 n := by unfold zdx; rw [h]
def zcr (w : List WP) (p : List PP) : Bool := w.all (zdx p)
theorem zij {w : List WP} {p : List PP} {x : WP} (hx : x ∈ w) (h : zdx p x = false) : zcr w p = false := by
 unfold zcr
 rw [List.all_eq_false]
 exact ⟨x, hx, by rw [h]; exact Bool.false_ne_true⟩
def zgA : Sp := fun vs H Q _ => ∃ (a b : Addr) (w : List WP) (p : List PP), vs = [.ref a, .ref b] ∧ WishAt H a w ∧ PieceAt H b p ∧ POk p ∧ ∀ H', Same H H' → Q (.bl (zcr w p)) H'
def zdo : Sp := fun vs H Q _ => ∃ (b g l : Addr) (n : Int), vs = [.ref b] ∧ Bag H b g l n ∧ n ≤ 10 ^ 8 ∧ ∀ (x : Str) (H' : Hp), FieldOk x → Bag H' b g l (n + 12) → SameB b g H H' → Q (.str x) H'
def zc1 : Sp := fun vs H Q _ => ∃ (b g l : Addr) (n most : Int), vs = [.ref b, .int most] ∧ Bag H b g l n ∧ n ≤ 10 ^ 7 ∧ 0 ≤ most ∧ most ≤ 9 ∧
 ∀ (r : Addr) (fs : List Str) (H' : Hp), H r = none → H' r = some (.lst (fs.map V.str)) → fs.Pairwise ltF → (∀ f ∈ fs, FieldOk f) → (fs.length : Int) ≤ most → Bag H' b g l (n + 200) → SameB b g H H' → Q (.ref r) H'
theorem az : ("abcdefghijklmnopqrstuvwxyz" : Str).cps.toList = (List.range 26).map (· + 97) := by decide +kernel
theorem zmt {r : Int} (h0 : 0 ≤ r) (h1 : r < 26) : ∃ c, atI ("abcdefghijklmnopqrstuvwxyz" : Str).cps.toList r = some c ∧ zbR c = true := by
 rw [az]
 obtain ⟨k, rfl⟩ : ∃ k : Nat, r = k := ⟨r.toNat, by omega⟩
 have hk : k < 26 := by omega
 refine ⟨k + 97, ?_, ?_⟩
 · refine zdw ?_
   rw [List.getElem?_map, List.getElem?_range hk]
   rfl
 · unfold zbR
   rw [Bool.and_eq_true]
   exact ⟨decide_eq_true (by omega), decide_eq_true (by omega)⟩
theorem zeH : ∀ (cs : List Nat), (Txt.join ("" : Str) (cs.map fun c => (⟨#[c]⟩ : Str))).cps.toList = cs
 | [] => rfl
 | [c] => rfl
 | c :: d :: r => by
  have ih := zeH (d :: r)
  have e : ∀ (ts : List Str), Txt.join ("" : Str) ts = Str.join ("" : Str) ts := fun ts => StrLaws.glued_eq_join _ _
  rw [e] at ih ⊢
  show ((⟨#[c]⟩ : Str) ++ ("" : Str) ++ Str.join ("" : Str) ((d :: r).map fun c => (⟨#[c]⟩ : Str))).cps.toList = _
  have : ((⟨#[c]⟩ : Str) ++ ("" : Str) ++ Str.join ("" : Str) ((d :: r).map fun c => (⟨#[c]⟩ : Str))).cps.toList = c :: (Str.join ("" : Str) ((d :: r).map fun c => (⟨#[c]⟩ : Str))).cps.toList := by
   show (#[c] ++ #[] ++ _ : Array Nat).toList = _
   simp
  rw [this, ih]
theorem zjN (cs : List Nat) (h : cs.length ≤ 1000) : JoinOk ("" : Str) (cs.map fun c => (⟨#[c]⟩ : Str)) = true := by
 unfold JoinOk
 rw [Bool.not_eq_true']
 refine StrLaws.joinFits (B := 1) (fun y hy => ?_) ?_
 · obtain ⟨c, _, rfl⟩ := List.mem_map.mp hy
   exact Nat.le_refl 1
 · rw [List.length_map]
   show cs.length * 1 + cs.length * 0 ≤ _
   omega
theorem zeI {cs : List Nat} (h1 : 1 ≤ cs.length) (h8 : cs.length ≤ 8) (ok : ∀ c ∈ cs, zbR c = true) : FieldOk (Txt.join ("" : Str) (cs.map fun c => (⟨#[c]⟩ : Str))) := by
 have e := zeH cs
 have hl : (Txt.join ("" : Str) (cs.map fun c => (⟨#[c]⟩ : Str))).length = cs.length := by
  show Array.size _ = _
  rw [← Array.length_toList, e]
 exact ⟨by rw [hl]; exact h1, by rw [hl]; exact h8, by rw [e]; exact ok⟩
theorem SameB.off {b g p : Addr} {H H' : Hp} {o : HO} (s : SameB b g H H') (hp : H p = none) : SameB b g H (upd H' p o) := fun a x h n1 n2 => by
 have : a ≠ p := fun e => by rw [e, hp] at h; cases h
 rw [zak this]
 exact s a x h n1 n2
theorem Bag.off {b g l p : Addr} {n : Int} {H : Hp} {o : HO} (B : Bag H b g l n) (pb : p ≠ b) (pg : p ≠ g) (pl : p ≠ l) : Bag (upd H p o) b g l n := by
 obtain ⟨gs, ls, c, st, e1, e2, e3, r⟩ := B.ex
 exact ⟨⟨gs, ls, c, st, by rw [zak pb.symm]; exact e1, by rw [zak pg.symm]; exact e2, by rw [zak pl.symm]; exact e3, r⟩, B.gl⟩
theorem SameB.none {b g p : Addr} {H H' : Hp} (s : SameB b g H H') (hp : H' p = none) (pb : p ≠ b) (pg : p ≠ g) : H p = none := by
 cases e : H p with
 | none => rfl
 | some o => rw [s p o e pb pg] at hp; cases hp
def zdX : Sp := fun vs H Q _ => ∃ (a b : Addr) (w w' : List WP), vs = [.ref a, .ref b] ∧ WishAt H a w ∧ WishAt H b w' ∧ WOk w ∧ WOk w' ∧ ∀ H', Same H H' → Q (.bl (zcs w w')) H'
structure WDrawn (w : List WP) : Prop where
 len : w.length ≤ 9
 ok : ∀ p ∈ w, FieldOk p.1 ∧ Good p.2.1 p.2.2
 asc : (w.map (·.1)).Pairwise ltF
theorem WDrawn.wok {w : List WP} (h : WDrawn w) : WOk w := ⟨by have := h.len; omega, fun p hp => ⟨(h.ok p hp).1, (h.ok p hp).2.le⟩, h.asc⟩
structure FieldsAt (H : Hp) (b g : Addr) (a : Addr) (fs : List Str) : Prop where
 at' : H a = some (.lst (fs.map V.str))
 nb : a ≠ b
 ng : a ≠ g
 len : fs.length ≤ 9
 ok : ∀ f ∈ fs, FieldOk f
 asc : fs.Pairwise ltF
theorem FieldsAt.sameB {H H' : Hp} {b g a : Addr} {fs : List Str} (h : FieldsAt H b g a fs) (s : SameB b g H H') : FieldsAt H' b g a fs := ⟨s _ _ h.at' h.nb h.ng, h.nb, h.ng, h.len, h.ok, h.asc⟩
def zdV : Sp := fun vs H Q _ => ∃ (b g l fl : Addr) (n : Int) (fs : List Str), vs = [.ref b, .ref fl] ∧ Bag H b g l n ∧ n ≤ 10 ^ 7 ∧ FieldsAt H b g fl fs ∧
 ∀ (r : Addr) (w : List WP) (H' : Hp), WishAt H' r w → WDrawn w → Bag H' b g l (n + 100) → SameB b g H H' → Q (.ref r) H'
theorem WishAt.sameB {H H' : Hp} {b g l : Addr} {n : Int} {a : Addr} {w : List WP} (h : WishAt H a w) (B : Bag H b g l n) (s : SameB b g H H') : WishAt H' a w := h.keep fun _ _ e => s.tup B e
theorem zft (o : Option Int) : zaD (dE o) = 0 := by cases o <;> rfl
theorem zmM {K : PySem.W.Frag} {H : Hp} {a p t : Addr} {lo hi : Option Int} {Q : VK} (h : SqL K H a [.ref t]) (ht : SqT K H t [eV lo, eV hi]) (hp : SqL K H p []) (q : Q (.bl true) H) : rNeD K (.ref a) (.ref p) H Q := by
 refine ⟨.lst [.tup [dE lo, dE hi]], .lst [], ?_, by rw [Rep]; exact ⟨p, _, rfl, hp, by rw [Reps]⟩, ?_, ?_⟩
 · rw [Rep]
   refine ⟨a, _, rfl, h, ?_⟩
   rw [Reps]
   refine ⟨_, _, rfl, ?_, by rw [Reps]⟩
   rw [Rep]
   refine ⟨t, _, rfl, ht, ?_⟩
   rw [Reps]
   refine ⟨_, _, rfl, zhH lo, ?_⟩
   rw [Reps]
   exact ⟨_, _, rfl, zhH hi, by rw [Reps]⟩
 · rw [zaD, zaC, zaD, zaC, zaC, zaC, zaC, zft, zft]
   decide
 · rw [pyEq, za4 (by simp)]
   exact q
def zam (w : List WP) (f : Str) : Option Int × Option Int := (zaj w f).getD (none, none)
def zeN : Sp := fun vs H Q _ => ∃ (a : Addr) (w : List WP) (f : Str), vs = [.ref a, .str f] ∧ WishAt H a w ∧ WOk w ∧ ∀ (v : V) (H' : Hp), Same H H' → SpanAt H' v (zam w f).1 (zam w f).2 → Q v H'
theorem zmX {c : Nat} (h : zbR c = true) : (Builtin.Str.occurrences ("abcdefghijklmnopqrstuvwxyz" : Str) (⟨#[c]⟩ : Str) 0 ("abcdefghijklmnopqrstuvwxyz" : Str).length 1).isEmpty = false := by
 have h1 : 97 ≤ c := of_decide_eq_true ((Bool.and_eq_true _ _).mp h).1
 have h2 : c ≤ 122 := of_decide_eq_true ((Bool.and_eq_true _ _).mp h).2
 have all : ∀ k : Fin 26, (Builtin.Str.occurrences ("abcdefghijklmnopqrstuvwxyz" : Str) (⟨#[k.val + 97]⟩ : Str) 0 ("abcdefghijklmnopqrstuvwxyz" : Str).length 1).isEmpty = false := by decide +kernel
 have := all ⟨c - 97, by omega⟩
 rw [show (⟨c - 97, by omega⟩ : Fin 26).val + 97 = c from by show c - 97 + 97 = c; omega] at this
 exact this
def zcx : Sp := fun vs H Q _ => ∃ x : Str, vs = [.str x] ∧ FieldOk x ∧ ∀ H', Same H H' → Q (.bl true) H'
def zc0 : Sp := fun vs H Q _ => ∃ lo hi : Option Int, vs = [eV lo, eV hi] ∧ leO lo hi = true ∧ ∀ H', Same H H' → Q (.bl true) H'
def zd5 (ps : List (Addr × PP)) : List (Addr × Key × V) := ps.map fun p => (p.1, (Sum.inr p.2.1 : Key), V.int p.2.2)
theorem ziI (ps : List (Addr × PP)) (pok : POk (ps.map (·.2))) (f : Str) : ∀ (n : Nat), n ≤ ps.length → valV ((zd5 (ps.take n)).foldl (fun acc p => putK acc p.2.1 p.2.2) []) (.inr f : Key) = (zbC ((ps.map (·.2)).take n) f).map V.int := by
 intro n
 induction n with
 | zero => intro _; rfl
 | succ n ih =>
  intro hn
  have e1 : ps[n]? = some ps[n] := by simp
  have ew : (ps.map (·.2))[n]? = some ps[n].2 := by rw [List.getElem?_map, e1]; rfl
  have fr := pok.fresh ew
  rw [zaq e1, zaq ew, ziy _ _ _ fr]
  unfold zd5 at ih ⊢
  rw [List.map_append, List.foldl_append]
  show valV (putK _ (Sum.inr ps[n].2.1 : Key) (V.int ps[n].2.2)) (.inr f) = _
  rw [zdH]
  by_cases hf : f = ps[n].2.1
  · rw [if_pos hf, if_pos (by rw [hf])]
    rfl
  · rw [if_neg hf, if_neg (fun z => hf (by injection z))]
    exact ih (by omega)
theorem zhp (ps : List (Addr × PP)) (pok : POk (ps.map (·.2))) (f : Str) : valV ((zd5 ps).foldl (fun acc p => putK acc p.2.1 p.2.2) []) (.inr f : Key) = (zbC (ps.map (·.2)) f).map V.int := by
 have := ziI ps pok f ps.length (Nat.le_refl _)
 rw [List.take_length, List.take_of_length_le (by simp)] at this
 exact this
def zdZ : Sp := fun vs H Q _ => ∃ (b g l a fl : Addr) (n : Int) (w : List WP) (fs : List Str), vs = [.ref b, .ref a, .ref fl] ∧ Bag H b g l n ∧ n ≤ 10 ^ 7 ∧ WishAt H a w ∧ WDrawn w ∧ FieldsAt H b g fl fs ∧
 ∀ (r : Addr) (w' : List WP) (H' : Hp), WishAt H' r w' → WDrawn w' → Bag H' b g l (n + 300) → SameB b g H H' → Q (.ref r) H'
theorem zaI {w : List WP} {f : Str} {s : Option Int × Option Int} (h : zaj w f = some s) : ∃ p ∈ w, p.1 = f ∧ p.2 = s := by
 unfold zaj at h
 cases e : w.find? (fun p => decide (p.1 = f)) with
 | none => rw [e] at h; cases h
 | some p =>
  rw [e] at h
  have h2 : decide (p.1 = f) = true := List.find?_some (p := fun (p : WP) => decide (p.1 = f)) e
  exact ⟨p, List.mem_of_find?_eq_some e, of_decide_eq_true h2, Option.some.inj h⟩
theorem DictSp.sameB {H H' : Hp} {d b g l : Addr} {n : Int} {w : List WP} (h : DictSp H d w) (B : Bag H b g l n) (db : d ≠ b) (dg : d ≠ g) (s : SameB b g H H') : DictSp H' d w := by
 obtain ⟨kvs, e, l', q⟩ := h
 refine ⟨kvs, s _ _ e db dg, l', fun f => ?_⟩
 have := q f
 cases hs : zaj w f with
 | none => rw [hs] at this; exact this
 | some sp => rw [hs] at this; obtain ⟨t, h1, h2⟩ := this; exact ⟨t, h1, s.tup B h2⟩
theorem DictSp.off {H : Hp} {d r : Addr} {w : List WP} {xs ys : List V} (h : DictSp H d w) (e : H r = some (.lst xs)) : DictSp (upd H r (.lst ys)) d w := by
 obtain ⟨kvs, k1, l', q⟩ := h
 have dr : d ≠ r := fun z => by rw [z, e] at k1; cases k1
 refine ⟨kvs, by rw [zak dr]; exact k1, l', fun f => ?_⟩
 have := q f
 cases hs : zaj w f with
 | none => rw [hs] at this; exact this
 | some sp =>
  rw [hs] at this
  obtain ⟨t, h1, h2⟩ := this
  exact ⟨t, h1, by rw [zak (fun z => by rw [z, e] at h2; cases h2)]; exact h2⟩
theorem zkF {K : PySem.W.Frag} {H : Hp} {a p : Addr} {Q : VK} {js : Cap} {σ cap : St} {tc : TT} {te : TE} (ns : List Int) (c : Int → Bool) (hn : ns.length ≤ 900) (e : SqL K H a (ns.map V.int)) (hp : H p = none) (hσ : inn js σ = none :: cap)
 (ht : ∀ n H' (R : Bool → Hp → Prop), Same H H' → (∀ H'', Same H' H'' → R (c n) H'') → tc (some (.int n) :: cap) H' R) (he : ∀ n H' (R : VK), Same H H' → R (.int n) H' → te (some (.int n) :: cap) H' R)
 (hq : ∀ H', Same H H' → H' p = some (.lst ((ns.filter c).map V.int)) → Q (.ref p) H') : zbE (Itl K a) p js (zdG 0) tc te σ H Q := by
 have s0 := zae hp (.lst [])
 refine zc2 (xs := ns.map V.int) (fun i σ' ys H' => (∃ v, σ' = v :: cap) ∧ Same H H' ∧ H' p = some (.lst ys) ∧ ys = (((ns.take i).filter c).map V.int)) ⟨⟨_, hσ⟩, s0, zab, rfl⟩ ?_ ?_ ?_
 · rintro i σ' ys H' hi ⟨_, s, h1, h2⟩
   refine ⟨s.seq e, h1, ?_⟩
   rw [h2]
   simp only [List.length_map]
   have := List.length_filter_le c (ns.take i)
   rw [List.length_take] at this
   exact zao (by omega)
 · rintro i x σ' ys H' N hx ⟨⟨v, rfl⟩, s, h1, h2⟩ hN
   rw [List.getElem?_map] at hx
   cases e1 : ns[i]? with
   | none => rw [e1] at hx; cases hx
   | some m =>
    rw [e1] at hx
    obtain rfl : V.int m = x := Option.some.inj hx
    refine ht m H' _ s fun H2 s2 => ?_
    cases hc : c m with
    | true =>
     refine iteT (he m H2 _ (s.trans s2) ⟨s2 _ _ h1, hN _ _ _ ⟨⟨_, rfl⟩, za1 (s.trans s2) hp, zab, ?_⟩⟩)
     rw [h2, zaq e1, List.filter_append, List.map_append, List.filter_cons, hc]
     rfl
    | false =>
     refine iteF (hN _ _ _ ⟨⟨_, rfl⟩, s.trans s2, s2 _ _ h1, ?_⟩)
     rw [h2, zaq e1, List.filter_append, List.filter_cons, hc]
     simp
 · rintro σ' ys H' ⟨_, s, h1, h2⟩
   refine hq H' s ?_
   rw [h1, h2, List.take_of_length_le (by simp)]
def kvP (p : List PP) : List (Key × V) := p.map fun x => ((Sum.inr x.1 : Key), V.int x.2)
theorem zhE (f : Str) : ∀ p : List PP, valV (kvP p) (.inr f : Key) = (zbC p f).map V.int
 | [] => rfl
 | x :: r => by
  by_cases h : x.1 = f
  · subst h
    rw [show kvP (x :: r) = ((Sum.inr x.1 : Key), V.int x.2) :: kvP r from rfl, za9 rfl]
    simp [zbC]
  · rw [show kvP (x :: r) = ((Sum.inr x.1 : Key), V.int x.2) :: kvP r from rfl, zba (fun z => h (by injection z)), zhE f r]
    simp [zbC, List.find?_cons, h]
theorem zfo (p : List PP) : (kvP p).map (·.1) = (p.map (·.1)).map Sum.inr := by
 unfold kvP
 rw [List.map_map, List.map_map]
 rfl
theorem zfH {ms fs : List Str} (p : ms.Perm fs) (n : ms.Nodup) (s : sortedS ms = true) (a : fs.Pairwise ltF) : ms = fs :=
 List.Perm.eq_of_pairwise (le := ltF) (fun x y _ _ h1 h2 => absurd (zeh h1 h2) (fun z => zeD z rfl)) (zc5 s n) a p
theorem zfD {w : List WP} {f : Str} (h : zaj w f = none) : ∀ p ∈ w, p.1 ≠ f := fun p hp e => by
 unfold zaj at h
 rw [Option.map_eq_none_iff, List.find?_eq_none] at h
 exact h p hp (decide_eq_true e)
theorem zkE {K : PySem.W.Frag} {H : Hp} {z p : Addr} {Q : VK} {js : Cap} {σ cap : St} {te : TE} (base : List PP) (hb : base.length ≤ 100) (e : SqL K H z ((base.map (·.1)).map V.str)) (hp : H p = none) (hσ : inn js σ = none :: cap)
 (he : ∀ x ∈ base, ∀ H' (R : VK), Same H H' → (∀ t, H' t = none → R (.ref t) (upd H' t (.tup [.str x.1, .int x.2]))) → te (some (.str x.1) :: cap) H' R)
 (hq : ∀ H' (qs : List (Addr × PP)), Same H H' → qs.map (·.2) = base → H' p = some (.lst (qs.map fun q => V.ref q.1)) → (∀ q ∈ qs, H' q.1 = some (.tup [.str q.2.1, .int q.2.2])) → Q (.ref p) H') : zbE (Itl K z) p js (zdG 0) tYes te σ H Q := by
 have s0 := zae hp (.lst [])
 refine zc2 (xs := (base.map (·.1)).map V.str) (fun i σ' ys H' => (∃ v, σ' = v :: cap) ∧ Same H H' ∧ H' p = some (.lst ys) ∧ ∃ qs : List (Addr × PP), ys = qs.map (fun q => V.ref q.1) ∧ qs.map (·.2) = base.take i ∧ ∀ q ∈ qs, H' q.1 = some (.tup [.str q.2.1, .int q.2.2])) ⟨⟨_, hσ⟩, s0, zab, [], rfl, rfl, fun q hq => by simp at hq⟩ ?_ ?_ ?_
 · rintro i σ' ys H' hi ⟨_, s, h1, qs, rfl, h3, _⟩
   refine ⟨s.seq e, h1, ?_⟩
   have := congrArg List.length h3
   rw [List.length_map, List.length_take] at this
   rw [List.length_map]
   exact zao (by omega)
 · rintro i x σ' ys H' N hx ⟨⟨v, rfl⟩, s, h1, qs, rfl, h3, h4⟩ hN
   rw [List.getElem?_map, List.getElem?_map] at hx
   cases e1 : base[i]? with
   | none => rw [e1] at hx; cases hx
   | some m =>
    rw [e1] at hx
    obtain rfl : V.str m.1 = x := Option.some.inj hx
    refine he m (List.mem_of_getElem? e1) H' _ s fun t ht => ?_
    have st := zae ht (.tup [.str m.1, .int m.2])
    have h5 := st _ _ h1
    have tl := zaY (o := .lst (qs.map (fun q => V.ref q.1) ++ [V.ref t])) h5
    refine ⟨h5, hN _ _ _ ⟨⟨_, rfl⟩, za1 (s.trans st) hp, zab, qs ++ [(t, m)], ?_, ?_, ?_⟩⟩
    · rw [List.map_append]; rfl
    · rw [List.map_append, h3, zaq e1]; rfl
    · intro q hq
      rcases List.mem_append.mp hq with z | z
      · exact tl _ _ (st _ _ (h4 q z))
      · rw [List.mem_singleton.mp z]
        exact tl _ _ zab
 · rintro σ' ys H' ⟨_, s, h1, qs, rfl, h3, h4⟩
   refine hq H' qs s ?_ h1 h4
   rw [h3, List.take_of_length_le (by simp)]
def ziV : Sp := fun vs H Q _ => ∃ (b g l : Addr) (n : Int), vs = [.ref b] ∧ Bag H b g l n ∧ n ≤ 10 ^ 6 ∧ ∀ (r p q : Addr) (w w' : List WP) (H' : Hp), H' r = some (.tup [.ref p, .ref q]) → WishAt H' p w → WishAt H' q w' → WDrawn w → WDrawn w' → Bag H' b g l (n + 1000) → SameB b g H H' → Q (.ref r) H'
theorem zlJ {w : List WP} (h : (w.map (·.1)).Pairwise ltF) : ∀ {x y : WP}, x ∈ w → y ∈ w → x.1 = y.1 → x = y := by
 induction w with
 | nil => intro x y hx; simp at hx
 | cons z r ih =>
  rw [List.map_cons, List.pairwise_cons] at h
  intro x y hx hy e
  rcases List.mem_cons.mp hx with e1 | hx1
  · rcases List.mem_cons.mp hy with e2 | hy1
    · rw [e1, e2]
    · rw [e1] at e
      exact absurd e (zeD (h.1 _ (List.mem_map_of_mem hy1)))
  · rcases List.mem_cons.mp hy with e2 | hy1
    · rw [e2] at e
      exact absurd e.symm (zeD (h.1 _ (List.mem_map_of_mem hx1)))
    · exact ih h.2 hx1 hy1 e
theorem zjW {w : List WP} (h : (w.map (·.1)).Pairwise ltF) {x : WP} (hx : x ∈ w) : w.find? (fun p => decide (p.1 = x.1)) = some x := by
 cases e : w.find? (fun p => decide (p.1 = x.1)) with
 | none => exact absurd (decide_eq_true rfl) (List.find?_eq_none.mp e x hx)
 | some y =>
  have h2 : decide (y.1 = x.1) = true := List.find?_some (p := fun (p : WP) => decide (p.1 = x.1)) e
  rw [zlJ h (List.mem_of_find?_eq_some e) hx (of_decide_eq_true h2)]
theorem zcY {w : List WP} (h : (w.map (·.1)).Pairwise ltF) {x : WP} (hx : x ∈ w) : zaj w x.1 = some x.2 := by
 unfold zaj
 rw [zjW h hx]
 rfl
theorem zkx {lo hi : Option Int} (h : ¬ apart lo hi = true) : inB lo hi (zdb lo hi) = true := by
 cases lo <;> cases hi <;> simp [apart, inB, loB, hiB, zdb] at h ⊢
 exact decide_eq_true h
end L2
namespace L2
open PySem.W PyProof.Rows
namespace KS
def sat {α : Type} (lt : Nat → Nat → Bool) (n : Nat) : KasT α → (α → Prop) → Prop
 | .ret a, Q => Q a
 | .ask i j k, Q => i < n ∧ j < n ∧ sat lt n (k (lt i j)) Q
variable {lt : Nat → Nat → Bool} {N : Nat}
theorem zcK {α β : Type} {f : α → KasT β} {Q : β → Prop} : ∀ (t : KasT α), sat lt N t (fun a => sat lt N (f a) Q) → sat lt N (t.bind f) Q
 | .ret _, h => h
 | .ask _ _ k, ⟨h1, h2, h⟩ => ⟨h1, h2, zcK (k _) h⟩
theorem zbf {α : Type} {Q Q' : α → Prop} (hq : ∀ a, Q a → Q' a) : ∀ (t : KasT α), sat lt N t Q → sat lt N t Q'
 | .ret a, h => hq a h
 | .ask _ _ k, ⟨h1, h2, h⟩ => ⟨h1, h2, zbf hq (k _) h⟩
structure Ord (lt : Nat → Nat → Bool) : Prop where
 as : ∀ a b, lt a b = true → lt b a = false
 tr : ∀ a b c, lt b a = false → lt c b = false → lt c a = false
theorem Ord.rfl' (O : Ord lt) (a : Nat) : lt a a = false := by
 cases h : lt a a with
 | false => rfl
 | true => exact (O.as a a h).symm.trans h ▸ rfl
abbrev K (p : Array Nat) (i : Nat) : Nat := p.getD i 0
structure Ok (N : Nat) (p : Array Nat) : Prop where
 perm : p.toList.Perm (List.range N)
theorem Ok.size {p : Array Nat} (h : Ok N p) : p.size = N := by
 have := h.perm.length_eq
 simpa using this
theorem Ok.below {p : Array Nat} (h : Ok N p) {i : Nat} (hi : i < N) : K p i < N := by
 have hs : i < p.size := by rw [h.size]; exact hi
 have : p.getD i 0 = p[i] := by simp [Array.getD, hs]
 show p.getD i 0 < N
 rw [this]
 have m : p[i] ∈ p.toList := by simp
 exact List.mem_range.mp (h.perm.mem_iff.mp m)
theorem Ok.of_perm {p q : Array Nat} (h : Ok N p) (e : q.Perm p) : Ok N q := ⟨(Array.perm_iff_toList_perm.mp e).trans h.perm⟩
theorem Ok.rev {p : Array Nat} (h : Ok N p) (i j : Nat) : Ok N (kas_rev p i j) := h.of_perm (mirror_perm _ _ _ _)
theorem Ok.bub {p : Array Nat} (h : Ok N p) (i j : Nat) : Ok N (bubble p i j) := h.of_perm (bubble_perm _ _ _)
theorem K_of {p q : Array Nat} {i j : Nat} (h : p[i]? = q[j]?) : K p i = K q j := by
 show p.getD i 0 = q.getD j 0
 rw [Array.getD_eq_getD_getElem?, Array.getD_eq_getD_getElem?, h]
theorem zlM {p : Array Nat} (h : Ok N p) {i j : Nat} (hj : j ≤ N) (k : Nat) : K (kas_rev p i j) k = if i ≤ k ∧ k < j then K p (i + j - 1 - k) else K p k := by
 have e := getElem?_mirror_all (xs := p) (i := i) (j := j) (by rw [h.size]; exact hj) k
 split
 · rename_i c
   rw [if_pos c] at e
   exact K_of e
 · rename_i c
   rw [if_neg c] at e
   exact K_of e
theorem zmx {p : Array Nat} (h : Ok N p) {k l : Nat} (hk : k < N) (hl : l ≤ k) (i : Nat) : K (bubble p k (k - l)) i = if i = l then K p k else if l < i ∧ i ≤ k then K p (i - 1) else K p i := by
 have e := getElem?_bubble (xs := p) (src := k) (by rw [h.size]; exact hk) (k - l) (by omega) i
 have e1 : k - (k - l) = l := by omega
 rw [e1] at e
 split
 · rename_i c
   rw [if_pos c] at e
   exact K_of e
 · rename_i c
   rw [if_neg c] at e
   split
   · rename_i d
     rw [if_pos d] at e
     exact K_of e
   · rename_i d
     rw [if_neg d] at e
     exact K_of e
def Srt (lt : Nat → Nat → Bool) (p : Array Nat) (m : Nat) : Prop := ∀ i j, i < j → j < m → lt (K p j) (K p i) = false
def Dsc (lt : Nat → Nat → Bool) (p : Array Nat) (m : Nat) : Prop := ∀ i j, i < j → j < m → lt (K p i) (K p j) = false
def Eqv (lt : Nat → Nat → Bool) (a b : Nat) : Prop := lt a b = false ∧ lt b a = false
theorem Eqv.symm {a b : Nat} (h : Eqv lt a b) : Eqv lt b a := ⟨h.2, h.1⟩
theorem Ord.refl (O : Ord lt) (a : Nat) : Eqv lt a a := ⟨O.rfl' a, O.rfl' a⟩
theorem Ord.eqv_trans (O : Ord lt) {a b c : Nat} (h : Eqv lt a b) (h' : Eqv lt b c) : Eqv lt a c := ⟨O.tr c b a h'.1 h.1, O.tr a b c h.2 h'.2⟩
theorem Ord.via (O : Ord lt) {a b a' b' : Nat} (h1 : Eqv lt a a') (h2 : Eqv lt b b') (h : lt a' b' = false) : lt a b = false :=
 O.tr b b' a h2.symm.1 (O.tr b' a' a h h1.1)
theorem zkd (O : Ord lt) {p : Array Nat} (h : Ok N p) : ∀ (f n : Nat), 1 ≤ n → n + f ≤ N → Srt lt p n →
 sat lt N (kas_asc p f n) (fun m => n ≤ m ∧ m ≤ n + f ∧ Srt lt p m ∧ (m < n + f → lt (K p m) (K p (m - 1)) = true))
 | 0, n, _, _, s => ⟨Nat.le_refl _, Nat.le_refl _, s, fun z => absurd z (by omega)⟩
 | f + 1, n, h1, h2, s => by
  refine ⟨h.below (by omega), h.below (by omega), ?_⟩
  cases c : lt (p.getD n 0) (p.getD (n - 1) 0) with
  | true => exact ⟨Nat.le_refl _, by omega, s, fun _ => c⟩
  | false =>
   show sat lt N (kas_asc p f (n + 1)) _
   refine zbf (fun m hm => ?_) _ (zkd O h f (n + 1) (by omega) (by omega) ?_)
   · obtain ⟨a1, a2, a3, a4⟩ := hm
     exact ⟨by omega, by omega, a3, fun z => a4 (by omega)⟩
   · intro i j hij hj
     by_cases hjn : j < n
     · exact s i j hij hjn
     · obtain rfl : j = n := by omega
       by_cases hi : i = j - 1
       · subst hi; exact c
       · exact O.tr _ (K p (j - 1)) _ (s i (j - 1) (by omega) (by omega)) c
theorem zgS (O : Ord lt) {p : Array Nat} (h : Ok N p) {i j : Nat} (hj : j ≤ N) (he : ∀ k, i ≤ k → k < j → Eqv lt (K p k) (K p (j - 1))) (k : Nat) : Eqv lt (K (kas_rev p i j) k) (K p k) := by
 rw [zlM h hj]
 split
 · rename_i c
   exact O.eqv_trans (he _ (by omega) (by omega)) (he k c.1 c.2).symm
 · exact O.refl _
theorem Dsc.eqv (O : Ord lt) {p q : Array Nat} {m : Nat} (h : Dsc lt p m) (e : ∀ k, Eqv lt (K q k) (K p k)) : Dsc lt q m := fun i j hij hj => O.via (e i) (e j) (h i j hij hj)
def EqT (lt : Nat → Nat → Bool) (p : Array Nat) (m q : Nat) : Prop := ∀ i, m - (q + 1) ≤ i → i < m → Eqv lt (K p i) (K p (m - 1))
theorem Dsc.snoc (O : Ord lt) {p : Array Nat} {n : Nat} (h1 : 1 ≤ n) (s : Dsc lt p n) (c : lt (K p (n - 1)) (K p n) = false) : Dsc lt p (n + 1) := by
 intro i j hij hj
 by_cases hjn : j < n
 · exact s i j hij hjn
 · obtain rfl : j = n := by omega
   by_cases hi : i = j - 1
   · subst hi; exact c
   · exact O.tr _ (K p (j - 1)) _ c (s i (j - 1) (by omega) (by omega))
theorem zfs (O : Ord lt) : ∀ (f : Nat) (p : Array Nat) (n q : Nat), Ok N p → q + 1 ≤ n → n + f ≤ N → Dsc lt p n → EqT lt p n q →
 sat lt N (kas_desc f p n q) (fun r => Ok N r.1 ∧ n ≤ r.2.1 ∧ r.2.1 ≤ n + f ∧ Dsc lt r.1 r.2.1 ∧ EqT lt r.1 r.2.1 r.2.2 ∧ r.2.2 + 1 ≤ r.2.1)
 | 0, p, n, q, h, h1, h2, s, e => ⟨h, Nat.le_refl _, Nat.le_refl _, s, e, h1⟩
 | f + 1, p, n, q, h, h1, h2, s, e => by
  refine ⟨h.below (by omega), h.below (by omega), ?_⟩
  cases c : lt (p.getD n 0) (p.getD (n - 1) 0) with
  | true =>
   have c' : lt (K p (n - 1)) (K p n) = false := O.as _ _ c
   have s' := s.snoc O (by omega) c'
   show sat lt N (if q > 0 then kas_desc f (kas_rev p (n - (q + 1)) n) (n + 1) 0 else kas_desc f p (n + 1) 0) _
   have t1 : ∀ p', EqT lt p' (n + 1) 0 := fun p' i hi1 hi2 => by
    obtain rfl : i = n := by omega
    exact O.refl _
   split
   · refine zbf (fun m hm => ?_) _ (zfs O f (kas_rev p (n - (q + 1)) n) (n + 1) 0 (h.rev _ _) (by omega) (by omega) (s'.eqv O (zgS O h (by omega) e)) (t1 _))
     obtain ⟨a1, a2, a3, a4⟩ := hm
     exact ⟨a1, by omega, by omega, a4⟩
   · refine zbf (fun m hm => ?_) _ (zfs O f p (n + 1) 0 h (by omega) (by omega) s' (t1 _))
     obtain ⟨a1, a2, a3, a4⟩ := hm
     exact ⟨a1, by omega, by omega, a4⟩
  | false =>
   show sat lt N (KasT.ask (p.getD (n - 1) 0) (p.getD n 0) fun d => if d = true then KasT.ret (p, n, q) else kas_desc f p (n + 1) (q + 1)) _
   refine ⟨h.below (by omega), h.below (by omega), ?_⟩
   cases d : lt (p.getD (n - 1) 0) (p.getD n 0) with
   | true => exact ⟨h, Nat.le_refl _, by show n ≤ n + (f + 1); omega, s, e, h1⟩
   | false =>
    show sat lt N (kas_desc f p (n + 1) (q + 1)) _
    refine zbf (fun m hm => ?_) _ (zfs O f p (n + 1) (q + 1) h (by omega) (by omega) (s.snoc O (by omega) d) ?_)
    · obtain ⟨a1, a2, a3, a4⟩ := hm
      exact ⟨a1, by omega, by omega, a4⟩
    · intro i hi1 hi2
      have en : Eqv lt (K p (n - 1)) (K p n) := ⟨d, c⟩
      by_cases hin : i = n
      · subst hin; exact O.refl _
      · exact O.eqv_trans (e i (by omega) (by omega)) en
theorem ziR (O : Ord lt) {p : Array Nat} {n nrem : Nat} (h : Ok N p) (h1 : 1 ≤ n) (h2 : n ≤ nrem) (h3 : nrem ≤ N) (s : Dsc lt p n) :
 sat lt N (kas_tail3 n nrem p) (fun r => Ok N r.2 ∧ 1 ≤ r.1 ∧ r.1 ≤ nrem ∧ Srt lt r.2 r.1) := by
 unfold kas_tail3
 refine zcK _ (zbf (fun m hm => ?_) _ (zkd O (h.rev 0 n) (nrem - n) n h1 (by omega) ?_))
 · obtain ⟨a1, a2, a3, _⟩ := hm
   exact ⟨h.rev 0 n, by show 1 ≤ m; omega, by show m ≤ nrem; omega, a3⟩
 · intro i j hij hj
   rw [zlM h (by omega), zlM h (by omega), if_pos (by omega), if_pos (by omega)]
   exact s _ _ (by omega) (by omega)
theorem zej (O : Ord lt) {p : Array Nat} {n nrem : Nat} (h : Ok N p) (h1 : 1 ≤ n) (h2 : n + 1 ≤ nrem) (h3 : nrem ≤ N) (s : Dsc lt p (n + 1)) :
 sat lt N (kas_descPart n nrem p) (fun r => Ok N r.2 ∧ 1 ≤ r.1 ∧ r.1 ≤ nrem ∧ Srt lt r.2 r.1) := by
 unfold kas_descPart
 refine zcK _ (zbf (fun r hr => ?_) _ (zfs O (nrem - (n + 1)) p (n + 1) 0 h (by omega) (by omega) s fun i i1 i2 => ?_))
 · obtain ⟨a1, a2, a3, a4, a5, a6⟩ := hr
   split
   · exact ziR O (a1.rev _ _) (by omega) (by omega) h3 (a4.eqv O (zgS O a1 (by omega) a5))
   · exact ziR O a1 (by omega) (by omega) h3 a4
 · obtain rfl : i = n := by omega
   exact O.refl _
theorem zkT (O : Ord lt) {p : Array Nat} {nrem : Nat} (h : Ok N p) (h1 : 1 ≤ nrem) (h3 : nrem ≤ N) :
 sat lt N (kas_count nrem p) (fun r => Ok N r.2 ∧ 1 ≤ r.1 ∧ r.1 ≤ nrem ∧ Srt lt r.2 r.1) := by
 unfold kas_count
 refine zcK _ (zbf (fun n hn => ?_) _ (zkd O h (nrem - 1) 1 (Nat.le_refl _) (by omega) fun i j hij hj => absurd hj (by omega)))
 obtain ⟨a1, a2, a3, a4⟩ := hn
 split
 · exact ⟨h, a1, by show n ≤ nrem; omega, a3⟩
 · rename_i ne
   have hlt : n < nrem := by
    have : n ≠ nrem := fun z => ne (by rw [z]; simp)
    omega
   have c := a4 (by omega)
   have c' := O.as _ _ c
   split
   · refine ⟨h.below (by omega), h.below (by omega), ?_⟩
     cases d : lt (p.getD 0 0) (p.getD (n - 1) 0) with
     | true => exact ⟨h, a1, by show n ≤ nrem; omega, a3⟩
     | false =>
      show sat lt N (kas_descPart n nrem (kas_rev p 0 n)) _
      have al : ∀ k, 0 ≤ k → k < n → Eqv lt (K p k) (K p (n - 1)) := by
       intro k _ hk
       have u1 : lt (K p (n - 1)) (K p k) = false := by
        by_cases z : k = n - 1
        · subst z; exact O.rfl' _
        · exact a3 k (n - 1) (by omega) (by omega)
       have u0 : lt (K p k) (K p 0) = false := by
        by_cases z : k = 0
        · subst z; exact O.rfl' _
        · exact a3 0 k (by omega) hk
       exact ⟨O.tr _ (K p 0) _ d u0, u1⟩
      refine zej O (h.rev 0 n) a1 (by omega) h3 ?_
      have dn : Dsc lt p n := fun i j hij hj => O.via (al i (by omega) (by omega)) (al j (by omega) hj) (O.rfl' _)
      exact (dn.snoc O a1 c').eqv O (zgS O h (by omega) al)
   · refine zej O h a1 (by omega) h3 ?_
     refine Dsc.snoc O a1 (fun i j hij hj => absurd hj (by omega)) c'
theorem ze7 (O : Ord lt) {p : Array Nat} (h : Ok N p) {k : Nat} (hk : k < N) (s : Srt lt p k) : ∀ (f l r : Nat), l ≤ r → r ≤ k → r - l ≤ f → (∀ i, i < l → lt (K p k) (K p i) = false) → (∀ i, r ≤ i → i < k → lt (K p k) (K p i) = true) →
 sat lt N (kas_place p k f l r) (fun L => L ≤ k ∧ (∀ i, i < L → lt (K p k) (K p i) = false) ∧ ∀ i, L ≤ i → i < k → lt (K p k) (K p i) = true)
 | 0, l, r, h1, h2, h3, a, b => by
  obtain rfl : l = r := by omega
  exact ⟨h2, a, b⟩
 | f + 1, l, r, h1, h2, h3, a, b => by
  unfold kas_place
  split
  · obtain rfl : l = r := by omega
    exact ⟨h2, a, b⟩
  · refine ⟨h.below hk, h.below (by omega), ?_⟩
    cases c : lt (p.getD k 0) (p.getD ((l + r) / 2) 0) with
    | true =>
     show sat lt N (kas_place p k f l ((l + r) / 2)) _
     refine ze7 O h hk s f l _ (by omega) (by omega) (by omega) a fun i i1 i2 => ?_
     cases d : lt (K p k) (K p i) with
     | true => rfl
     | false =>
      have : lt (K p k) (K p ((l + r) / 2)) = false := by
       by_cases z : i = (l + r) / 2
       · rw [← z]; exact d
       · exact O.tr _ (K p i) _ (s _ _ (by omega) i2) d
      rw [show lt (K p k) (K p ((l + r) / 2)) = true from c] at this
      cases this
    | false =>
     show sat lt N (kas_place p k f ((l + r) / 2 + 1) r) _
     refine ze7 O h hk s f _ r (by omega) h2 (by omega) (fun i hi => ?_) b
     by_cases z : i = (l + r) / 2
     · rw [z]; exact c
     · exact O.tr _ (K p ((l + r) / 2)) _ (s _ _ (by omega) (by omega)) c
theorem zk9 (O : Ord lt) : ∀ (f : Nat) (p : Array Nat) (k : Nat), Ok N p → k + f ≤ N → 1 ≤ k → Srt lt p k → sat lt N (kas_bin f p k) (fun q => Ok N q ∧ Srt lt q (k + f))
 | 0, p, k, h, _, _, s => ⟨h, s⟩
 | f + 1, p, k, h, h1, h2, s => by
  unfold kas_bin
  refine zcK _ (zbf (fun l hl => ?_) _ (ze7 O h (by omega) s k 0 k (by omega) (Nat.le_refl _) (by omega) (fun i hi => absurd hi (by omega)) fun i i1 i2 => absurd i2 (by omega)))
  obtain ⟨l1, a, b⟩ := hl
  have e : k + 1 + f = k + (f + 1) := by omega
  rw [← e]
  refine zk9 O f _ (k + 1) (h.bub k (k - l)) (by omega) (by omega) fun i j hij hj => ?_
  rw [zmx h (by omega) l1, zmx h (by omega) l1]
  by_cases jl : j = l
  · rw [if_pos jl, if_neg (by omega), if_neg (by omega)]
    exact a i (by omega)
  · rw [if_neg jl]
    by_cases jm : l < j ∧ j ≤ k
    · rw [if_pos jm]
      by_cases il : i = l
      · rw [if_pos il]
        exact O.as _ _ (b (j - 1) (by omega) (by omega))
      · rw [if_neg il]
        by_cases im : l < i ∧ i ≤ k
        · rw [if_pos im]
          exact s _ _ (by omega) (by omega)
        · rw [if_neg im]
          exact s _ _ (by omega) (by omega)
    · rw [if_neg jm, if_neg (by omega), if_neg (by omega)]
      exact s _ _ hij (by omega)
theorem sort_ok (O : Ord lt) (h1 : 1 ≤ N) : sat lt N (kas_sort N) (fun q => Ok N q ∧ Srt lt q N) := by
 unfold kas_sort
 refine zcK _ (zbf (fun r hr => ?_) _ (zkT O (p := (List.range N).toArray) ⟨by simp⟩ h1 (Nat.le_refl _)))
 obtain ⟨a1, a2, a3, a4⟩ := hr
 split
 · have e : max r.1 1 = r.1 := by omega
   rw [e]
   refine zbf (fun q hq => ?_) _ (zk9 O (N - r.1) r.2 r.1 a1 (by omega) a2 a4)
   rw [show r.1 + (N - r.1) = N by omega] at hq
   exact hq
 · have e : r.1 = N := by omega
   rw [e] at a4
   exact ⟨a1, a4⟩
open PySem in
theorem sat_wp {α : Type} {cmp : Nat → Nat → (Bool → Shared → Prop) → Shared → Prop} {Q : α → Prop} {G : α → Shared → Prop} {s : Shared} (hc : ∀ i j C, i < N → j < N → C (lt i j) s → cmp i j C s) (hq : ∀ a, Q a → G a s) :
 ∀ t : KasT α, sat lt N t Q → t.kasWp cmp G s
 | .ret a, h => hq a h
 | .ask i j k, ⟨h1, h2, h⟩ => hc i j _ h1 h2 (sat_wp hc hq (k _) h)
end KS
end L2
set_option maxHeartbeats 1000000
namespace L2
open PySem PySem.Spec PyProof.Rows PySem.W
section
variable {prog : Program} {w : World} {A : Around} {E : Value → Shared → Prop} {s : Shared}
def ziq (vs : List Value) (p : Array Nat) : Array Value := (p.toList.map fun i => vs.getD i Value.none).toArray
theorem zf2 {a : Addr} {vs : List Value} {n : Nat} {P : PySem.Fin → Shared → Prop} {κ : SortKind} {lt : Nat → Nat → Bool} (O : KS.Ord lt) (ho : s.heap.get? a = some (seqObj "list" vs.toArray n)) (h64 : vs.length < 64)
 (hk : 2 ≤ vs.length → ∀ h' : Heap, (∀ b o, b ≠ a → s.heap.get? b = some o → h'.get? b = some o) → ∀ Q : SortKind → Shared → Prop, Q κ { s with heap := h' } → wpAny (model prog w) A (keyKind' vs.toArray) Q E { s with heap := h' })
 (hc : ∀ h' : Heap, (∀ b o, b ≠ a → s.heap.get? b = some o → h'.get? b = some o) → ∀ i j, i < vs.length → j < vs.length → ∀ C : Bool → Shared → Prop, C (lt i j) { s with heap := h' } →
  wpAny (model prog w) A (keyLt' κ (vs.getD i Value.none) (vs.getD j Value.none)) C (fun _ _ => False) { s with heap := h' })
 (h : ∀ p : Array Nat, KS.Ok vs.length p → KS.Srt lt p vs.length → P (.done (.ret .none)) { s with heap := sortedHeap s.heap a vs (ziq vs p) }) :
 wpAny (model prog w) A (Builtin.«list.sort» ⟨[.ref a], []⟩) P E s := by
 rw [list_sort_plain]
 have ha : a < s.heap.objs.size := Heap.lt_size ho
 refine wpAny_bind (listItems_at ho rfl ?_)
 refine wpAny_bind (listUpdate_at ho rfl ?_ (by rw [List.size_toArray, sizeLine_eq]; omega) (Nat.zero_le _))
 obtain ⟨e1, ho1⟩ : ∃ e1, (s.heap.update a (Obj.mapSeq fun _ => #[])).get? a = some (seqObj "list" #[] e1) := ⟨_, get?_update_seq ho (fun _ => #[])⟩
 refine wpAny_bind (seqEpoch_at ho1 rfl ?_)
 refine wpAny_bind (wpAny_newTuple ?_ (by show vs.length ≤ _; rw [sizeLine_eq]; omega))
 refine wpAny_bind (wpAny_newList ?_ (Nat.zero_le _))
 refine wpAny_holding ?_
 have ho6 : (((s.heap.update a (Obj.mapSeq fun _ => #[])).push (seqObj "tuple" vs.toArray 0)).push (seqObj "list" #[] 0)).get? a = some (seqObj "list" #[] e1) := by
  rw [Heap.get?_push_ne _ _ _ (by rw [size_push', Heap.size_update]; exact Nat.ne_of_lt (Nat.lt_succ_of_lt ha)), Heap.get?_push_ne _ _ _ (by rw [Heap.size_update]; exact Nat.ne_of_lt ha)]
  exact ho1
 have kept : ∀ b o, b ≠ a → s.heap.get? b = some o → (((s.heap.update a (Obj.mapSeq fun _ => #[])).push (seqObj "tuple" vs.toArray 0)).push (seqObj "list" #[] 0)).get? b = some o := fun b o hb q => by
  have hlt := Heap.lt_size q
  rw [Heap.get?_push_ne _ _ _ (by rw [size_push', Heap.size_update]; exact Nat.ne_of_lt (Nat.lt_succ_of_lt hlt)), Heap.get?_push_ne _ _ _ (by rw [Heap.size_update]; exact Nat.ne_of_lt hlt), Heap.get?_update_ne _ _ _ _ hb]
  exact q
 show wpAny (model prog w) A _ P E { s with heap := ((s.heap.update a (Obj.mapSeq fun _ => #[])).push (seqObj "tuple" vs.toArray 0)).push (seqObj "list" #[] 0) }
 dsimp only
 have hsz : vs.toArray.size = vs.length := by simp
 by_cases h2 : vs.toArray.size < 2
 · rw [if_pos h2, if_pos h2]
   refine wpAny_bind (wpAny_pure ?_)
   rw [StateT.run_pure]
   refine wpAny_bind (wpAny_pure ?_)
   dsimp only
   refine wpAny_bind (seqEpoch_at ho6 rfl ?_)
   refine wpAny_bind (listUpdate_at ho6 rfl ?_ (hsz2 := by rw [Array.size_map]; show (pairsOf vs).size ≤ _; rw [pairsOf_size, sizeLine_eq]; omega))
   simp only [bne_self_eq_false, Bool.false_eq_true, if_false]
   have hp := h (List.range vs.length).toArray ⟨by simp⟩ (fun i j hij hj => absurd hj (by rw [hsz] at h2; omega))
   have e : (arrOf (SortSt.mk' general' (vs.toArray.zip vs.toArray) #[] 7 none)).map (·.2) = ziq vs (List.range vs.length).toArray := by
    have e1 := kas_range (vs.toArray.zip vs.toArray)
    have e2 : (vs.toArray.zip vs.toArray).size = vs.length := by simp
    rw [e2] at e1
    exact kat_snds (ks := vs) rfl (st := SortSt.mk' general' (vs.toArray.zip vs.toArray) #[] 7 none) (p := (List.range vs.length).toArray) e1.symm
   refine wpAny_pure ?_
   show P _ { s with heap := sortedHeap s.heap a vs ((arrOf (SortSt.mk' general' (vs.toArray.zip vs.toArray) #[] 7 none)).map (·.2)) }
   rw [e]
   exact hp
 · rw [if_neg h2, if_neg h2]
   rw [hsz] at h2
   refine wpAny_bind (hk (by omega) _ kept _ ?_)
   have tree : (kas_sort vs.length).kasWp (kas_ask prog w A κ vs) (fun p s' => s' = { s with heap := ((s.heap.update a (Obj.mapSeq fun _ => #[])).push (seqObj "tuple" vs.toArray 0)).push (seqObj "list" #[] 0) } ∧ KS.Ok vs.length p ∧ KS.Srt lt p vs.length)
    { s with heap := ((s.heap.update a (Obj.mapSeq fun _ => #[])).push (seqObj "tuple" vs.toArray 0)).push (seqObj "list" #[] 0) } :=
    KS.sat_wp (fun i j C hi hj hC => hc _ kept i j hi hj C hC) (fun p hp => ⟨rfl, hp⟩) _ (KS.sort_ok O (by omega))
   refine wpAny_bind (wpAny_mono (kat_run (Q := fun st' s' => ∃ p : Array Nat, p.size = vs.length ∧ arrOf st' = p.map (kas_item (vs.toArray.zip vs.toArray)) ∧ failedOf st' = none ∧ s' = { s with heap := ((s.heap.update a (Obj.mapSeq fun _ => #[])).push (seqObj "tuple" vs.toArray 0)).push (seqObj "list" #[] 0) } ∧ KS.Ok vs.length p ∧ KS.Srt lt p vs.length)
    rfl (by omega) h64 (fun p' st' s' a1 a2 a3 a4 => ⟨p', a1, a2, a3, a4⟩) tree) ?_ fun _ _ e => e)
   rintro ⟨⟨⟩, st'⟩ s' ⟨p, hp, har, hf, rfl, ok, srt⟩
   dsimp only
   have hout := kat_snds rfl har
   refine wpAny_bind (seqEpoch_at ho6 rfl ?_)
   refine wpAny_bind (listUpdate_at ho6 rfl ?_ (hsz2 := by rw [hout]; show (p.toList.map fun i => vs.getD i Value.none).length ≤ _; rw [List.length_map, Array.length_toList, hp, sizeLine_eq]; omega))
   rw [hf]
   simp only [bne_self_eq_false, Bool.false_eq_true, if_false]
   rw [hout]
   exact wpAny_pure (h p ok srt)
theorem zi2 {l : Addr} {vs : List Value} {Q : Value → Shared → Prop} {κ : SortKind} {lt : Nat → Nat → Bool} (O : KS.Ord lt) (hl : s.heap.IsList l vs.toArray) (h64 : vs.length < 64)
 (hk : 2 ≤ vs.length → ∀ h' : Heap, (∀ b o, s.heap.get? b = some o → h'.get? b = some o) → ∀ (A : Around) (E : Value → Shared → Prop) (Q : SortKind → Shared → Prop), Q κ { s with heap := h' } → wpAny (model prog w) A (keyKind' vs.toArray) Q E { s with heap := h' })
 (hc : ∀ h' : Heap, (∀ b o, s.heap.get? b = some o → h'.get? b = some o) → ∀ i j, i < vs.length → j < vs.length → ∀ C : Bool → Shared → Prop, C (lt i j) { s with heap := h' } →
  wpAny (model prog w) A.in1.in1 (keyLt' κ (vs.getD i Value.none) (vs.getD j Value.none)) C (fun _ _ => False) { s with heap := h' })
 (h : ∀ p : Array Nat, KS.Ok vs.length p → KS.Srt lt p vs.length → Q (.ref (s.heap.objs.size + 1)) { s with heap := sortedAll s.heap vs (ziq vs p) }) :
 wpAny (model prog w) A (call (.builtin "sorted") [.ref l]) Q E s := by
 refine Calls.call_function_entry kind_sorted plain_sorted entry_sorted (args_sorted1 _) ?_
 unfold Builtin.«sorted»
 refine wpAny_bind (m := checkCount "sorted" 1 1 _) (wpAny_pure ?_)
 refine wpAny_bind (collect_list hl ?_ (by rw [sizeLine_eq]; omega))
 refine wpAny_bind (wpAny_newList ?_ (by rw [sizeLine_eq]; omega))
 have hsz : ((s.heap.push (seqObj "list" #[] 0)).update s.heap.objs.size (Obj.mapSeq (· ++ vs.toArray))).objs.size = s.heap.objs.size + 1 := by
  rw [Heap.size_update, size_push']
 have hoL : (((s.heap.push (seqObj "list" #[] 0)).update s.heap.objs.size (Obj.mapSeq (· ++ vs.toArray))).push (seqObj "list" vs.toArray 0)).get? (s.heap.objs.size + 1) = some (seqObj "list" vs.toArray 0) := by
  rw [← hsz]; exact Heap.get?_push_size _ rfl
 have keep : ∀ b o, s.heap.get? b = some o → (((s.heap.push (seqObj "list" #[] 0)).update s.heap.objs.size (Obj.mapSeq (· ++ vs.toArray))).push (seqObj "list" vs.toArray 0)).get? b = some o := fun b o q => by
  have hlt : b < s.heap.objs.size := Heap.lt_size q
  rw [Heap.get?_push_ne _ _ _ (by rw [hsz]; exact Nat.ne_of_lt (Nat.lt_succ_of_lt hlt)), Heap.get?_update_ne _ _ _ _ (Nat.ne_of_lt hlt), Heap.get?_push_ne _ _ _ (Nat.ne_of_lt hlt)]
  exact q
 have ne : ∀ b o, s.heap.get? b = some o → b ≠ s.heap.objs.size + 1 := fun b o q => Nat.ne_of_lt (Nat.lt_succ_of_lt (Heap.lt_size q))
 show wpAny _ _ _ _ _ { s with heap := ((s.heap.push (seqObj "list" #[] 0)).update s.heap.objs.size (Obj.mapSeq (· ++ vs.toArray))).push (seqObj "list" vs.toArray 0) }
 rw [hsz]
 refine wpAny_bind (wpAny_holding (wpAny_call_entry slot_list_sort ⟨_, hoL, rfl⟩ entry_list_sort (zf2 (s := { s with heap := ((s.heap.push (seqObj "list" #[] 0)).update s.heap.objs.size (Obj.mapSeq (· ++ vs.toArray))).push (seqObj "list" vs.toArray 0) }) O hoL h64
  (fun h2 h' kp Q' q => hk h2 h' (fun b o e => kp b o (ne b o e) (keep b o e)) _ _ Q' q) (fun h' kp i j hi hj C q => hc h' (fun b o e => kp b o (ne b o e) (keep b o e)) i j hi hj C q) fun p ok srt => ⟨_, rfl, ?_⟩) (args_list_sort _)))
 exact wpAny_pure ⟨_, rfl, h p ok srt⟩
end
end L2
namespace L2
open PySem PySem.Spec PyProof.Rows PySem.W
theorem zdP {α : Type} {f : α → Addr} : ∀ {ps : List α} {us : List Value}, Vals (ps.map fun p => V.ref (f p)) us → us = ps.map fun p => Value.ref (f p)
 | [], _, h => by cases h; rfl
 | p :: ps, _, h => by
  rw [List.map_cons] at h
  cases h with
  | cons r h =>
   obtain rfl : _ = Value.ref (f p) := r
   rw [zdP h]
   rfl
theorem zfY {α : Type} {l : List α} (h : l.Nodup) {i j : Nat} (hi : i < l.length) (hj : j < l.length) (e : l[i] = l[j]) : i = j := by
 rcases Nat.lt_trichotomy i j with u | u | u
 · exact absurd e (List.pairwise_iff_getElem.mp h i j hi hj u)
 · exact u
 · exact absurd e.symm (List.pairwise_iff_getElem.mp h j i hj hi u)
theorem zlx {x y : List Nat} (h : x < y) : ¬ y < x := fun h' => List.lt_irrefl x (List.lt_trans h h')
theorem zmN {x y z : List Nat} (h1 : ¬ y < x) (h2 : ¬ z < y) : ¬ z < x := fun h => by
 rcases Std.lt_trichotomy (α := List Nat) x y with e | e | e
 · exact h2 (List.lt_trans h e)
 · subst e; exact h2 h
 · exact h1 e
theorem zme (k : Nat → List Nat) : KS.Ord (fun i j => decide (k i < k j)) :=
 ⟨fun a b h => decide_eq_false (zlx (of_decide_eq_true h)), fun a b c h1 h2 => decide_eq_false (zmN (of_decide_eq_false h1) (of_decide_eq_false h2))⟩
abbrev TI3 := Addr × Str × Int
def d3 : TI3 := (0, "", 0)
theorem zhM {α : Type} (d : α) {ps : List α} {p : Array Nat} (h : KS.Ok ps.length p) : (p.toList.map fun i => ps.getD i d).Perm ps := by
 have e : (List.range ps.length).map (fun i => ps.getD i d) = ps := by
  apply List.ext_getElem
  · simp
  · intro i h1 h2
    simp [h2]
 have := h.perm.map (fun i => ps.getD i d)
 rw [e] at this
 exact this
theorem zdN {α β : Type} (f : α → β) (d : α) (e : β) (ps : List α) {i : Nat} (h : i < ps.length) : (ps.map f).getD i e = f (ps.getD i d) := by
 simp [h]
section
variable {X : Cx}
def zl3 (K : PySem.W.Frag) : List V → Hp → VK → Prop := fun xs H Q => ∃ (a : Addr) (ps : List TI3), xs = [.ref a] ∧ SqL K H a (ps.map fun p => V.ref p.1) ∧ (∀ p ∈ ps, H p.1 = some (.tup [.str p.2.1, .int p.2.2])) ∧ ps.length < 64 ∧ (ps.map (·.2.1)).Nodup ∧
 ∀ (r : Addr) (qs : List TI3), qs.Perm ps → (qs.map (·.2.1)).Pairwise ltF → H r = none → Q (.ref r) (upd H r (.lst (qs.map fun q => V.ref q.1)))
theorem zld {H : Hp} {s : Shared} {pins : List (Addr × Obj)} {σ : St} (I : Inv X pins σ H s) {p : TI3} (h : H p.1 = some (.tup [.str p.2.1, .int p.2.2])) : ∃ o n t u, s.heap.get? p.1 = some o ∧ o.cls = .type "tuple" ∧ o.data = .seq #[.str p.2.1 t, .int p.2.2 u] n := by
 obtain ⟨z, its, r, o, e, c, _, n, hd⟩ := (show ObjOk X.prog X.w H s.heap p.1 (.tup [.str p.2.1, .int p.2.2]) from I.hok _ _ h)
 cases r with
 | cons r1 r =>
  cases r with
  | cons r2 r =>
   cases r
   obtain ⟨t, rfl⟩ := r1
   obtain ⟨u, rfl⟩ := r2
   exact ⟨o, n, t, u, e, c, hd⟩
theorem zgb {h : Heap} : ∀ (ps : List TI3), (∀ p ∈ ps, ∃ o n t u, h.get? p.1 = some o ∧ o.cls = .type "tuple" ∧ o.data = .seq #[.str p.2.1 t, .int p.2.2 u] n) → ∃ fs : List Value, KatTups h (ps.map fun p => Value.ref p.1) fs ∧ fs.length = ps.length ∧ ∀ v ∈ fs, ∃ x t, v = Value.str x t
 | [], _ => ⟨[], .nil, rfl, fun v hv => by simp at hv⟩
 | p :: ps, hp => by
  obtain ⟨fs, h1, h2, h3⟩ := zgb ps fun q hq => hp q (List.mem_cons_of_mem _ hq)
  obtain ⟨o, n, t, u, e, c, d⟩ := hp p List.mem_cons_self
  refine ⟨.str p.2.1 t :: fs, .cons e c d rfl h1, by rw [List.length_cons, h2, List.length_cons], fun v hv => ?_⟩
  rcases List.mem_cons.mp hv with z | z
  · exact ⟨_, _, z⟩
  · exact h3 v z
theorem zgj : zdj X (.builtin "sorted") (zl3 X.K) := by
 intro pins s σ H xs us Q I r h
 obtain ⟨a, ps, rfl, hq, hT, h64, nd, q⟩ := h
 obtain ⟨u, rfl, rx⟩ := zcu r
 cases rx
 obtain ⟨its, rv, ht, hz⟩ := I.list hq
 obtain rfl := zdP rv
 have hl : (ps.map fun p => Value.ref p.1).length = ps.length := List.length_map _
 have obj : ∀ p ∈ ps, ∃ o n t u, s.heap.get? p.1 = some o ∧ o.cls = .type "tuple" ∧ o.data = .seq #[.str p.2.1 t, .int p.2.2 u] n := fun p hp => zld I (hT p hp)
 have memD : ∀ i, i < ps.length → ps.getD i d3 ∈ ps := fun i hi => by
  have : ps.getD i d3 = ps[i] := by simp [hi]
  rw [this]
  exact List.getElem_mem _
 refine zi2 (κ := tuples' true) (lt := fun i j => decide ((ps.getD i d3).2.1.cps.toList < (ps.getD j d3).2.1.cps.toList)) (zme _) ht.isList (by omega) (fun h2 h' kp A E Q' q' => ?_) (fun h' kp i j hi hj C hC => ?_) fun p ok srt => ?_
 · obtain ⟨fs, f1, f2, f3⟩ := zgb (h := h') ps fun p hp => by
    obtain ⟨o, n, t, u, e, c, d⟩ := obj p hp
    exact ⟨o, n, t, u, kp _ _ e, c, d⟩
   exact kat_kind (s := { s with heap := h' }) (T := .type "str") f1 (by omega) (fun v hv => by obtain ⟨x, t, rfl⟩ := f3 v hv; exact Looks.of_pure rfl) (by rfl) q'
 · rw [hl] at hi hj
   rw [zdN _ d3 _ _ hi, zdN _ d3 _ _ hj]
   obtain ⟨o, n, t, u, e, c, d⟩ := obj _ (memD i hi)
   obtain ⟨o', n', t', u', e', c', d'⟩ := obj _ (memD j hj)
   refine kat_lt (s := { s with heap := h' }) (kp _ _ e) d (kp _ _ e') d' (kat_cons (eqBool_str ?_))
   by_cases hij : i = j
   · subst hij
     rw [beq_self_eq_true]
     refine kat_yes (kat_cons (wpAny_eqBool_int ?_))
     rw [beq_self_eq_true]
     refine kat_yes (kat_nil ?_)
     have : decide ((ps.getD i d3).2.1.cps.toList < (ps.getD i d3).2.1.cps.toList) = false := decide_eq_false (List.lt_irrefl _)
     rw [this] at hC
     simpa using hC
   · have ne : ¬ (ps.getD i d3).2.1 = (ps.getD j d3).2.1 := fun z => by
      have g1 : ps.getD i d3 = ps[i] := by simp [hi]
      have g2 : ps.getD j d3 = ps[j] := by simp [hj]
      rw [g1, g2] at z
      exact hij (zfY nd (i := i) (j := j) (by rw [List.length_map]; exact hi) (by rw [List.length_map]; exact hj) (by simpa using z))
     rw [beq_eq_false_iff_ne.mpr ne]
     exact kat_no (oneLt_str hC)
 · obtain ⟨e, he⟩ := sortedAll_at s.heap (ps.map fun p => Value.ref p.1) (ziq (ps.map fun p => Value.ref p.1) p)
   have hn : H (s.heap.objs.size + 1) = none := I.hok.fresh (Nat.le_succ _)
   rw [hl] at ok srt
   have pm := zhM d3 ok
   have hlen := pm.length_eq
   have sz := ok.size
   have eo : ziq (ps.map fun p => Value.ref p.1) p = ((p.toList.map fun i => ps.getD i d3).map fun q => Value.ref q.1).toArray := by
    unfold ziq
    rw [List.map_map]
    congr 1
    refine List.map_congr_left fun i hi => ?_
    have hi' : i < ps.length := List.mem_range.mp (ok.perm.mem_iff.mp hi)
    rw [zdN _ d3 _ _ hi']
    rfl
   rw [eo] at he ⊢
   refine ⟨.ref (s.heap.objs.size + 1), upd H (s.heap.objs.size + 1) (.lst ((p.toList.map fun i => ps.getD i d3).map fun q => V.ref q.1)), I.laid (t' := s.toks) (fun b o e => sortedAll_old e) (Nat.le_succ _) ?_, rfl, q _ _ pm ?_ hn⟩
   · have hz' : ps.length ≤ sizeLine := by rw [List.length_map] at hz; exact hz
     refine ⟨by rw [List.length_map]; omega, _, e, ?_, he⟩
     have : ∀ qs : List TI3, Vals (qs.map fun q => V.ref q.1) (qs.map fun q => Value.ref q.1) := fun qs => by
      induction qs with
      | nil => exact .nil
      | cons q qs ih => exact .cons rfl ih
     exact this _
   · rw [List.pairwise_iff_getElem]
     intro i j hi hj hij
     simp only [List.length_map, Array.length_toList] at hi hj
     simp only [List.getElem_map, Array.getElem_toList]
     have s1 := srt i j hij (by omega)
     have k1 : KS.K p i = p[i] := by show p.getD i 0 = _; simp [Array.getD, hi]
     have k2 : KS.K p j = p[j] := by show p.getD j 0 = _; simp [Array.getD, hj]
     rw [k1, k2] at s1
     have s2 : ¬ (ps.getD p[j] d3).2.1.cps.toList < (ps.getD p[i] d3).2.1.cps.toList := of_decide_eq_false s1
     have nd2 : ((p.toList.map fun i => ps.getD i d3).map (·.2.1)).Nodup := (pm.map _).nodup_iff.mpr nd
     refine zhk s2 fun z => ?_
     have := zfY nd2 (i := j) (j := i) (by simpa using hj) (by simpa using hi) (by simpa using z)
     omega
end
end L2
namespace L2
open PySem PySem.Spec PyProof.Rows
open PySem.AutoSeq1 (wpAny_loadPart')
open PySem.MeetsSeq PySem.MeetsSeq2 PySem.MeetsSeq3 PySem.SeqRoads2
def LtAt (A : Around) (s : Shared) (y x : Value) (b : Bool) : Prop :=
 ∀ (prog : Program) (w : World) (E : Value → Shared → Prop) (Q : Value → Shared → Prop), Q (.bool b) s → wpAny (model prog w) A (richCompare .Lt y x) Q E s
structure FirstAt (A : Around) (s : Shared) (items items2 : Array Value) (b : Bool) (j : Nat) : Prop where
 le1 : j ≤ items.size
 le2 : j ≤ items2.size
 same : ∀ i (h1 : i < items.size) (h2 : i < items2.size), i < j → SeqAt.EqAt A s items[i] items2[i] true
 fin : ((items.size ≤ j ∨ items2.size ≤ j) ∧ b = decide (items.size < items2.size)) ∨ ∃ (h1 : j < items.size) (h2 : j < items2.size), SeqAt.EqAt A s items[j] items2[j] false ∧ LtAt A s items[j] items2[j] b
section
variable {P : Program} {w : World}
theorem zhj (l b : Addr) (items items2 : Array Value) (n n2 : Nat) (dd dd2 : Option Addr) (sl sl2 : Array (Option Value)) (c : Bool) (j k : Nat) :
 ∀ i : Nat, j - i = k → i ≤ j → ∀ (A : Around) (R : Result → Shared → Prop) (s : Shared), s.heap.get? l = some { cls := .type "list", dict := dd, data := .seq items n, slots := sl } → s.heap.get? b = some { cls := .type "list", dict := dd2, data := .seq items2 n2, slots := sl2 } →
  FirstAt A.in1 s items items2 c j → R (.ok (.ret (.bool c))) s →
  wpAny (model P w) A.in1 (Builtin.«list.__eq__.loop» ⟨[.ref l, .ref b, rawInt i, rawInt 0], []⟩) (fun fin s' => match fin with | .done f => R (.ok f) s' | .again c' => c'.quiet = true ∧ codeAny (model P w) A c' R s') (fun e s' => R (.error e) s') s := by
 induction k with
 | zero =>
  intro i hk hij A R s hl hb F h
  obtain rfl : i = j := by omega
  obtain ⟨hp, g, d, tk, os⟩ := s
  rcases F.fin with ⟨hs, hc⟩ | ⟨h1, h2, he, hlt⟩
  · wp_walk using wpAny_loadPart' hl, wpAny_loadPart' hb
    by_cases c1 : i < items.size
    · have o1 : items[((i : Nat) : Int).toNat]? = some items[i] := by simp [c1]
      have o2 : items2[((i : Nat) : Int).toNat]? = none := by simp; omega
      rw [o1, o2]
      wp_walk using wpAny_loadPart' hl, wpAny_loadPart' hb
      show R (.ok (.ret (.bool (decide (items.size < items2.size))))) _
      rw [← hc]
      exact h
    · have o1 : items[((i : Nat) : Int).toNat]? = none := by simp; omega
      rw [o1]
      wp_walk using wpAny_loadPart' hl, wpAny_loadPart' hb
      show R (.ok (.ret (.bool (decide (items.size < items2.size))))) _
      rw [← hc]
      exact h
  · wp_walk using wpAny_loadPart' hl, wpAny_loadPart' hb
    have o1 : items[((i : Nat) : Int).toNat]? = some items[i] := by simp [h1]
    have o2 : items2[((i : Nat) : Int).toNat]? = some items2[i] := by simp [h2]
    rw [o1, o2]
    refine wpAny_bind (he _ _ _ _ ?_)
    wp_walk using wpAny_loadPart' hl, wpAny_loadPart' hb
    rw [o1, o2]
    refine wpAny_bind (hlt _ _ _ _ ?_)
    wp_walk
    exact h
 | succ k ih =>
  intro i hk hij A R s hl hb F h
  obtain ⟨hp, g, d, tk, os⟩ := s
  wp_walk using wpAny_loadPart' hl, wpAny_loadPart' hb
  have f1 := F.le1
  have f2 := F.le2
  have lt1 : i < items.size := by omega
  have lt2 : i < items2.size := by omega
  have o1 : items[((i : Nat) : Int).toNat]? = some items[i] := by simp [lt1]
  have o2 : items2[((i : Nat) : Int).toNat]? = some items2[i] := by simp [lt2]
  have hc : ((i : Int) + 1) = ((i + 1 : Nat) : Int) := by push_cast; rfl
  rw [o1, o2]
  refine wpAny_bind (F.same i lt1 lt2 (by omega) _ _ _ _ ?_)
  wp_walk
  rw [hc]
  exact ⟨plainId_quiet plain_eq_loop _, codeAny_builtin entry_eq_loop (by
   rw [Around.under_plainId plain_eq_loop _]
   exact ih (i + 1) (by omega) (by omega) A R _ hl hb F h)⟩
theorem zjD (l b : Addr) (items items2 : Array Value) (n n2 : Nat) (dd dd2 : Option Addr) (sl sl2 : Array (Option Value)) {c : Bool} {j : Nat} (A : Around) (R : Result → Shared → Prop) (s : Shared)
 (hl : s.heap.get? l = some { cls := .type "list", dict := dd, data := .seq items n, slots := sl }) (hb : s.heap.get? b = some { cls := .type "list", dict := dd2, data := .seq items2 n2, slots := sl2 })
 (F : FirstAt A.in1 s items items2 c j) (h : R (.ok (.ret (.bool c))) s) :
 wpAny (model P w) A.in1 (Builtin.«list.__lt__» ⟨[.ref l, .ref b], []⟩) (fun fin s' => match fin with | .done f => R (.ok f) s' | .again c' => c'.quiet = true ∧ codeAny (model P w) A c' R s') (fun e s' => R (.error e) s') s := by
 obtain ⟨hp, g, d, tk, os⟩ := s
 have f3 := AutoSeq1.sub_list_list
 wp_walk using wpAny_loadPart' hl, wpAny_loadPart' hb
 exact ⟨plainId_quiet plain_eq_loop _, codeAny_builtin entry_eq_loop (by
  rw [Around.under_plainId plain_eq_loop _]
  exact zhj l b items items2 n n2 dd dd2 sl sl2 c j _ 0 rfl (Nat.zero_le _) A R _ hl hb F h)⟩
theorem zdB {l b : Addr} {items items2 : Array Value} {c : Bool} {j : Nat} {A : Around} {s : Shared} {E : Value → Shared → Prop} {Q : Value → Shared → Prop} (hl : s.heap.IsList l items) (hb : s.heap.IsList b items2) (FA : FirstAt A.in1 s items items2 c j) (h : Q (.bool c) s) :
 wpAny (model P w) A (call (.builtin "list.__lt__") [.ref l, .ref b]) Q E s := by
 obtain ⟨⟨c1, dd, data, sl⟩, ho, hc, n, hd⟩ := id hl
 obtain ⟨⟨c2, dd2, data2, sl2⟩, ho2, hc2, n2, hd2⟩ := id hb
 simp only at hc hd hc2 hd2
 subst hc hd hc2 hd2
 refine wpAny_call (codeAny_call_builtin F.slot_list_lt.plain F.entry_list_lt (F.slot_list_lt.check _ _ _ _ _ _ _ _ ⟨_, ho, rfl⟩ (F.args_list_lt_2 _ _) ?_))
 exact zjD l b items items2 n n2 dd dd2 sl sl2 A (wants Q E) s ho ho2 FA h
theorem LtAt.lists {l b : Addr} {items items2 : Array Value} {c : Bool} {j : Nat} {A : Around} {s : Shared} (hl : s.heap.IsList l items) (hb : s.heap.IsList b items2) (hu : A.units < cLine) (FA : FirstAt A.in1 s items items2 c j) : LtAt A s (.ref l) (.ref b) c := by
 intro P w E Q h
 obtain ⟨o, ho, hc, _⟩ := id hl
 obtain ⟨o2, ho2, hc2, _⟩ := id hb
 exact wpAny_richCompare_same_room (op := .Lt) ⟨_, ho, hc⟩ ⟨_, ho2, hc2⟩ F.slot_list_lt (zdB hl hb FA ⟨(fun x => nomatch x), h⟩) hu
theorem LtAt.tuples {l b : Addr} {items items2 : Array Value} {c : Bool} {j : Nat} {A : Around} {s : Shared} (hl : s.heap.IsTuple l items) (hb : s.heap.IsTuple b items2) (hu : A.units < cLine) (FA : FirstAt A.in1 s items items2 c j) : LtAt A s (.ref l) (.ref b) c := by
 intro P w E Q h
 obtain ⟨⟨c1, dd, data, sl⟩, ho, hc, n, hd⟩ := id hl
 obtain ⟨⟨c2, dd2, data2, sl2⟩, ho2, hc2, n2, hd2⟩ := id hb
 simp only at hc hd hc2 hd2
 subst hc hd hc2 hd2
 refine wpAny_richCompare_same_room (op := .Lt) ⟨_, ho, rfl⟩ ⟨_, ho2, rfl⟩ F.slot_tuple_lt (wpAny_call_entry F.slot_tuple_lt ⟨_, ho, rfl⟩ F.entry_tuple_lt ?_ (F.args_tuple_lt_2 _ _)) hu
 obtain ⟨hp, g, d, tk, os⟩ := s
 have f2 := AutoSeq1.sub_tuple_tuple
 have hZ : (items.toList.zip items2.toList).length = min items.size items2.size := by simp
 have f1 := FA.le1
 have f2' := FA.le2
 wp_walk using wpAny_loadPart' ho, wpAny_loadPart' ho2, wpAny_forIn_list _ (fun rest b s' => s' = ⟨hp, g, d, tk, os⟩ ∧ ((b.1 = none ∧ ∃ i, i ≤ j ∧ rest = (items.toList.zip items2.toList).drop i) ∨ (b.1 = some (PySem.Fin.done (.ret (.bool c))) ∧ rest = []))) _
 case turn =>
  rintro ⟨y, x⟩ rest b' s' ⟨rfl, ⟨hb', i, hij, hz⟩ | ⟨_, hz⟩⟩
  · have lt0 : i < (items.toList.zip items2.toList).length := by
     rcases Nat.lt_or_ge i (items.toList.zip items2.toList).length with h' | h'
     · exact h'
     · rw [List.drop_of_length_le h'] at hz; cases hz
    have h1 : i < items.size := by omega
    have h2 : i < items2.size := by omega
    rw [List.drop_eq_getElem_cons lt0] at hz
    injection hz with hyx hrest
    have hy : y = items[i] := by have := congrArg Prod.fst hyx; simpa using this
    have hx : x = items2[i] := by have := congrArg Prod.snd hyx; simpa using this
    subst hy hx
    rcases Nat.lt_or_ge i j with h3 | h3
    · refine wpAny_bind (FA.same i h1 h2 h3 _ _ _ _ ?_)
      wp_walk
      exact ⟨rfl, .inl ⟨rfl, i + 1, h3, hrest⟩⟩
    · obtain rfl : i = j := by omega
      rcases FA.fin with ⟨hs, hc⟩ | ⟨_, _, he, hlt⟩
      · omega
      · refine wpAny_bind (he _ _ _ _ ?_)
        simp only [Bool.not_false, if_true]
        refine wpAny_bind (wpAny_rule ?_)
        refine wpAny_bind (hlt _ _ _ _ ?_)
        wp_walk
        exact ⟨_, rfl, (fun x => nomatch x), h⟩
  · cases hz
 case fin =>
  rintro ⟨b1, b2⟩ s' ⟨rfl, ⟨hb', i, hij, hz⟩ | ⟨hb', _⟩⟩
  · simp only at hb'
    subst hb'
    wp_walk
    refine ⟨_, rfl, ?_⟩
    have hlen : (items.toList.zip items2.toList).length ≤ i := by
     rcases Nat.lt_or_ge i (items.toList.zip items2.toList).length with h' | h'
     · rw [List.drop_eq_getElem_cons h'] at hz; cases hz
     · exact h'
    rcases FA.fin with ⟨hs, hc⟩ | ⟨h1, h2, _, _⟩
    · have e : Builtin.Tuple.tupleCompareSizes .Lt items.size items2.size = Value.bool c := by rw [hc]; rfl
      rw [e]
      exact ⟨(fun x => nomatch x), h⟩
    · omega
  · simp only at hb'
    subst hb'
    wp_walk
    exact ⟨_, rfl, (fun x => nomatch x), h⟩
 case h => exact ⟨rfl, .inl ⟨rfl, 0, Nat.zero_le _, rfl⟩⟩
end
theorem LtAt.ints {A : Around} {s : Shared} (a b : Int) (t u : Tok) : LtAt A s (.int a t) (.int b u) (decide (a < b)) := fun P w E Q h => by
 exact (wpAny_lt_int (prog := P) (w := w) (A := A) (E := E) (t := t) (u := u) h)
theorem LtAt.strs {A : Around} {s : Shared} (a b : Str) (t u : Tok) : LtAt A s (.str a t) (.str b u) (decide (a.cps.toList < b.cps.toList)) := fun P w E Q h => by
 exact lt_str (x := a) (y := b) (t := t) (u := u) (prog := P) (w := w) (A := A) (E := E) h
mutual
def pyLt : PD → PD → Bool
 | .int a, .int b => decide (a < b)
 | .str a, .str b => decide (a.cps.toList < b.cps.toList)
 | .lst xs, .lst ys => zcf xs ys
 | .tup xs, .tup ys => zcf xs ys
 | _, _ => false
def zcf : List PD → List PD → Bool
 | [], [] => false
 | [], _ :: _ => true
 | _ :: _, [] => false
 | x :: xs, y :: ys => if pyEq x y = true then zcf xs ys else pyLt x y
end
mutual
def ltOk : PD → PD → Bool
 | .int _, .int _ => true
 | .str _, .str _ => true
 | .lst xs, .lst ys => zcT xs ys
 | .tup xs, .tup ys => zcT xs ys
 | _, _ => false
def zcT : List PD → List PD → Bool
 | x :: xs, y :: ys => if pyEq x y = true then zcT xs ys else ltOk x y
 | _, _ => true
end
section
variable {X : Cx} {pins : List (Addr × Obj)} {σ : St} {H : Hp} {s : Shared}
mutual
theorem zkB (I : Inv X pins σ H s) : ∀ (A : Around) (d e : PD) (v w : V) (u y : Value), Rep X.K H d v → Rep X.K H e w → RelV v u → RelV w y → A.units + zaD d < cLine → ltOk d e = true → LtAt A s u y (pyLt d e)
 | A, .int c, .int b, v, w, u, y, h, h', r, r', z, ok => by
  rw [Rep] at h h'; subst h h'
  obtain ⟨t, rfl⟩ := r
  obtain ⟨t', rfl⟩ := r'
  rw [pyLt]
  exact LtAt.ints c b t t'
 | A, .str c, .str b, v, w, u, y, h, h', r, r', z, ok => by
  rw [Rep] at h h'; subst h h'
  obtain ⟨t, rfl⟩ := r
  obtain ⟨t', rfl⟩ := r'
  rw [pyLt]
  exact LtAt.strs c b t t'
 | A, .lst ds, .lst es, v, w, u, y, h, h', r, r', z, ok => by
  rw [Rep] at h h'
  obtain ⟨a, xs, rfl, q, qs⟩ := h
  obtain ⟨b, ys, rfl, q', qs'⟩ := h'
  cases r; cases r'
  obtain ⟨its, rv, p, _⟩ := I.list q
  obtain ⟨its', rv', p', _⟩ := I.list q'
  rw [zaD] at z
  rw [pyLt]
  rw [ltOk] at ok
  obtain ⟨j, F⟩ := zdd I A.in1 ds es xs ys its its' qs qs' rv rv' (by rw [Around.in1_units]; omega) ok
  exact LtAt.lists p.isList p'.isList (by omega) F
 | A, .tup ds, .tup es, v, w, u, y, h, h', r, r', z, ok => by
  rw [Rep] at h h'
  obtain ⟨a, xs, rfl, q, qs⟩ := h
  obtain ⟨b, ys, rfl, q', qs'⟩ := h'
  cases r; cases r'
  obtain ⟨its, rv, p, _⟩ := I.tuple q
  obtain ⟨its', rv', p', _⟩ := I.tuple q'
  rw [zaD] at z
  rw [pyLt]
  rw [ltOk] at ok
  obtain ⟨j, F⟩ := zdd I A.in1 ds es xs ys its its' qs qs' rv rv' (by rw [Around.in1_units]; omega) ok
  exact LtAt.tuples p p' (by omega) F
 | A, .non, e, v, w, u, y, h, h', r, r', z, ok => by cases e <;> simp [ltOk] at ok
 | A, .bl _, e, v, w, u, y, h, h', r, r', z, ok => by cases e <;> simp [ltOk] at ok
 | A, .int _, .non, v, w, u, y, h, h', r, r', z, ok => by simp [ltOk] at ok
 | A, .int _, .bl _, v, w, u, y, h, h', r, r', z, ok => by simp [ltOk] at ok
 | A, .int _, .str _, v, w, u, y, h, h', r, r', z, ok => by simp [ltOk] at ok
 | A, .int _, .lst _, v, w, u, y, h, h', r, r', z, ok => by simp [ltOk] at ok
 | A, .int _, .tup _, v, w, u, y, h, h', r, r', z, ok => by simp [ltOk] at ok
 | A, .str _, .non, v, w, u, y, h, h', r, r', z, ok => by simp [ltOk] at ok
 | A, .str _, .bl _, v, w, u, y, h, h', r, r', z, ok => by simp [ltOk] at ok
 | A, .str _, .int _, v, w, u, y, h, h', r, r', z, ok => by simp [ltOk] at ok
 | A, .str _, .lst _, v, w, u, y, h, h', r, r', z, ok => by simp [ltOk] at ok
 | A, .str _, .tup _, v, w, u, y, h, h', r, r', z, ok => by simp [ltOk] at ok
 | A, .lst _, .non, v, w, u, y, h, h', r, r', z, ok => by simp [ltOk] at ok
 | A, .lst _, .bl _, v, w, u, y, h, h', r, r', z, ok => by simp [ltOk] at ok
 | A, .lst _, .int _, v, w, u, y, h, h', r, r', z, ok => by simp [ltOk] at ok
 | A, .lst _, .str _, v, w, u, y, h, h', r, r', z, ok => by simp [ltOk] at ok
 | A, .lst _, .tup _, v, w, u, y, h, h', r, r', z, ok => by simp [ltOk] at ok
 | A, .tup _, .non, v, w, u, y, h, h', r, r', z, ok => by simp [ltOk] at ok
 | A, .tup _, .bl _, v, w, u, y, h, h', r, r', z, ok => by simp [ltOk] at ok
 | A, .tup _, .int _, v, w, u, y, h, h', r, r', z, ok => by simp [ltOk] at ok
 | A, .tup _, .str _, v, w, u, y, h, h', r, r', z, ok => by simp [ltOk] at ok
 | A, .tup _, .lst _, v, w, u, y, h, h', r, r', z, ok => by simp [ltOk] at ok
theorem zdd (I : Inv X pins σ H s) : ∀ (A : Around) (ds es : List PD) (vs ws : List V) (us ys : List Value), Reps X.K H ds vs → Reps X.K H es ws → Vals vs us → Vals ws ys → A.units + zaC ds < cLine → zcT ds es = true →
 ∃ j, FirstAt A s us.toArray ys.toArray (zcf ds es) j
 | A, [], es, vs, ws, us, ys, h, h', r, r', z, ok => by
  rw [Reps] at h; subst h; cases r
  have l1 := h'.length
  have l2 := r'.length
  refine ⟨0, Nat.zero_le _, Nat.zero_le _, fun i h1 h2 h3 => absurd h3 (Nat.not_lt_zero _), .inl ⟨.inl (by simp), ?_⟩⟩
  cases es with
  | nil =>
   rw [zcf]
   rw [Reps] at h'
   subst h'
   cases r'
   rfl
  | cons e es => rw [zcf]; simp at l1 l2; simp; omega
 | A, d :: ds, [], vs, ws, us, ys, h, h', r, r', z, ok => by
  rw [Reps] at h'; subst h'; cases r'
  refine ⟨0, Nat.zero_le _, Nat.zero_le _, fun i h1 h2 h3 => absurd h3 (Nat.not_lt_zero _), .inl ⟨.inr (by simp), ?_⟩⟩
  rw [zcf]
  simp
 | A, d :: ds, e :: es, vs, ws, us, ys, h, h', r, r', z, ok => by
  rw [Reps] at h h'
  obtain ⟨x, vr, rfl, g1, g2⟩ := h
  obtain ⟨x', vr', rfl, g1', g2'⟩ := h'
  cases r with
  | @cons _ u1 _ ur ra rb =>
   cases r' with
   | @cons _ y1 _ yr ra' rb' =>
    rw [zaC] at z
    rw [zcT] at ok
    have he := zfq I A d e x x' _ _ g1 g1' ra ra' (by omega)
    rw [zcf]
    by_cases hq : pyEq d e = true
    · rw [if_pos hq] at ok ⊢
      rw [hq] at he
      obtain ⟨j, F⟩ := zdd I A ds es vr vr' _ _ g2 g2' rb rb' (by omega) ok
      have f1 := F.le1
      have f2 := F.le2
      have f3 := F.same
      have f4 := F.fin
      simp only [List.size_toArray] at f1 f2 f3 f4
      refine ⟨j + 1, by simpa using f1, by simpa using f2, fun i h1 h2 h3 => ?_, ?_⟩
      · cases i with
        | zero => exact he
        | succ i => simpa using f3 i (by simpa using h1) (by simpa using h2) (by omega)
      · rcases f4 with ⟨hs, hc⟩ | ⟨h1, h2, k1, k2⟩
        · refine .inl ⟨by simpa using hs, ?_⟩
          rw [hc]
          simp
        · exact .inr ⟨by simpa using h1, by simpa using h2, by simpa using k1, by simpa using k2⟩
    · rw [if_neg hq] at ok ⊢
      rw [Bool.not_eq_true] at hq
      rw [hq] at he
      have zz : A.units + zaD d < cLine := by omega
      exact ⟨0, Nat.zero_le _, Nat.zero_le _, fun i h1 h2 h3 => absurd h3 (Nat.not_lt_zero _), .inr ⟨by simp, by simp, he, zkB I A d e x x' _ _ g1 g1' ra ra' zz ok⟩⟩
end
end
end L2
namespace L2
open PySem PySem.Spec PyProof.Rows PySem.W
section
variable {X : Cx} {pins : List (Addr × Obj)} {σ : St} {H : Hp} {s : Shared} {a : Addr} {o : HO}
theorem Inv.track7 (I : Inv X pins σ H s) (hn : FpOk X pins H a) (h0 : X.s₀.heap.get? a = none) (new : ObjOk X.prog X.w (upd H a o) s.heap a o) : Inv X pins σ (upd H a o) s := by
 obtain ⟨hn, hl, _, _, hc, hp⟩ := hn
 refine ⟨I.ok, I.os, I.bare, ⟨I.base.keep, I.base.slot, fun b ob q n hx => ?_, I.base.there, fun b xs q => ?_, fun b ob u q => ?_, fun b ps q => ?_⟩, I.loc, I.cell, ?_, fun x c e => ?_, fun p hp' => ?_, fun b u q => ?_, I.len⟩
 · have : b ≠ a := fun z => by rw [z, h0] at q; cases q
   rw [zak this]
   exact I.base.free b ob q n hx
 · have := I.base.tups b xs q
   rw [zak (zav this hn)]
   exact this
 · have := I.base.frzs b ob u q
   rw [zak (zav this hn)]
   exact this
 · obtain ⟨m, this⟩ := I.base.tbls b ps q
   exact ⟨m, by rw [zak (zav this hn)]; exact this⟩
 · rw [zak hl.symm]; exact I.free
 · rw [zak (hc x c e)]; exact I.freeC x c e
 · obtain ⟨e, n, r⟩ := I.pin p hp'
   exact ⟨e, by rw [zak (hp p hp')]; exact n, r⟩
 · by_cases hb : b = a
   · subst hb
     rw [zab] at q
     cases q
     exact new
   · rw [zak hb] at q
     exact (I.hok b u q).stay (fun c v _ r => r) (fun c r => by rw [zak (zav r hn)]; exact r) fun c xs r => by rw [zak (zav r hn)]; exact r
mutual
theorem Rep.same {K : PySem.W.Frag} {H H' : Hp} (h : Same H H') : ∀ (d : PD) (v : V), Rep K H d v → Rep K H' d v
 | .non, v, q => by rw [Rep] at q ⊢; exact q
 | .bl _, v, q => by rw [Rep] at q ⊢; exact q
 | .int _, v, q => by rw [Rep] at q ⊢; exact q
 | .str _, v, q => by rw [Rep] at q ⊢; exact q
 | .lst ds, v, q => by
  rw [Rep] at q ⊢
  obtain ⟨a, xs, rfl, q1, q2⟩ := q
  exact ⟨a, xs, rfl, h.seq q1, Reps.same h ds xs q2⟩
 | .tup ds, v, q => by
  rw [Rep] at q ⊢
  obtain ⟨a, xs, rfl, q1, q2⟩ := q
  exact ⟨a, xs, rfl, h.seqT q1, Reps.same h ds xs q2⟩
theorem Reps.same {K : PySem.W.Frag} {H H' : Hp} (h : Same H H') : ∀ (ds : List PD) (vs : List V), Reps K H ds vs → Reps K H' ds vs
 | [], vs, q => by rw [Reps] at q ⊢; exact q
 | d :: ds, vs, q => by
  rw [Reps] at q ⊢
  obtain ⟨x, r, e, q1, q2⟩ := q
  exact ⟨x, r, e, Rep.same h d x q1, Reps.same h ds r q2⟩
end
theorem zit {prog : Program} {w : World} {A : Around} {E : Value → Shared → Prop} {l b : Addr} {items items2 : Array Value} {c : Bool} {j : Nat} {Q : Bool → Shared → Prop} (hl : s.heap.IsList l items) (hb : s.heap.IsList b items2) (hu : A.units < cLine) (FA : FirstAt A.in1 s items items2 c j) (h : Q c s) :
 wpAny (model prog w) A (keyLt' oneType' (.ref l) (.ref b)) Q E s := by
 obtain ⟨o, ho, hc, _⟩ := id hl
 rw [keyLt'_oneType, oneLt'_eq]
 simp only [if_true]
 refine wpAny_bind (wpAny_cRoomFor hu ?_)
 refine wpAny_bind (wpAny_callSpecialIfBound?_slot ⟨o, ho, hc⟩ F.slot_list_lt (zdB hl hb FA ?_))
 exact wpAny_truthy_bool h
theorem ziG {M : Model} {h : Heap} {l : Addr} {items : Array Value} (hl : h.IsList l items) : Looks M h (typeOf (.ref l)) (.type "list") := by
 obtain ⟨o, ho, hc, _⟩ := hl
 rw [← hc]
 exact (Looks.ld ho).andThen .now
theorem zkH {kS : Addr} {f : Value} {vs : List V} {us : List Value} {kd : Nat → PD} {e1 : Nat} {P : PySem.Fin → Shared → Prop} {E : Value → Shared → Prop}
 (I : Inv X ((a, seqObj "list" #[] e1) :: (kS, seqObj "list" #[] 0) :: pins) σ H s) (Fa : FpOk X pins H a) (Fk : FpOk X pins H kS) (ha0 : X.s₀.heap.get? a = none) (hak : kS ≠ a) (rv : Vals vs us) (h64 : us.length < 64)
 (turn : ∀ i v u, vs[i]? = some v → us[i]? = some u → ∀ pins' s' H', Inv X pins' σ H' s' → Same H H' → wpAny (model X.prog X.w) X.A (call f [u]) (EP X pins' σ fun kv H'' => Same H' H'' ∧ Rep X.K H'' (kd i) kv) (fun _ _ => False) s')
 (hl : ∀ i, ∃ ds, kd i = .lst ds) (hd : ∀ i, X.A.units + 2 + zaD (kd i) < cLine)
 (hok : ∀ i j, i < us.length → j < us.length → ltOk (kd i) (kd j) = true) (O : KS.Ord fun i j => pyLt (kd i) (kd j))
 (h : ∀ (p : Array Nat) s' H', KS.Ok us.length p → KS.Srt (fun i j => pyLt (kd i) (kd j)) p us.length → Same H H' → H' a = none → Inv X pins σ (upd H' a (.lst (p.toList.map fun i => vs.getD i .non))) s' → P (.done (.ret .none)) s') :
 wpAny (model X.prog X.w) X.A (ksk_rest a f false us.toArray e1 (.ref kS)) P E s := by
 have lv := rv.length
 unfold ksk_rest
 refine wpAny_bind (wpAny_rule ?_)
 rw [List.forIn_toArray]
 refine wpAny_bind (ksk_fold (fun i s' => ∃ H' kvs kA e, Inv X ((a, seqObj "list" #[] e1) :: (kS, seqObj "list" kA e) :: pins) σ H' s' ∧ Same H H' ∧ Vals kvs kA.toList ∧ kvs.length = i ∧ ∀ j kv, kvs[j]? = some kv → Rep X.K H' (kd j) kv) us 0 s
  ⟨H, [], #[], 0, I, Same.refl _, .nil, rfl, fun j kv e => by simp at e⟩ ?step ?done)
 case step =>
  rintro j x s' hx ⟨H1, kvs, kA, e, I1, S1, rk, lk, rp⟩
  simp only [Nat.zero_add] at lk ⊢
  have hj : j < us.length := (List.getElem?_eq_some_iff.mp hx).1
  obtain ⟨v, hv⟩ : ∃ v, vs[j]? = some v := ⟨_, List.getElem?_eq_getElem (by omega)⟩
  refine wpAny_bind (wpAny_attempt (wpAny_mono (turn j v x hv hx _ s' H1 I1 S1) (fun u s2 he => ?_) fun _ _ hF => hF.elim))
  obtain ⟨kv, H2, I2, r2, S2, R2⟩ := he
  dsimp only
  obtain ⟨nk, nk1, nk2, nk3, nk4⟩ := I2.pin (kS, seqObj "list" kA e) (List.mem_append_right _ (.tail _ (.head _)))
  obtain ⟨na, na1, na2, na3, na4⟩ := I2.pin (a, seqObj "list" #[] e1) (List.mem_append_right _ (.head _))
  have hz : kA.size = j := by
   have h1 : kvs.length = kA.size := by have := rk.length; simpa using this
   rw [← h1, lk]
  have s1 := Heap.SameBut.update s2.heap kS (Obj.mapSeq (·.push u))
  obtain ⟨c2, hc2⟩ : ∃ c2, (s2.heap.update kS (Obj.mapSeq (·.push u))).get? kS = some (seqObj "list" (kA.push u) c2) := ⟨_, get?_update_seq nk (·.push u)⟩
  refine wpAny_bind (listUpdate_at nk rfl ?_ (by rw [sizeLine_eq]; omega) (Nat.le_trans (Nat.le_of_eq (Array.size_push ..)) (by rw [sizeLine_eq]; omega)))
  have I3 : Inv X pins σ H2 s2 := I2.pins_of fun p hp => I2.pin p (List.mem_append_right _ (.tail _ (.tail _ hp)))
  have I4 : Inv X pins σ H2 { s2 with heap := s2.heap.update kS (Obj.mapSeq (·.push u)), toks := s2.toks } := I3.turned (it := kS) (fun b o hb q => (s1.2 b hb).trans q) nk1 nk2 Fk.2.2.2.1 Fk.2.2.2.2.1 Fk.2.2.2.2.2
  refine wpAny_pure ⟨rfl, H2, kvs ++ [kv], kA.push u, c2, I4.pins_of fun p hp => ?_, S1.trans S2, ?_, by rw [List.length_append]; simp [lk], fun i kv' e' => ?_⟩
  · rcases List.mem_cons.mp hp with rfl | hp
    · exact ⟨(s1.2 a hak.symm).trans na, na1, na2, na3, na4⟩
    · rcases List.mem_cons.mp hp with rfl | hp
      · exact ⟨hc2, nk1, nk2, nk3, fun v z => by cases z⟩
      · exact I4.pin p (List.mem_append_right _ hp)
  · rw [Array.toList_push]
    exact rk.append (.cons r2 .nil)
  · rcases Nat.lt_or_ge i kvs.length with h1 | h1
    · rw [List.getElem?_append_left h1] at e'
      exact Rep.same S2 _ _ (rp i kv' e')
    · rw [List.getElem?_append_right h1] at e'
      have : i = kvs.length := by
       rcases Nat.lt_or_ge (i - kvs.length) 1 with h2 | h2
       · omega
       · rw [List.getElem?_eq_none (by simpa using h2)] at e'; cases e'
      subst this
      simp at e'
      subst e'
      rw [lk]
      exact R2
 case done =>
  rintro s' ⟨H1, kvs, kA, e, I1, S1, rk, lk, rp⟩
  rw [Nat.zero_add] at lk
  obtain ⟨nk, nk1, nk2, nk3, nk4⟩ := I1.pin (kS, seqObj "list" kA e) (List.mem_append_right _ (.tail _ (.head _)))
  obtain ⟨na, na1, na2, na3, na4⟩ := I1.pin (a, seqObj "list" #[] e1) (List.mem_append_right _ (.head _))
  refine wpAny_bind (listItems_at nk rfl ?_)
  obtain ⟨ks, rfl⟩ : ∃ ks : List Value, kA = ks.toArray := ⟨kA.toList, by simp⟩
  simp only [List.toList_toArray] at rk
  have lks : ks.length = us.length := by have := rk.length; omega
  have key : ∀ (s2 : Shared), s2 = s' → ∀ i, i < us.length → ∃ (l : Addr) (kv : V), ks.getD i Value.none = .ref l ∧ kvs[i]? = some kv ∧ RelV kv (.ref l) ∧ Rep X.K H1 (kd i) kv := fun s2 _ i hi => by
   obtain ⟨kv, hkv⟩ : ∃ kv, kvs[i]? = some kv := ⟨_, List.getElem?_eq_getElem (by omega)⟩
   obtain ⟨u, h1, h2⟩ := Vals.get rk hkv
   have h3 := rp i kv hkv
   have h3' := h3
   obtain ⟨ds, hds⟩ := hl i
   rw [hds, Rep] at h3'
   obtain ⟨l, xs, rfl, _, _⟩ := h3'
   cases h2
   exact ⟨l, _, by rw [List.getD_eq_getElem?_getD, h1]; rfl, hkv, rfl, h3⟩
  have tail : ∀ (st' : SortSt) (p : Array Nat), arrOf st' = p.map (kas_item (ks.toArray.zip us.toArray)) → failedOf st' = none → KS.Ok us.length p → KS.Srt (fun i j => pyLt (kd i) (kd j)) p us.length → wpAny (model X.prog X.w) X.A (ksk_tail a false e1 (.ref kS) st') P E s' := by
   intro st' p har hf ok srt
   have hout := kat_snds lks har
   have hp := ok.size
   have s1 := Heap.SameBut.update s'.heap kS (Obj.mapSeq fun _ => (#[] : Array Value))
   have na' : (s'.heap.update kS (Obj.mapSeq fun _ => (#[] : Array Value))).get? a = some (seqObj "list" #[] e1) := (s1.2 a hak.symm).trans na
   have s2 := Heap.SameBut.update (s'.heap.update kS (Obj.mapSeq fun _ => (#[] : Array Value))) a (Obj.mapSeq fun _ => (arrOf st').map (·.2))
   obtain ⟨c2, hc2⟩ : ∃ c2, ((s'.heap.update kS (Obj.mapSeq fun _ => (#[] : Array Value))).update a (Obj.mapSeq fun _ => (arrOf st').map (·.2))).get? a = some (seqObj "list" ((arrOf st').map (·.2)) c2) :=
    ⟨_, get?_update_seq na' fun _ => (arrOf st').map (·.2)⟩
   unfold ksk_tail
   dsimp only
   refine wpAny_bind (listUpdate_at nk rfl ?_ (by rw [List.size_toArray, sizeLine_eq]; omega) (Nat.zero_le _))
   refine wpAny_bind (wpAny_letGo ?_)
   refine wpAny_bind (seqEpoch_at na' rfl ?_)
   refine wpAny_bind (listUpdate_at na' rfl ?_ (Nat.zero_le _) (by
    simp only [Bool.false_eq_true, if_false]
    rw [hout]
    show (p.toList.map fun i => us.getD i Value.none).length ≤ _
    rw [List.length_map, Array.length_toList, hp, sizeLine_eq]
    omega))
   rw [hf]
   simp only [bne_self_eq_false, Bool.false_eq_true, if_false]
   have I3 : Inv X pins σ H1 s' := I1.pins_of fun p hp => I1.pin p (List.mem_append_right _ (.tail _ (.tail _ hp)))
   have I4 : Inv X pins σ H1 { s' with heap := s'.heap.update kS (Obj.mapSeq fun _ => (#[] : Array Value)), toks := s'.toks } := I3.turned (it := kS) (fun b o hb q => (s1.2 b hb).trans q) nk1 nk2 Fk.2.2.2.1 Fk.2.2.2.2.1 Fk.2.2.2.2.2
   have I5 : Inv X pins σ H1 { s' with heap := (s'.heap.update kS (Obj.mapSeq fun _ => (#[] : Array Value))).update a (Obj.mapSeq fun _ => (arrOf st').map (·.2)), toks := s'.toks } := Inv.turned (s := { s' with heap := s'.heap.update kS (Obj.mapSeq fun _ => (#[] : Array Value)), toks := s'.toks }) (t' := s'.toks) (it := a) I4 (fun b o hb q => (s2.2 b hb).trans q) na1 na2 Fa.2.2.2.1 Fa.2.2.2.2.1 Fa.2.2.2.2.2
   refine wpAny_pure (h p _ H1 ok srt S1 na1 (I5.track7 ⟨na1, Fa.2⟩ ha0 ?_))
   refine ⟨by rw [List.length_map, Array.length_toList, hp, sizeLine_eq]; omega, p.toList.map fun i => us.getD i Value.none, c2, ?_, ?_⟩
   · have : ∀ l : List Nat, Vals (l.map fun i => vs.getD i .non) (l.map fun i => us.getD i Value.none) := fun l => by
      induction l with
      | nil => exact .nil
      | cons i l ih =>
       refine .cons ?_ ih
       show RelV (vs.getD i .non) (us.getD i Value.none)
       rcases Nat.lt_or_ge i vs.length with h1 | h1
       · obtain ⟨u, g1, g2⟩ := Vals.get rv (List.getElem?_eq_getElem h1)
         rw [List.getD_eq_getElem?_getD, List.getD_eq_getElem?_getD, g1, List.getElem?_eq_getElem h1]
         exact g2
       · rw [List.getD_eq_getElem?_getD, List.getD_eq_getElem?_getD, List.getElem?_eq_none h1, List.getElem?_eq_none (by omega)]
         rfl
     exact this _
   · rw [hout] at hc2 ⊢
     exact hc2
  unfold ksk_end
  dsimp only
  simp only [Bool.false_eq_true, if_false]
  have hsz : us.toArray.size = us.length := by simp
  by_cases h2 : us.toArray.size < 2
  · rw [if_pos h2, if_pos h2]
    refine wpAny_bind (wpAny_pure ?_)
    rw [StateT.run_pure]
    refine wpAny_bind (wpAny_pure ?_)
    have e1 := kas_range (ks.toArray.zip us.toArray)
    have e2 : (ks.toArray.zip us.toArray).size = us.length := by simp [lks]
    rw [e2] at e1
    exact tail _ (List.range us.length).toArray e1.symm rfl ⟨by simp⟩ (fun i j hij hj => absurd hj (by rw [hsz] at h2; omega))
  · rw [if_neg h2, if_neg h2]
    rw [hsz] at h2
    refine wpAny_bind (kas_kind (T := .type "list") (by omega) (fun v hv => ?_) (by rfl) (by rfl) ?_)
    · obtain ⟨i, hi, rfl⟩ := List.getElem_of_mem hv
      obtain ⟨l, kv, g1, g2, g3, g4⟩ := key s' rfl i (by omega)
      rw [List.getD_eq_getElem?_getD, List.getElem?_eq_getElem hi] at g1
      obtain ⟨ds, hds⟩ := hl i
      rw [hds, Rep] at g4
      obtain ⟨l', xs, rfl, g5, _⟩ := g4
      cases g3
      obtain ⟨its, _, pl, _⟩ := I1.list g5
      rw [show ks[i] = .ref _ from g1]
      exact ziG pl.isList
    · have tree : (kas_sort us.length).kasWp (kas_ask X.prog X.w X.A oneType' ks) (fun p s2 => s2 = s' ∧ KS.Ok us.length p ∧ KS.Srt (fun i j => pyLt (kd i) (kd j)) p us.length) s' :=
       KS.sat_wp (fun i j C hi hj hC => ?_) (fun p hp => ⟨rfl, hp⟩) _ (KS.sort_ok O (by omega))
      · refine wpAny_bind (wpAny_mono (kat_run (Q := fun st' s2 => ∃ p : Array Nat, p.size = us.length ∧ arrOf st' = p.map (kas_item (ks.toArray.zip us.toArray)) ∧ failedOf st' = none ∧ s2 = s' ∧ KS.Ok us.length p ∧ KS.Srt (fun i j => pyLt (kd i) (kd j)) p us.length)
         lks (by omega) h64 (fun p' st' s2 a1 a2 a3 a4 => ⟨p', a1, a2, a3, a4⟩) tree) ?_ fun _ _ e => e)
        rintro ⟨⟨⟩, st'⟩ s2 ⟨p, hp, har, hf, rfl, ok, srt⟩
        exact tail st' p har hf ok srt
      · obtain ⟨l1, kv1, a1, a2, a3, a4⟩ := key s' rfl i hi
        obtain ⟨l2, kv2, b1, b2, b3, b4⟩ := key s' rfl j hj
        show wpAny _ _ (keyLt' oneType' (ks.getD i Value.none) (ks.getD j Value.none)) _ _ _
        rw [a1, b1]
        have k1 := hok i j hi hj
        have hdi := hd i
        obtain ⟨ds, hds⟩ := hl i
        obtain ⟨es, hes⟩ := hl j
        rw [hds, hes] at k1 hC
        rw [hds] at a4 hdi
        rw [hes] at b4
        rw [Rep] at a4 b4
        obtain ⟨m1, xs, rfl, q1, q2⟩ := a4
        obtain ⟨m2, ys, rfl, q3, q4⟩ := b4
        cases a3; cases b3
        obtain ⟨its, r1, p1, _⟩ := I1.list q1
        obtain ⟨its', r2, p2, _⟩ := I1.list q3
        rw [zaD] at hdi
        rw [ltOk] at k1
        rw [pyLt] at hC
        obtain ⟨n, FA⟩ := zdd I1 X.A.in1 ds es xs ys its its' q2 q4 r1 r2 (by rw [Around.in1_units]; omega) k1
        exact zit p1.isList p2.isList (by omega) FA hC
end
end L2
namespace L2
open PySem PySem.Spec PyProof.Rows PySem.W
abbrev Cx.in2 (X : Cx) : Cx := { X with A := X.A.in1.in1, xe := fun _ _ => False }
section
variable {X : Cx} {pins : List (Addr × Obj)} {σ : St} {H : Hp} {s : Shared}
theorem Cx.Ok.in2 (ok : X.Ok) : X.in2.Ok := ⟨ok.mod, ok.kind, ok.glob, ok.blt, ok.above, ok.inj, ok.has, ok.cab, ok.hd, ok.frames, ok.stk, ok.exf, ok.bs, ok.bsz, ok.noex, ok.exfs, ok.funs, ok.frf⟩
theorem Inv.in2 (I : Inv X pins σ H s) : Inv X.in2 pins σ H s := ⟨I.ok.in2, I.os, I.bare, I.base, I.loc, I.cell, I.free, I.freeC, I.pin, I.hok, I.len⟩
theorem Inv.out2 (ok : X.Ok) (I : Inv X.in2 pins σ H s) : Inv X pins σ H s := ⟨ok, I.os, I.bare, I.base, I.loc, I.cell, I.free, I.freeC, I.pin, I.hok, I.len⟩
def zfL (K : PySem.W.Frag) (sp : Sp) : List V → Hp → VK → Prop := fun xs H Q => ∃ (l : Addr) (vs : List V) (kd : Nat → PD), xs = [.ref l] ∧ SqL K H l vs ∧ vs.length < 64 ∧
 (∀ i v, vs[i]? = some v → ∀ H1, Same H H1 → ∀ Q1 : VK, (∀ kv H2, Same H1 H2 → Rep K H2 (kd i) kv → Q1 kv H2) → sp [v] H1 Q1 E0) ∧
 (∀ i, ∃ ds, kd i = .lst ds) ∧ (∀ i, zaD (kd i) ≤ 20) ∧ (∀ i j, i < vs.length → j < vs.length → ltOk (kd i) (kd j) = true) ∧ KS.Ord (fun i j => pyLt (kd i) (kd j)) ∧
 ∀ (r : Addr) (p : Array Nat) (H' : Hp), KS.Ok vs.length p → KS.Srt (fun i j => pyLt (kd i) (kd j)) p vs.length → Same H H' → H r = none → H' r = some (.lst (p.toList.map fun i => vs.getD i .non)) → Q (.ref r) H'
def zlT (K : PySem.W.Frag) (sp : Sp) (t : TA) : TE := fun σ H Q => t σ H fun vs H1 => zfL K sp vs H1 Q
theorem zgl {k : Nat} {f : Addr} {fd : FuncData} {x : Str} {sp : Sp} (F : FnOk X.prog X.w X.K X.mg X.base CX0 k f fd [x] sp) (hb : Binds X.K fd [x] []) (hr : Room (k + 2) X.A) : zib X (.builtin "sorted") [Str.ofString "key"] (fun xs zs H Q => zs = [.ref f] ∧ zfL X.K sp xs H Q) := by
 intro pins s σ H xs zs us ws Q I r1 r2 h
 obtain ⟨rfl, l, vs, kd, rfl, hq, h64, turn, hl, hd, hok, O, q⟩ := h
 obtain ⟨u, rfl, ru⟩ := zcu r1
 obtain ⟨z, rfl, rz⟩ := zcu r2
 cases ru; cases rz
 obtain ⟨its, rv, pl, hz⟩ := I.list hq
 have lv := rv.length
 show wpAny _ _ (call (.builtin "sorted") [.ref l] [(Str.ofString "key", .ref f)]) _ _ _
 refine call_function_entry_kw kind_sorted plain_sorted entry_sorted (ksk_s1 _ _) ?_
 unfold Builtin.«sorted»
 refine wpAny_bind (m := checkCount "sorted" 1 1 _) (wpAny_pure ?_)
 refine wpAny_bind (collect_list pl.isList ?_ (by omega))
 refine wpAny_bind (wpAny_newList ?_ (by omega))
 have hsz : ((s.heap.push (seqObj "list" #[] 0)).update s.heap.objs.size (Obj.mapSeq (· ++ its.toArray))).objs.size = s.heap.objs.size + 1 := by
  rw [Heap.size_update, size_push']
 have hoL : (((s.heap.push (seqObj "list" #[] 0)).update s.heap.objs.size (Obj.mapSeq (· ++ its.toArray))).push (seqObj "list" its.toArray 0)).get? (s.heap.objs.size + 1) = some (seqObj "list" its.toArray 0) := by
  rw [← hsz]; exact Heap.get?_push_size _ rfl
 have keep : ∀ b o, s.heap.get? b = some o → (((s.heap.push (seqObj "list" #[] 0)).update s.heap.objs.size (Obj.mapSeq (· ++ its.toArray))).push (seqObj "list" its.toArray 0)).get? b = some o := fun b o q => by
  have hlt : b < s.heap.objs.size := Heap.lt_size q
  rw [Heap.get?_push_ne _ _ _ (by rw [hsz]; exact Nat.ne_of_lt (Nat.lt_succ_of_lt hlt)), Heap.get?_update_ne _ _ _ _ (Nat.ne_of_lt hlt), Heap.get?_push_ne _ _ _ (Nat.ne_of_lt hlt)]
  exact q
 show wpAny _ _ _ _ _ { s with heap := ((s.heap.push (seqObj "list" #[] 0)).update s.heap.objs.size (Obj.mapSeq (· ++ its.toArray))).push (seqObj "list" its.toArray 0) }
 rw [hsz]
 generalize hg : ((s.heap.push (seqObj "list" #[] 0)).update s.heap.objs.size (Obj.mapSeq (· ++ its.toArray))).push (seqObj "list" its.toArray 0) = g at hoL keep ⊢
 refine wpAny_bind (wpAny_holding (wpAny_call_entry_kw slot_list_sort ⟨_, hoL, rfl⟩ entry_list_sort ?body (ksk_l1 _ _)))
 case body =>
  show wpAny (model X.prog X.w) X.A.in1.in1 (Builtin.«list.sort» ⟨[.ref (s.heap.objs.size + 1)], [(Str.ofString "key", .ref f)]⟩) _ _ _
  rw [ksk_t1]
  unfold ksk_tree
  have ha : s.heap.objs.size + 1 < g.objs.size := Heap.lt_size hoL
  refine wpAny_bind (listItems_at hoL rfl ?_)
  refine wpAny_bind (listUpdate_at hoL rfl ?_ (by rw [List.size_toArray, sizeLine_eq]; omega) (Nat.zero_le _))
  obtain ⟨e1, ho1⟩ : ∃ e1, (g.update (s.heap.objs.size + 1) (Obj.mapSeq fun _ => #[])).get? (s.heap.objs.size + 1) = some (seqObj "list" #[] e1) := ⟨_, get?_update_seq hoL (fun _ => #[])⟩
  refine wpAny_bind (seqEpoch_at ho1 rfl ?_)
  refine wpAny_bind (wpAny_newTuple ?_ (by show its.length ≤ _; rw [sizeLine_eq]; omega))
  refine wpAny_bind (wpAny_newList ?_ (Nat.zero_le _))
  refine wpAny_holding ?_
  have ho6 : (((g.update (s.heap.objs.size + 1) (Obj.mapSeq fun _ => #[])).push (seqObj "tuple" its.toArray 0)).push (seqObj "list" #[] 0)).get? (s.heap.objs.size + 1) = some (seqObj "list" #[] e1) :=
   Heap.get?_push_of_some _ (Heap.get?_push_of_some _ ho1)
  have hkS : ((g.update (s.heap.objs.size + 1) (Obj.mapSeq fun _ => #[])).push (seqObj "tuple" its.toArray 0)).objs.size = g.objs.size + 1 := by rw [size_push', Heap.size_update]
  have hok6 : (((g.update (s.heap.objs.size + 1) (Obj.mapSeq fun _ => #[])).push (seqObj "tuple" its.toArray 0)).push (seqObj "list" #[] 0)).get? (g.objs.size + 1) = some (seqObj "list" #[] 0) := by
   rw [← hkS]; exact Heap.get?_push_size _ rfl
  have kept : ∀ b o, s.heap.get? b = some o → (((g.update (s.heap.objs.size + 1) (Obj.mapSeq fun _ => #[])).push (seqObj "tuple" its.toArray 0)).push (seqObj "list" #[] 0)).get? b = some o := fun b o q => by
   refine Heap.get?_push_of_some _ (Heap.get?_push_of_some _ ?_)
   rw [Heap.get?_update_ne _ _ _ _ (Nat.ne_of_lt (Nat.lt_succ_of_lt (Heap.lt_size q)))]
   exact keep b o q
  show wpAny _ _ (ksk_rest _ _ _ _ _ (.ref ((g.update (s.heap.objs.size + 1) (Obj.mapSeq fun _ => #[])).push (seqObj "tuple" its.toArray 0)).objs.size)) _ _ { s with heap := ((g.update (s.heap.objs.size + 1) (Obj.mapSeq fun _ => #[])).push (seqObj "tuple" its.toArray 0)).push (seqObj "list" #[] 0) }
  rw [hkS]
  generalize ((g.update (s.heap.objs.size + 1) (Obj.mapSeq fun _ => #[])).push (seqObj "tuple" its.toArray 0)).push (seqObj "list" #[] 0) = g6 at ho6 hok6 kept ⊢
  have Fa : FpOk X.in2 pins H (s.heap.objs.size + 1) := I.in2.fpOk (Nat.le_succ _) (I.hok.fresh (Nat.le_succ _))
  have hle : s.heap.objs.size ≤ g.objs.size + 1 := by omega
  have hne : g.objs.size + 1 ≠ s.heap.objs.size + 1 := by omega
  have h64' : its.length < 64 := by omega
  have Fk : FpOk X.in2 pins H (g.objs.size + 1) := I.in2.fpOk hle (I.hok.fresh hle)
  have I6 : Inv X.in2 pins σ H { s with heap := g6 } := Inv.kept (t' := s.toks) I.in2 kept
  refine zkH (X := X.in2) (pins := pins) (σ := σ) (H := H) (vs := vs) (kd := kd) (I6.pins_of fun p hp => ?_) Fa Fk (Heap.get?_none_of_le (Nat.le_succ_of_le I.sz)) hne rv h64' (fun i v u hv hu pins' s' H' I' S' => ?_) hl (fun i => ?_) (by rw [← lv]; exact hok) O fun p s' H' ok srt S' hn I' => ?_
  · rcases List.mem_cons.mp hp with rfl | hp
    · exact ⟨ho6, Fa.1, Fa.2.1, Fa.2.2.1, fun v z => by cases z⟩
    · rcases List.mem_cons.mp hp with rfl | hp
      · exact ⟨hok6, Fk.1, Fk.2.1, Fk.2.2.1, fun v z => by cases z⟩
      · exact I6.pin p (List.mem_append_right _ hp)
  · obtain ⟨u', h1, h2⟩ := Vals.get rv hv
    rw [hu] at h1
    cases h1
    exact zkY (X := X.in2) F (Room.in1 (Room.in1 hr)) hb .nil zmc I' (.cons h2 .nil) (turn i v hv H' S' _ fun kv H2 s2 r2 => ⟨s2, r2⟩)
  · have := hd i
    have := hr.un
    show X.A.units + 1 + 1 + 2 + zaD (kd i) < cLine
    omega
  · refine ⟨_, rfl, ?_⟩
    refine wpAny_pure ⟨_, rfl, ?_⟩
    rw [← lv] at ok srt
    exact ⟨.ref _, _, I'.out2 I.ok, rfl, q _ p _ ok srt (za1 S' Fa.1) Fa.1 zab⟩
theorem zkt {k : Nat} {x px : Str} {sp : Sp} {e : Expr} {t : TA} {p1 p2 p3 pos : Pos} (G : FnH X.prog X.w X.K X.mg X.base k x [px] sp) (hr : Room (k + 2) X.A) (hg : Gl X "sorted") (hm : X.mg "sorted" = none) (hx : Gl X x) (ha : PA X [e] t) (hks : (x == ("__debug__" : Str)) = false := by decide)
 (he : backTo pos (starEach [e] X.env) = (false, eval e X.env) :: backTo pos (starEach [] X.env) := by rfl) (hpl : (backTo pos (starEach [e] X.env)).any (·.1) = false := by rfl) :
 PE X (.Call (.Name "sorted" p1) [e] [⟨some "key", .Name x p2, p3⟩] pos) (zlT X.K sp t) := by
 obtain ⟨f, fd, h1, h2, h3, h4⟩ := G
 have := zd7 (p := p1) (pos := pos) (zgl h1 h2 hr) hg hm zbD ha (zgZ (nm := some "key") (kpos := p3) (zjl (v := .ref f) (pos := p2) hx h4 rfl hks) zji) rfl (by decide) (by decide) he hpl rfl rfl
 intro pins s σ H Q I h
 refine this pins s σ H Q I ?_
 have e0 : (fun (vs : List V) (H1 : Hp) => zfL X.K sp vs H1 Q) = (fun vs H1 => [V.ref f] = [V.ref f] ∧ zfL X.K sp vs H1 Q) := by
  funext vs H1
  simp
 have h' : t σ H (fun vs H1 => zfL X.K sp vs H1 Q) := h
 rw [e0] at h'
 exact h'
def zl7 (K : PySem.W.Frag) : V → List V → Hp → VK → Prop := fun o vs H Q => ∃ (l : Addr) (ps : List (Addr × PD)) (x : V) (d : PD), o = .ref l ∧ vs = [x] ∧ SqL K H l (ps.map fun p => V.ref p.1) ∧ (∀ p ∈ ps, Rep K H p.2 (.ref p.1) ∧ zaD p.2 ≤ 20) ∧ Rep K H d x ∧ Q (.int (ps.countP fun p => pyEq p.2 d)) H
def eqR (ps : List (Addr × PD)) (d : PD) : Value → Bool
 | .ref a => (ps.find? fun p => decide (p.1 = a)).any fun p => pyEq p.2 d
 | _ => false
theorem zhU (hr : ziL X) : MtM X "list.count" (zl7 X.K) := by
 intro pins s σ H x vs v us Q I rx rv h
 obtain ⟨l, ps, y, d, rfl, rfl, hq, hp, hd, q⟩ := h
 cases rx
 obtain ⟨u, rfl, ru⟩ := rv.one
 obtain ⟨its, r, ⟨o, nn, e0, g1, g2, g3⟩, hz⟩ := I.list hq
 obtain rfl := zdP r
 obtain ⟨oc, od, odat, osl⟩ := o
 cases g1
 cases g2
 cases g3
 have at' : ∀ p ∈ ps, eqR ps d (.ref p.1) = pyEq p.2 d := fun p hm => by
  show ((ps.find? fun q => decide (q.1 = p.1)).any fun q => pyEq q.2 d) = pyEq p.2 d
  cases e : ps.find? (fun q => decide (q.1 = p.1)) with
  | none => exact absurd (decide_eq_true rfl) (List.find?_eq_none.mp e p hm)
  | some p' =>
   have h1 : p'.1 = p.1 := of_decide_eq_true (List.find?_some (p := fun (q : Addr × PD) => decide (q.1 = p.1)) e)
   have h2 := (hp p' (List.mem_of_find?_eq_some e)).1
   rw [h1] at h2
   rw [Option.any_some, ze4 I _ _ _ h2 (hp p hm).1]
 refine call_meets F.slot_list_count ⟨_, e0, rfl⟩ F.entry_list_count (F.args_list_count_2 _ _) (SeqAt.list_countAt l (ps.map fun p => Value.ref p.1).toArray nn none osl u (eqR ps d)) ⟨e0, ?_, ?_⟩
 · intro z hz'
   have hz2 : z ∈ ps.map fun p => Value.ref p.1 := Array.mem_toList_iff.mpr hz'
   obtain ⟨p, hm, rfl⟩ := List.mem_map.mp hz2
   rw [at' p hm]
   have := (hp p hm).2
   exact zfq I _ p.2 d _ _ _ _ (hp p hm).1 hd rfl ru (by have := hr; simp only [ziL, Around.in1_units] at *; omega)
 · have ec : (ps.map fun p => Value.ref p.1).toArray.toList.countP (eqR ps d) = ps.countP fun p => pyEq p.2 d := by
    rw [List.toList_toArray, List.countP_map]
    refine List.countP_congr fun p hm => ?_
    show eqR ps d (.ref p.1) = true ↔ _
    rw [at' p hm]
   rw [ec]
   exact ⟨.int _, H, I.tok _, ⟨_, rfl⟩, q⟩
end
end L2
namespace L2
open PySem PySem.Spec PyProof.Rows
section
variable {X : Cx} {pins : List (Addr × Obj)} {σ : St} {H : Hp} {s : Shared} {a : Addr} {o : Obj} {kvs : List (Key × V)}
theorem Inv.freeze (I : Inv X pins σ H s) (e : H a = some (.dK kvs)) (ho : s.heap.get? a = some o) : Inv X pins σ (upd H a (.frz o (.dK kvs))) s := by
 have ne : ∀ b u, H b = some u → (∀ z, u ≠ .dK z) → b ≠ a := fun b u q n z => by rw [z, e] at q; exact n kvs (Option.some.inj q).symm
 have nn : ∀ b, H b = none → b ≠ a := fun b q z => by rw [z, e] at q; cases q
 refine ⟨I.ok, I.os, I.bare, ⟨I.base.keep, I.base.slot, fun b ob q n hx => ?_, I.base.there, fun b xs q => ?_, fun b ob u q => ?_, fun b ps q => ?_⟩, I.loc, I.cell, ?_, fun x c ec => ?_, fun p hp' => ?_, fun b u q => ?_, I.len⟩
 · have := I.base.free b ob q n hx
   rw [zak (nn b this)]
   exact this
 · have := I.base.tups b xs q
   rw [zak (ne b _ this (by intro z; simp))]
   exact this
 · have := I.base.frzs b ob u q
   rw [zak (ne b _ this (by intro z; simp))]
   exact this
 · obtain ⟨m, this⟩ := I.base.tbls b ps q
   exact ⟨m, by rw [zak (ne b _ this (by intro z; simp))]; exact this⟩
 · rw [zak (nn _ I.free)]; exact I.free
 · have := I.freeC x c ec
   rw [zak (nn _ this)]; exact this
 · obtain ⟨e1, n, r⟩ := I.pin p hp'
   exact ⟨e1, by rw [zak (nn _ n)]; exact n, r⟩
 · by_cases hb : b = a
   · subst hb
     rw [zab] at q
     cases q
     exact ⟨ho, I.hok b _ e⟩
   · rw [zak hb] at q
     exact (I.hok b u q).stay (fun c v _ r => r) (fun c r => by rw [zak (ne c _ r (by intro z; simp))]; exact r) fun c xs r => by rw [zak (ne c _ r (by intro z; simp))]; exact r
end
def Itd (o : Obj) (a : Addr) (kvs : List (Key × V)) (fs : List Str) : It :=
 ⟨fun i H => i < fs.length ∧ H a = some (.frz o (.dK kvs)), fun i H x H' => H' = H ∧ ∃ f, fs[i]? = some f ∧ x = .str f, fun i H => fs.length ≤ i ∧ H a = some (.frz o (.dK kvs))⟩
theorem ziO {P : Program} {w : World} {K : PySem.W.Frag} {tg : Expr} (a it : Addr) (o : Obj) {kvs : List (Key × V)} {fs : List Str} {vs : List (Key × Value)} {ep : Nat} {h1 : Heap} (hf : kvs.map (·.1) = fs.map Sum.inr) (hk : vs.map (·.1) = fs.map Sum.inr) (ho : h1.get? a = some o)
 (D : h1.DictAt (zaB P w) a vs ep) (hai : a ≠ it) : Turn P w K tg (Itd o a kvs fs) [it] it (fun i h => h.IsKeyIter it a i vs.length ep) where
 mem := by simp
 obj := fun i h st b hb => by
  have e : b = it := by simpa using hb
  subst e
  obtain ⟨o, e, c, d⟩ := st
  exact ⟨o, e, fun v z => by rw [d] at z; cases z⟩
 keep := fun i h h' st k => st.at fun o e => k it (by simp) o e
 item := by
  intro X hP hw hK hc i pins s σ H E I hfp st hg
  subst hP hw hK
  obtain ⟨hi, hH⟩ := hg
  have hs : s.heap.get? a = some o := (show ObjOk X.prog X.w H s.heap a (.frz o (.dK kvs)) from I.hok a _ hH).1
  have D' : s.heap.DictAt (zaB X.prog X.w) a vs ep := D.at' fun o' e => by rw [ho] at e; cases e; exact hs
  obtain ⟨f0, f1, f2, f3, f4, f5⟩ := hfp it (by simp)
  have hl : vs.length = fs.length := by have := congrArg List.length hk; simpa using this
  obtain ⟨⟨k, x⟩, hx⟩ : ∃ p, vs[i]? = some p := ⟨vs[i], by simp⟩
  have hfi : fs[i]? = some fs[i] := by simp
  have ek : k = Sum.inr fs[i] := by
   have h2 : (vs.map (·.1))[i]? = some k := by rw [List.getElem?_map, hx]; rfl
   rw [hk, List.getElem?_map, hfi] at h2
   exact (Option.some.inj h2).symm
  refine wpAny_pyNext_dict_item st D' hx fun key h' hkey hit' hs' => ?_
  rw [zeC, ek] at hkey
  obtain ⟨t, rfl⟩ : ∃ t, key = .str fs[i] t := Value.isStrOf_shape hkey
  have I1 : Inv X pins σ H { s with heap := h' } := I.turned (t' := s.toks) (fun b o hb e => hs'.extBut b o hb e) f0 f1 f3 f4 f5
  obtain ⟨o2, e, c, d⟩ := id hit'
  exact ⟨_, rfl, ziH (s := { s with heap := h' }) e c d (by decide) ⟨.str fs[i], H, I1, ⟨t, rfl⟩, ⟨rfl, _, hfi, rfl⟩, hit', fun b hb => (hfp b hb).1⟩⟩
 done := by
  intro X hP hw hK hc i pins s σ H E I hfp st hg
  subst hP hw hK
  obtain ⟨hi, hH⟩ := hg
  have hs : s.heap.get? a = some o := (show ObjOk X.prog X.w H s.heap a (.frz o (.dK kvs)) from I.hok a _ hH).1
  have D' : s.heap.DictAt (zaB X.prog X.w) a vs ep := D.at' fun o' e => by rw [ho] at e; cases e; exact hs
  obtain ⟨f0, f1, f2, f3, f4, f5⟩ := hfp it (by simp)
  have hl : vs.length = fs.length := by have := congrArg List.length hk; simpa using this
  exact wpAny_pyNext_dict_end (I.ok.hd hc) st D' (by simp; omega) fun h' eb => ⟨rfl, I.turned (t' := s.toks) (fun b o hb e => eb b o hb e) f0 f1 f3 f4 f5⟩
 self := fun _ _ _ _ _ st h => wpAny_pyIter_keyiter st h
section
variable {X : Cx} {tg : Expr}
def zmQ (tl : TE) : TI := fun σ H R => tl σ H fun x H1 => ∃ (a : Addr) (kvs : List (Key × V)) (fs : List Str), x = .ref a ∧ H1 a = some (.dK kvs) ∧ kvs.map (·.1) = fs.map Sum.inr ∧ ∀ o, R (Itd o a kvs fs) (upd H1 a (.frz o (.dK kvs)))
theorem zlC {kvs : List (Key × V)} {vs : List (Key × Value)} (rk : KV kvs vs) : vs.map (·.1) = kvs.map (·.1) := by
 unfold KV at rk
 induction rk with
 | nil => rfl
 | cons r t ih => rw [List.map_cons, List.map_cons, ih, r.1]
theorem zlr {l : Expr} {tl : TE} (hl : PE X l tl) : PI X tg l (zmQ tl) := by
 intro pins s σ H R I h
 refine thn (hl pins s σ H _ I h) fun v s1 ⟨x, H1, I1, r1, q1⟩ => ?_
 obtain ⟨a, kvs, fs, e, hH, hfs, q⟩ := q1
 subst e
 cases r1
 obtain ⟨hz, hS, vs, rk, m⟩ : kvs.length ≤ sizeLine ∧ (a == sysModules) = false ∧ ∃ vs, KV kvs vs ∧ s1.heap.DictOf (zaB X.prog X.w) a vs := I1.hok a _ hH
 obtain ⟨ep, D⟩ := m.dictAt
 have hat := D.lt_size
 obtain ⟨o, ho⟩ : ∃ o, s1.heap.get? a = some o := by obtain ⟨o, es, e, _⟩ := id D; exact ⟨o, e⟩
 refine wpAny_pyIter_dict (knd := zaB X.prog X.w) hS D ?_
 have I2 := I1.freeze hH ho
 refine ⟨s1.heap.objs.size, [s1.heap.objs.size], _, _, upd H1 a (.frz o (.dK kvs)), rfl, I2.kept (t' := s1.toks) fun b o e => Heap.get?_push_of_some _ e, ziO a _ o hfs ((zlC rk).trans hfs) ho D (Nat.ne_of_lt hat), ⟨_, Heap.get?_push_size _ rfl, rfl, rfl⟩, fun b hb => ?_, q o⟩
 have e : b = s1.heap.objs.size := by simpa using hb
 subst e
 exact I2.fpOk (Nat.le_refl _) (I2.hok.fresh (Nat.le_refl _))
end
section
variable {p a : Addr} {g : TG} {tc : TT} {te : TE} {σ : St} {H : Hp} {Q : VK} {o : Obj} {kvs : List (Key × V)} {fs : List Str}
theorem zlz {js : Cap} (Pv : Nat → St → List V → Hp → Prop) (h0 : Pv 0 (inn js σ) [] (upd H p (.lst [])))
 (hl : ∀ i σ ys H, i ≤ fs.length → Pv i σ ys H → H a = some (.frz o (.dK kvs)) ∧ H p = some (.lst ys) ∧ ys.length < sizeLine)
 (hs : ∀ (i : Nat) f σ ys H (N : St → List V → Hp → Prop), fs[i]? = some f → Pv i σ ys H → (∀ σ' ys' H', Pv (i + 1) σ' ys' H' → N σ' ys' H') → zel p g tc te ys (.str f) σ H N)
 (hd : ∀ σ ys H, Pv fs.length σ ys H → Q (.ref p) H) : zbE (Itd o a kvs fs) p js g tc te σ H Q :=
 zeF (n := fs.length) (J := Itd o a kvs fs) (js := js) (σ := σ) (H := H) (p := p) (Q := Q) (g := g) (tc := tc) (te := te) Pv h0 (fun i σ ys H hi pv => (hl i σ ys H hi pv).2)
  (fun i σ ys H hi pv => ⟨hi, (hl i σ ys H (Nat.le_of_lt hi) pv).1⟩) (fun σ ys H pv => ⟨Nat.le_refl _, (hl _ σ ys H (Nat.le_refl _) pv).1⟩)
  (fun i x σ ys H H' N hi y pv hN => by
   obtain ⟨e, f, hf, rfl⟩ := y
   subst e
   exact hs i f σ ys _ N hf pv hN) hd
end
section
variable {X : Cx}
def zlm : List V → Hp → VK → Prop := fun xs H Q => ∃ (a : Addr) (kvs : List (Key × V)) (fs : List Str), xs = [.ref a] ∧ Rd H a (.dK kvs) ∧ kvs.map (·.1) = fs.map Sum.inr ∧ fs.length < 64 ∧
 ∀ (p : Addr) (ms : List Str), ms.Perm fs → ms.Nodup → sortedS ms = true → H p = none → Q (.ref p) (upd H p (.lst (ms.map V.str)))
theorem zbS (hc : X.calm = true) : zdj X (.builtin "sorted") zlm := by
 intro pins s σ H xs us Q I r h
 obtain ⟨a, kvs, fs, rfl, hH, hfs, h64, q⟩ := h
 obtain ⟨u, rfl, rx⟩ := zcu r
 cases rx
 obtain ⟨hz, hS, vs, rk, m⟩ : kvs.length ≤ sizeLine ∧ (a == sysModules) = false ∧ ∃ vs, KV kvs vs ∧ s.heap.DictOf (zaB X.prog X.w) a vs := by
  rcases hH with hH | ⟨o, hH⟩
  · exact I.hok a _ hH
  · exact (show ObjOk X.prog X.w H s.heap a (.frz o (.dK kvs)) from I.hok a _ hH).2
 obtain ⟨ep, D⟩ := m.dictAt
 have hlen : kvs.length = vs.length := Paired.length rk
 have hfl : kvs.length = fs.length := by have := congrArg List.length hfs; simpa using this
 have keys : vs.map (·.1) = fs.map Sum.inr := by
  rw [← hfs]
  clear hfs D m hlen hfl hz hH
  unfold KV at rk
  induction rk with
  | nil => rfl
  | cons r t ih => rw [List.map_cons, List.map_cons, ih, r.1]
 have hnd : fs.Nodup := by
  have := D.nodup
  rw [keys] at this
  exact List.Pairwise.of_map _ (fun _ _ z e => z (by rw [e])) this
 refine Calls.call_function_entry kind_sorted plain_sorted entry_sorted (args_sorted1 _) ?_
 unfold Builtin.«sorted»
 refine wpAny_bind (m := checkCount "sorted" 1 1 _) (wpAny_pure ?_)
 refine wpAny_bind (zgh (knd := zaB X.prog X.w) (by simpa using I.ok.hd hc) hS D (by omega) fun h1 tk1 ws hwl hws hsz hk => ?_)
 have hv : StrsAre ws fs := zdy (prog := X.prog) (w := X.w) fs ws (by omega) fun i v f h2 h3 => by
  obtain ⟨k, u, h4, h5⟩ := hws i v h2
  have : (vs.map (·.1))[i]? = some k := by rw [List.getElem?_map, h4]; rfl
  rw [keys, List.getElem?_map, h3] at this
  cases this
  exact h5
 refine wpAny_bind (wpAny_newList ?_ (by rw [sizeLine_eq]; omega))
 have hoL : (h1.push (seqObj "list" ws.toArray 0)).get? h1.objs.size = some (seqObj "list" ws.toArray 0) := Heap.get?_push_size _ rfl
 show wpAny _ _ (holding _ _ >>= _) _ _ { s with heap := h1.push (seqObj "list" ws.toArray 0), toks := tk1 }
 refine wpAny_bind (wpAny_holding (wpAny_call_entry slot_list_sort ⟨_, hoL, rfl⟩ entry_list_sort (list_sort_treeK strKind_oneLt hoL hv.keysOf (fun v₁ v₂ rest e => keyKind_strs (by rw [← e]; exact hv)) (by omega) fun st' a1 a2 => ⟨_, rfl, ?_⟩) (args_list_sort _)))
 obtain ⟨ms, m1, m2, m3⟩ := sorted_out_str hv a1 a2
 obtain ⟨e, he⟩ := sortedHeap_at (out := (arrOf st').map (·.2)) hoL
 refine wpAny_pure ⟨_, rfl, ?_⟩
 have hn1 : H h1.objs.size = none := I.hok.fresh (Nat.le_of_lt hsz)
 refine ⟨.ref h1.objs.size, upd H h1.objs.size (.lst (ms.map V.str)), I.laid (t' := tk1) (fun b o eb => ?_) (Nat.le_of_lt hsz) ?_, rfl, q _ ms m2 (m2.nodup_iff.mpr hnd) m3 hn1⟩
 · have hb : b < h1.objs.size := Heap.lt_size (hk b o eb)
   rw [sortedHeap_old (Nat.ne_of_lt hb) (by rw [size_push']; exact Nat.lt_succ_of_lt hb)]
   exact Heap.get?_push_of_some _ (hk b o eb)
 · have hml : ms.length = fs.length := m2.length_eq
   exact ⟨by rw [List.length_map, sizeLine_eq]; omega, ((arrOf st').map (·.2)).toList, e, zb1 m1, by rw [Array.toArray_toList]; exact he⟩
end
def kvS (bs : List (Str × V)) : List (Key × V) := bs.map fun x => ((Sum.inr x.1 : Key), x.2)
def getS (bs : List (Str × V)) (f : Str) : Option V := (bs.find? fun x => decide (x.1 = f)).map (·.2)
theorem zb2 (f : Str) : ∀ bs : List (Str × V), valV (kvS bs) (.inr f : Key) = getS bs f
 | [] => rfl
 | x :: bs => by
  have ih := zb2 f bs
  unfold kvS valV getS at *
  by_cases h : x.1 = f
  · simp [List.find?_cons, h]
  · simp [List.find?_cons, h] at ih ⊢
    exact ih
theorem zh0 (bs : List (Str × V)) : (kvS bs).map (·.1) = (bs.map (·.1)).map Sum.inr := by
 unfold kvS
 rw [List.map_map, List.map_map]
 rfl
def putS (bs : List (Str × V)) (f : Str) (v : V) : List (Str × V) := if (bs.any fun x => decide (x.1 = f)) = true then bs.map (fun x => if x.1 = f then (x.1, v) else x) else bs ++ [(f, v)]
theorem zdM (bs : List (Str × V)) (f : Str) (v : V) : putK (kvS bs) (.inr f : Key) v = kvS (putS bs f v) := by
 unfold putK putS kvS
 have e : ((bs.map fun x => ((Sum.inr x.1 : Key), x.2)).any fun kv => decide (kv.1 = (Sum.inr f : Key))) = bs.any fun x => decide (x.1 = f) := by
  rw [List.any_map]
  congr 1
  funext x
  simp
 rw [e]
 split
 · rw [List.map_map, List.map_map]
   refine List.map_congr_left fun x _ => ?_
   simp only [Function.comp]
   by_cases h : x.1 = f
   · rw [if_pos (by rw [h]), if_pos h]
   · rw [if_neg (fun z => h (by injection z)), if_neg h]
 · rw [List.map_append]
   rfl
theorem zd4 (bs : List (Str × V)) (f : Str) (v : V) : (putS bs f v).map (·.1) = if f ∈ bs.map (·.1) then bs.map (·.1) else bs.map (·.1) ++ [f] := by
 unfold putS
 have e : (bs.any fun x => decide (x.1 = f)) = true ↔ f ∈ bs.map (·.1) := by
  rw [List.any_eq_true, List.mem_map]
  constructor
  · rintro ⟨x, hx, h⟩; exact ⟨x, hx, of_decide_eq_true h⟩
  · rintro ⟨x, hx, h⟩; exact ⟨x, hx, decide_eq_true h⟩
 by_cases h : f ∈ bs.map (·.1)
 · rw [if_pos (e.mpr h), if_pos h, List.map_map]
   refine List.map_congr_left fun x _ => ?_
   simp only [Function.comp]
   split <;> rfl
 · rw [if_neg (fun z => h (e.mp z)), if_neg h, List.map_append]
   rfl
theorem zew {bs : List (Str × V)} (h : (bs.map (·.1)).Nodup) (f : Str) (v : V) : ((putS bs f v).map (·.1)).Nodup := by
 rw [zd4]
 split
 · exact h
 · rename_i hn
   exact zhd h hn
theorem zhK (bs : List (Str × V)) (f : Str) (v : V) : (putS bs f v).length ≤ bs.length + 1 := by
 unfold putS
 split
 · rw [List.length_map]; omega
 · rw [List.length_append]; simp
theorem zkK (bs : List (Str × V)) (f : Str) (v : V) (g : Str) : getS (putS bs f v) g = if g = f then some v else getS bs g := by
 rw [← zb2, ← zdM, zdH, zb2]
 by_cases h : g = f
 · subst h; rw [if_pos rfl, if_pos rfl]
 · rw [if_neg h, if_neg (fun z => h (by injection z))]
theorem zkL {bs : List (Str × V)} {f : Str} : f ∈ bs.map (·.1) ↔ (getS bs f).isSome = true := by
 unfold getS
 rw [Option.isSome_map, List.find?_isSome, List.mem_map]
 constructor
 · rintro ⟨x, hx, h⟩; exact ⟨x, hx, decide_eq_true h⟩
 · rintro ⟨x, hx, h⟩; exact ⟨x, hx, of_decide_eq_true h⟩
abbrev SPN := Option Int × Option Int
def metO : Option SPN → Option SPN → Option SPN
 | none, o => o
 | some s, none => some s
 | some s, some t => some (mLo s.1 t.1, mHi s.2 t.2)
structure IsMet (w1 w2 m : List WP) : Prop where
 len : m.length ≤ w1.length + w2.length
 asc : (m.map (·.1)).Pairwise ltF
 sp : ∀ f, zaj m f = metO (zaj w1 f) (zaj w2 f)
def zdi (w1 : List WP) (p : WP) : Bool := match zaj w1 p.1 with
 | none => false
 | some s => apart (mLo s.1 p.2.1) (mHi s.2 p.2.2)
def zct (w1 w2 : List WP) : Bool := w2.any (zdi w1)
theorem zdQ {w : List WP} (h : (w.map (·.1)).Pairwise ltF) (p : List PP) : zcr w p = true ↔ ∀ f s, zaj w f = some s → ∃ n, zbC p f = some n ∧ inB s.1 s.2 n = true := by
 unfold zcr
 rw [List.all_eq_true]
 constructor
 · intro q f s hs
   obtain ⟨x, hx, e1, e2⟩ := zaI hs
   have := q x hx
   unfold zdx at this
   rw [e1] at this
   cases e : zbC p f with
   | none => rw [e] at this; cases this
   | some n => rw [e, e2] at this; exact ⟨n, rfl, this⟩
 · intro q x hx
   obtain ⟨n, h1, h2⟩ := q x.1 x.2 (zcY h hx)
   rw [zcW h1]
   exact h2
theorem ziQ {w1 w2 m : List WP} (h1 : (w1.map (·.1)).Pairwise ltF) (h2 : (w2.map (·.1)).Pairwise ltF) (h : IsMet w1 w2 m) (p : List PP) : zcr m p = (zcr w1 p && zcr w2 p) := by
 rw [Bool.eq_iff_iff, Bool.and_eq_true, zdQ h.asc, zdQ h1, zdQ h2]
 constructor
 · intro q
   refine ⟨fun f s hs => ?_, fun f s hs => ?_⟩
   · cases e : zaj w2 f with
     | none => exact q f s (by rw [h.sp, hs, e]; rfl)
     | some t =>
      obtain ⟨n, n1, n2⟩ := q f (mLo s.1 t.1, mHi s.2 t.2) (by rw [h.sp, hs, e]; rfl)
      have := zfZ s.1 s.2 t.1 t.2 n
      rw [this, Bool.and_eq_true] at n2
      exact ⟨n, n1, n2.1⟩
   · cases e : zaj w1 f with
     | none => exact q f s (by rw [h.sp, hs, e]; rfl)
     | some t =>
      obtain ⟨n, n1, n2⟩ := q f (mLo t.1 s.1, mHi t.2 s.2) (by rw [h.sp, hs, e]; rfl)
      have := zfZ t.1 t.2 s.1 s.2 n
      rw [this, Bool.and_eq_true] at n2
      exact ⟨n, n1, n2.2⟩
 · rintro ⟨q1, q2⟩ f s hs
   rw [h.sp] at hs
   cases e1 : zaj w1 f with
   | none =>
    rw [e1] at hs
    exact q2 f s hs
   | some t =>
    cases e2 : zaj w2 f with
    | none => rw [e1, e2] at hs; cases hs; exact q1 f _ e1
    | some u =>
     rw [e1, e2] at hs
     cases hs
     obtain ⟨n, n1, n2⟩ := q1 f t e1
     obtain ⟨n', n1', n2'⟩ := q2 f u e2
     rw [n1] at n1'
     cases n1'
     refine ⟨n, n1, ?_⟩
     rw [zfZ, n2, n2']
     rfl
theorem zcw {w : List WP} {x : WP} (h : (w.map (·.1)).Pairwise ltF) (hx : x ∈ w) : zaj w x.1 = some x.2 := zcY h hx
theorem zhC : ∀ {m m' : List WP}, (m.map (·.1)).Pairwise ltF → (m'.map (·.1)).Pairwise ltF → (∀ f, zaj m f = zaj m' f) → m = m'
 | [], [], _, _, _ => rfl
 | [], y :: r, _, _, h => by have := h y.1; simp [zaj] at this
 | x :: r, [], _, _, h => by have := h x.1; simp [zaj] at this
 | x :: r, y :: r', h1, h2, h => by
  have hx := zcw h1 (x := x) (by simp)
  have hy := zcw h2 (x := y) (by simp)
  have g1 := h1
  have g2 := h2
  rw [List.map_cons, List.pairwise_cons] at g1 g2
  have e : x.1 = y.1 := by
   rw [h x.1] at hx
   rw [← h y.1] at hy
   obtain ⟨u, hu, u1, _⟩ := zaI hx
   obtain ⟨v, hv, v1, _⟩ := zaI hy
   rcases List.mem_cons.mp hu with rfl | hu
   · exact u1.symm
   · rcases List.mem_cons.mp hv with rfl | hv
     · exact v1
     · have k1 := g2.1 _ (List.mem_map_of_mem (f := (·.1)) hu)
       have k2 := g1.1 _ (List.mem_map_of_mem (f := (·.1)) hv)
       rw [u1] at k1
       rw [v1] at k2
       exact absurd (zeh k1 k2) (List.lt_irrefl _)
  have e2 : x = y := by
   rw [h x.1, e, hy] at hx
   exact Prod.ext e (Option.some.inj hx).symm
  subst e2
  have tails : ∀ f, zaj r f = zaj r' f := fun f => by
   by_cases hf : x.1 = f
   · have n1 : zaj r f = none := by
      cases e : zaj r f with
      | none => rfl
      | some s => obtain ⟨u, hu, u1, _⟩ := zaI e; have := g1.1 _ (List.mem_map_of_mem (f := (·.1)) hu); rw [u1, hf] at this; exact absurd this (List.lt_irrefl _)
     have n2 : zaj r' f = none := by
      cases e : zaj r' f with
      | none => rfl
      | some s => obtain ⟨u, hu, u1, _⟩ := zaI e; have := g2.1 _ (List.mem_map_of_mem (f := (·.1)) hu); rw [u1, hf] at this; exact absurd this (List.lt_irrefl _)
     rw [n1, n2]
   · have := h f
     unfold zaj at this ⊢
     rw [List.find?_cons_of_neg (by simpa using hf), List.find?_cons_of_neg (by simpa using hf)] at this
     exact this
  rw [zhC g1.2 g2.2 tails]
theorem zde {lo hi : Option Int} : leO lo hi = !apart lo hi := by
 cases lo <;> cases hi <;> simp only [leO, apart, Bool.not_false]
 rw [Bool.eq_iff_iff]
 simp
theorem zf0 (a b : Option Int) : mLo (mLo a b) a = mLo a b := by
 cases a <;> cases b <;> simp [mLo]
 split <;> omega
theorem zf1 (a b : Option Int) : mHi (mHi a b) a = mHi a b := by
 cases a <;> cases b <;> simp [mHi]
 split <;> omega
theorem zjc (lo hi lo2 hi2 : Option Int) : zcU lo hi (mLo lo lo2) (mHi hi hi2) = true := by
 cases lo <;> cases hi <;> cases lo2 <;> cases hi2 <;> simp [zcU, zjX, upB, mLo, mHi] <;> (try constructor) <;> (try split) <;> omega
theorem zjz {w1 w2 m : List WP} (k1 : WOk w1) (k2 : WOk w2) (hl : w1.length + w2.length ≤ 60) (h : IsMet w1 w2 m) (ap : zct w1 w2 = false) : WOk m := by
 refine ⟨by have := h.len; omega, fun x hx => ?_, h.asc⟩
 have hs := zcw h.asc hx
 rw [h.sp] at hs
 cases e1 : zaj w1 x.1 with
 | none =>
  rw [e1] at hs
  obtain ⟨y, hy, y1, y2⟩ := zaI (show zaj w2 x.1 = some x.2 from hs)
  have := k2.ok y hy
  rw [y1, y2] at this
  exact this
 | some s =>
  obtain ⟨z, hz, z1, z2⟩ := zaI e1
  have hz' := k1.ok z hz
  rw [z1, z2] at hz'
  cases e2 : zaj w2 x.1 with
  | none =>
   rw [e1, e2] at hs
   cases hs
   exact hz'
  | some t =>
   rw [e1, e2] at hs
   obtain ⟨y, hy, y1, y2⟩ := zaI e2
   have ha : zdi w1 y = false := by
    cases e : zdi w1 y with
    | false => rfl
    | true =>
     have : zct w1 w2 = true := List.any_eq_true.mpr ⟨y, hy, e⟩
     rw [ap] at this
     cases this
   unfold zdi at ha
   rw [y1, e1] at ha
   have hs' : (mLo s.1 t.1, mHi s.2 t.2) = x.2 := Option.some.inj hs
   refine ⟨hz'.1, ?_⟩
   rw [← hs', zde]
   rw [y2] at ha
   show (!apart (mLo s.1 t.1) (mHi s.2 t.2)) = true
   rw [show apart (mLo s.1 t.1) (mHi s.2 t.2) = false from ha]
   rfl
theorem zjb {w1 w2 m : List WP} (k1 : (w1.map (·.1)).Pairwise ltF) (h : IsMet w1 w2 m) : zcs w1 m = true := by
 unfold zcs
 rw [List.all_eq_true]
 intro p hp
 have hs := zcw k1 hp
 cases e2 : zaj w2 p.1 with
 | none =>
  have : zaj m p.1 = some p.2 := by rw [h.sp, hs, e2]; rfl
  rw [zco this]
  exact zil _ _
 | some t =>
  have : zaj m p.1 = some (mLo p.2.1 t.1, mHi p.2.2 t.2) := by rw [h.sp, hs, e2]; rfl
  rw [zco this]
  exact zjc _ _ _ _
theorem zjA {w1 w2 m m' : List WP} (h : IsMet w1 w2 m) (h' : IsMet m w1 m') : m' = m := by
 refine zhC h'.asc h.asc fun f => ?_
 rw [h'.sp, h.sp]
 cases zaj w1 f with
 | none =>
  cases zaj w2 f with
  | none => rfl
  | some t => rfl
 | some s =>
  cases zaj w2 f with
  | none =>
   show some (mLo s.1 s.1, mHi s.2 s.2) = some s
   rw [zhV, zhX]
  | some t =>
   show some (mLo (mLo s.1 t.1) s.1, mHi (mHi s.2 t.2) s.2) = some (mLo s.1 t.1, mHi s.2 t.2)
   rw [zf0, zf1]
theorem zhy {w1 w2 m : List WP} (k1 : WOk w1) (km : WOk m) (h : IsMet w1 w2 m) : zct m w1 = false := by
 cases e : zct m w1 with
 | false => rfl
 | true =>
  obtain ⟨p, hp, hq⟩ := List.any_eq_true.mp e
  have hs := zcw k1.asc hp
  unfold zdi at hq
  have hm : ∃ s, zaj m p.1 = some s ∧ mLo s.1 p.2.1 = s.1 ∧ mHi s.2 p.2.2 = s.2 := by
   cases e2 : zaj w2 p.1 with
   | none => exact ⟨p.2, by rw [h.sp, hs, e2]; rfl, zhV _, zhX _⟩
   | some t => exact ⟨(mLo p.2.1 t.1, mHi p.2.2 t.2), by rw [h.sp, hs, e2]; rfl, zf0 _ _, zf1 _ _⟩
  obtain ⟨s, s1, s2, s3⟩ := hm
  rw [s1] at hq
  simp only [s2, s3] at hq
  obtain ⟨y, hy, y1, y2⟩ := zaI s1
  have := (km.ok y hy).2
  rw [y2, zde, hq] at this
  cases this
def zdg (s t : SPN) : Option Int := ((zcA [s, t]).filter fun k => inB s.1 s.2 k && inB t.1 t.2 k).head?
theorem zkw (s t : SPN) : zdb (mLo s.1 t.1) (mHi s.2 t.2) ∈ zcA [s, t] := by
 obtain ⟨a, b⟩ := s
 obtain ⟨c, d⟩ := t
 apply zlq (a := a) (b := b) (c := c) (d := d)
 cases a <;> cases b <;> cases c <;> cases d <;> simp [zdb, mLo, mHi, near] <;> (try split) <;> omega
theorem zeJ (s t : SPN) : zdg s t = none ↔ apart (mLo s.1 t.1) (mHi s.2 t.2) = true := by
 unfold zdg
 rw [List.head?_eq_none_iff, List.filter_eq_nil_iff]
 constructor
 · intro h
   cases e : apart (mLo s.1 t.1) (mHi s.2 t.2) with
   | true => rfl
   | false =>
    refine absurd ?_ (h _ (zkw s t))
    rw [← zfZ]
    exact zkx (by rw [e]; exact Bool.false_ne_true)
 · intro h k _
   rw [← zfZ, zkV h k]
   exact Bool.false_ne_true
def dWP (p : WP) : PD := .tup [.str p.1, dE p.2.1, dE p.2.2]
def dW (w : List WP) : PD := .tup (w.map dWP)
theorem zkZ {K : PySem.W.Frag} {H : Hp} : ∀ ps : List (Addr × WP), (∀ p ∈ ps, H p.1 = some (.tup [.str p.2.1, eV p.2.2.1, eV p.2.2.2])) → Reps K H ((ps.map (·.2)).map dWP) (ps.map fun p => V.ref p.1)
 | [], _ => by show Reps K H [] []; rw [Reps]
 | p :: ps, h => by
  show Reps K H (dWP p.2 :: _) (V.ref p.1 :: _)
  rw [Reps]
  refine ⟨_, _, rfl, ?_, zkZ ps fun q hq => h q (List.mem_cons_of_mem _ hq)⟩
  unfold dWP
  rw [Rep]
  refine ⟨p.1, _, rfl, SqT.of (h p List.mem_cons_self), ?_⟩
  rw [Reps]
  refine ⟨_, _, rfl, by rw [Rep], ?_⟩
  rw [Reps]
  refine ⟨_, _, rfl, zhH _, ?_⟩
  rw [Reps]
  exact ⟨_, _, rfl, zhH _, by rw [Reps]⟩
theorem ze5 {K : PySem.W.Frag} {H : Hp} {a : Addr} {w : List WP} (h : WishAt H a w) : Rep K H (dW w) (.ref a) := by
 obtain ⟨ps, rfl, h1, h2⟩ := h
 unfold dW
 rw [Rep]
 exact ⟨a, _, rfl, SqT.of h1, zkZ ps h2⟩
theorem zkR (p : WP) : zaD (dWP p) = 1 := by
 unfold dWP
 simp [zaD, zaC, zft]
theorem zh6 : ∀ w : List WP, zaC (w.map dWP) ≤ 1
 | [] => by show zaC [] ≤ 1; rw [zaC]; omega
 | p :: w => by
  rw [List.map_cons, zaC, zkR]
  have := zh6 w
  omega
theorem zfu (w : List WP) : zaD (dW w) ≤ 2 := by
 unfold dW
 rw [zaD]
 have := zh6 w
 omega
theorem zjf (a b : Option Int) : pyEq (dE a) (dE b) = decide (a = b) := by
 cases a <;> cases b <;> simp only [dE, pyEq] <;> rw [Bool.eq_iff_iff] <;> simp
theorem zlp (p q : WP) : pyEq (dWP p) (dWP q) = decide (p = q) := by
 obtain ⟨f, a, b⟩ := p
 obtain ⟨g, c, d⟩ := q
 unfold dWP
 rw [pyEq, zbd, zbd, zbd, zbd, zjf, zjf, pyEq, Bool.eq_iff_iff]
 simp
theorem zje : ∀ w w' : List WP, zbd (w.map dWP) (w'.map dWP) = decide (w = w')
 | [], [] => by rw [List.map_nil, zbd]; rfl
 | [], y :: r => by rw [List.map_nil, List.map_cons, zbd]; rfl; all_goals simp
 | x :: r, [] => by rw [List.map_nil, List.map_cons, zbd]; rfl; all_goals simp
 | x :: r, y :: r' => by
  rw [List.map_cons, List.map_cons, zbd, zlp, zje r r', Bool.eq_iff_iff]
  simp
theorem zhJ (w w' : List WP) : pyEq (dW w) (dW w') = decide (w = w') := by
 unfold dW
 rw [pyEq, zje]
structure STo {α : Type} (l : α → α → Bool) : Prop where
 ir : ∀ a, l a a = false
 tr : ∀ a b c, l a b = true → l b c = true → l a c = true
 tot : ∀ a b, a ≠ b → l a b = true ∨ l b a = true
theorem STo.as {α : Type} {l : α → α → Bool} (h : STo l) {a b : α} (q : l a b = true) : l b a = false := by
 cases e : l b a with
 | false => rfl
 | true => have := h.tr a b a q e; rw [h.ir] at this; cases this
theorem STo.ntr {α : Type} [DecidableEq α] {l : α → α → Bool} (h : STo l) {a b c : α} (h1 : l b a = false) (h2 : l c b = false) : l c a = false := by
 cases e : l c a with
 | false => rfl
 | true =>
  by_cases hab : a = b
  · subst hab; rw [e] at h2; cases h2
  · rcases h.tot a b hab with z | z
    · have := h.tr c a b e z; rw [h2] at this; cases this
    · rw [h1] at z; cases z
theorem STo.ord {α : Type} [DecidableEq α] {l : α → α → Bool} (h : STo l) (k : Nat → α) : KS.Ord fun i j => l (k i) (k j) :=
 ⟨fun a b q => h.as q, fun a b c h1 h2 => h.ntr h1 h2⟩
def ltI (a b : Int) : Bool := decide (a < b)
theorem sto_int : STo ltI := ⟨fun a => by simp [ltI], fun a b c h1 h2 => by simp [ltI] at *; omega, fun a b h => by simp [ltI]; omega⟩
def ltS (a b : Str) : Bool := decide (a.cps.toList < b.cps.toList)
theorem sto_str : STo ltS := ⟨fun a => decide_eq_false (List.lt_irrefl _), fun a b c h1 h2 => decide_eq_true (List.lt_trans (of_decide_eq_true h1) (of_decide_eq_true h2)), fun a b h => by
 by_cases q : ltF a b
 · exact .inl (decide_eq_true q)
 · exact .inr (decide_eq_true (zhk q h))⟩
def lexP {α β : Type} [DecidableEq α] (l : α → α → Bool) (m : β → β → Bool) (x y : α × β) : Bool := if x.1 = y.1 then m x.2 y.2 else l x.1 y.1
theorem STo.pair {α β : Type} [DecidableEq α] {l : α → α → Bool} {m : β → β → Bool} (h : STo l) (k : STo m) : STo (lexP l m) where
 ir := fun a => by simp [lexP, k.ir]
 tr := fun ⟨a, a'⟩ ⟨b, b'⟩ ⟨c, c'⟩ h1 h2 => by
  simp only [lexP] at *
  by_cases e1 : a = b
  · subst e1
    rw [if_pos rfl] at h1
    by_cases e2 : a = c
    · subst e2
      rw [if_pos rfl] at h2 ⊢
      exact k.tr _ _ _ h1 h2
    · rw [if_neg e2] at h2 ⊢
      exact h2
  · rw [if_neg e1] at h1
    by_cases e2 : b = c
    · subst e2
      rw [if_neg e1]
      exact h1
    · rw [if_neg e2] at h2
      have := h.tr _ _ _ h1 h2
      by_cases e3 : a = c
      · subst e3; rw [h.ir] at this; cases this
      · rw [if_neg e3]; exact this
 tot := fun ⟨a, a'⟩ ⟨b, b'⟩ hn => by
  simp only [lexP]
  by_cases e : a = b
  · subst e
    rw [if_pos rfl, if_pos rfl]
    exact k.tot _ _ fun z => hn (by rw [z])
  · rw [if_neg e, if_neg (Ne.symm e)]
    exact h.tot _ _ e
def lexL {α : Type} [DecidableEq α] (l : α → α → Bool) : List α → List α → Bool
 | [], [] => false
 | [], _ :: _ => true
 | _ :: _, [] => false
 | x :: xs, y :: ys => if x = y then lexL l xs ys else l x y
theorem STo.list {α : Type} [DecidableEq α] {l : α → α → Bool} (h : STo l) : STo (lexL l) where
 ir := fun a => by
  induction a with
  | nil => rfl
  | cons x xs ih => simp [lexL, ih]
 tr := fun a => by
  induction a with
  | nil =>
   intro b c h1 h2
   cases b with
   | nil => simp [lexL] at h1
   | cons y ys =>
    cases c with
    | nil => simp [lexL] at h2
    | cons z zs => rfl
  | cons x xs ih =>
   intro b c h1 h2
   cases b with
   | nil => simp [lexL] at h1
   | cons y ys =>
    cases c with
    | nil => simp [lexL] at h2
    | cons z zs =>
     simp only [lexL] at *
     by_cases e1 : x = y
     · subst e1
       rw [if_pos rfl] at h1
       by_cases e2 : x = z
       · subst e2
         rw [if_pos rfl] at h2 ⊢
         exact ih _ _ h1 h2
       · rw [if_neg e2] at h2 ⊢
         exact h2
     · rw [if_neg e1] at h1
       by_cases e2 : y = z
       · subst e2
         rw [if_neg e1]
         exact h1
       · rw [if_neg e2] at h2
         have := h.tr _ _ _ h1 h2
         by_cases e3 : x = z
         · subst e3; rw [h.ir] at this; cases this
         · rw [if_neg e3]; exact this
 tot := fun a => by
  induction a with
  | nil =>
   intro b hn
   cases b with
   | nil => exact absurd rfl hn
   | cons y ys => exact .inl rfl
  | cons x xs ih =>
   intro b hn
   cases b with
   | nil => exact .inr rfl
   | cons y ys =>
    simp only [lexL]
    by_cases e : x = y
    · subst e
      rw [if_pos rfl, if_pos rfl]
      exact ih _ fun z => hn (by rw [z])
    · rw [if_neg e, if_neg (Ne.symm e)]
      exact h.tot _ _ e
def lpO : Option Int → Int × Int
 | none => (0, 0)
 | some l => (1, l)
def hpO : Option Int → Int × Int
 | none => (1, 0)
 | some h => (0, h)
def d2 (p : Int × Int) : PD := .tup [.int p.1, .int p.2]
def rkP (p : WP) : PD := .tup [.str p.1, d2 (lpO p.2.1), d2 (hpO p.2.2)]
def rkD (w : List WP) : PD := .lst (w.map rkP)
abbrev RKy := Str × (Int × Int) × (Int × Int)
def ky (p : WP) : RKy := (p.1, lpO p.2.1, hpO p.2.2)
def lt2 : Int × Int → Int × Int → Bool := lexP ltI ltI
def ltKy : RKy → RKy → Bool := lexP ltS (lexP lt2 lt2)
theorem sto_ky : STo (lexL ltKy) := (sto_str.pair ((sto_int.pair sto_int).pair (sto_int.pair sto_int))).list
theorem ze6 (p q : Int × Int) : pyEq (d2 p) (d2 q) = decide (p = q) := by
 obtain ⟨a, b⟩ := p
 obtain ⟨c, d⟩ := q
 unfold d2
 rw [pyEq, zbd, zbd, zbd, pyEq, pyEq, Bool.eq_iff_iff]
 simp
theorem zjd (p q : Int × Int) : pyLt (d2 p) (d2 q) = lt2 p q := by
 obtain ⟨a, b⟩ := p
 obtain ⟨c, d⟩ := q
 unfold d2 lt2 lexP ltI
 rw [pyLt, zcf, pyEq, zcf, pyEq, zcf, pyLt, pyLt]
 by_cases h : a = c
 · subst h
   simp
   intro z; omega
 · simp [h]
theorem zjC (p q : Int × Int) : ltOk (d2 p) (d2 q) = true := by
 obtain ⟨a, b⟩ := p
 obtain ⟨c, d⟩ := q
 unfold d2
 rw [ltOk, zcT, zcT, zcT, ltOk, ltOk]
 all_goals simp
theorem zkn (p q : WP) : pyEq (rkP p) (rkP q) = decide (ky p = ky q) := by
 unfold rkP ky
 rw [pyEq, zbd, zbd, zbd, zbd, ze6, ze6, pyEq, Bool.eq_iff_iff]
 simp
theorem zkm (p q : WP) (hn : ky p ≠ ky q) : pyLt (rkP p) (rkP q) = ltKy (ky p) (ky q) := by
 have hn' := hn
 unfold rkP ltKy lexP
 unfold ky at *
 rw [pyLt, zcf, zcf, zcf, zcf, ze6, ze6, zjd, zjd, pyEq, pyLt]
 by_cases h : p.1 = q.1
 · simp only [h, beq_self_eq_true, if_true]
   by_cases h2 : lpO p.2.1 = lpO q.2.1
   · simp only [h2, decide_true, if_true]
     by_cases h3 : hpO p.2.2 = hpO q.2.2
     · exact absurd (by rw [h, h2, h3]) hn'
     · simp [h3]
   · simp [h2]
 · simp [h, ltS]
theorem zkA (p q : WP) : ltOk (rkP p) (rkP q) = true := by
 unfold rkP
 rw [ltOk, zcT, zcT, zcT, zcT, zjC, zjC, ltOk]
 all_goals simp
theorem zhY : ∀ w w' : List WP, zcT (w.map rkP) (w'.map rkP) = true
 | [], w' => by rw [List.map_nil, zcT]; all_goals simp
 | x :: r, [] => by rw [List.map_nil, zcT]; all_goals simp
 | x :: r, y :: r' => by
  rw [List.map_cons, List.map_cons, zcT, zkA, zhY r r']
  simp
theorem zly (w w' : List WP) : ltOk (rkD w) (rkD w') = true := by
 unfold rkD
 rw [ltOk, zhY]
theorem zhI : ∀ w w' : List WP, zcf (w.map rkP) (w'.map rkP) = lexL ltKy (w.map ky) (w'.map ky)
 | [], [] => by rw [List.map_nil, zcf]; rfl
 | [], y :: r => by rw [List.map_nil, List.map_cons, zcf]; rfl
 | x :: r, [] => by rw [List.map_nil, List.map_cons, zcf]; rfl
 | x :: r, y :: r' => by
  rw [List.map_cons, List.map_cons, zcf, zkn, zhI r r', List.map_cons, List.map_cons, lexL]
  by_cases h : ky x = ky y
  · rw [if_pos (decide_eq_true h), if_pos h]
  · rw [if_neg (by simpa using h), if_neg h, zkm x y h]
theorem zlo (w w' : List WP) : pyLt (rkD w) (rkD w') = lexL ltKy (w.map ky) (w'.map ky) := by
 unfold rkD
 rw [pyLt, zhI]
theorem zmd (k : Nat → List WP) : KS.Ord fun i j => pyLt (rkD (k i)) (rkD (k j)) := by
 have := sto_ky.ord fun i => (k i).map ky
 simpa only [zlo] using this
theorem zjZ (p : WP) : zaD (rkP p) = 2 := by
 unfold rkP d2
 simp [zaD, zaC]
theorem zge : ∀ w : List WP, zaC (w.map rkP) ≤ 2
 | [] => by show zaC [] ≤ 2; rw [zaC]; omega
 | p :: w => by
  rw [List.map_cons, zaC, zjZ]
  have := zge w
  omega
theorem zkQ (w : List WP) : zaD (rkD w) ≤ 3 := by
 unfold rkD
 rw [zaD]
 have := zge w
 omega
def ziY : Sp := fun vs H Q _ => ∃ o : Option Int, vs = [eV o] ∧ ∀ t H', Same H H' → H' t = some (.tup [.int (lpO o).1, .int (lpO o).2]) → Q (.ref t) H'
def zgC : Sp := fun vs H Q _ => ∃ o : Option Int, vs = [eV o] ∧ ∀ t H', Same H H' → H' t = some (.tup [.int (hpO o).1, .int (hpO o).2]) → Q (.ref t) H'
def ziX (K : PySem.W.Frag) : Sp := fun vs H Q _ => ∃ (a : Addr) (w : List WP), vs = [.ref a] ∧ WishAt H a w ∧ WOk w ∧ ∀ v H', Same H H' → Rep K H' (rkD w) v → Q v H'
structure WishesAt (H : Hp) (l : Addr) (ws : List (Addr × List WP)) : Prop where
 at' : H l = some (.lst (ws.map fun x => V.ref x.1))
 ok : ∀ x ∈ ws, WishAt H x.1 x.2 ∧ WOk x.2
 len : ws.length < 64
theorem WishesAt.same {H H' : Hp} {l : Addr} {ws : List (Addr × List WP)} (h : WishesAt H l ws) (s : Same H H') : WishesAt H' l ws := ⟨s _ _ h.at', fun x hx => ⟨(h.ok x hx).1.same s, (h.ok x hx).2⟩, h.len⟩
def zi1 : Sp := fun vs H Q _ => ∃ (l : Addr) (ws : List (Addr × List WP)), vs = [.ref l] ∧ WishesAt H l ws ∧ ∀ H', Same H H' → Q (.bl true) H'
def zgH : Sp := fun vs H Q _ => ∃ (l : Addr) (ws : List (Addr × List WP)), vs = [.ref l] ∧ WishesAt H l ws ∧ ∀ H', Same H H' → Q .non H'
def zdW : Sp := fun vs H Q _ => ∃ (l : Addr) (ws : List (Addr × List WP)), vs = [.ref l] ∧ WishesAt H l ws ∧ ∀ (r : Addr) (qs : List (Addr × List WP)) (H' : Hp), Same H H' → qs.Perm ws → (qs.Pairwise fun x y => pyLt (rkD y.2) (rkD x.2) = false) → H' r = some (.lst (qs.map fun x => V.ref x.1)) → Q (.ref r) H'
def DictW (H : Hp) (d : Addr) (w : List WP) : Prop := ∃ bs : List (Str × V), H d = some (.dK (kvS bs)) ∧ bs.map (·.1) = w.map (·.1) ∧ ∀ f : Str, match zaj w f with
 | none => getS bs f = none
 | some s => ∃ t, getS bs f = some (.ref t) ∧ H t = some (.tup [eV s.1, eV s.2])
theorem DictW.sp {H : Hp} {d : Addr} {w : List WP} (h : DictW H d w) : DictSp H d w := by
 obtain ⟨bs, h1, h2, h3⟩ := h
 refine ⟨kvS bs, h1, ?_, fun f => ?_⟩
 · have := congrArg List.length h2
   simp at this
   unfold kvS
   rw [List.length_map]
   omega
 · have := h3 f
   rw [zb2]
   exact this
def zdn : Sp := fun vs H Q _ => ∃ (a : Addr) (w : List WP), vs = [.ref a] ∧ WishAt H a w ∧ WOk w ∧ ∀ d H', Same H H' → H d = none → DictW H' d w → Q (.ref d) H'
def zet : Sp := fun vs H Q _ => ∃ (a b : Addr) (w1 w2 : List WP), vs = [.ref a, .ref b] ∧ WishAt H a w1 ∧ WishAt H b w2 ∧ WOk w1 ∧ WOk w2 ∧ w1.length + w2.length ≤ 60 ∧
 (zct w1 w2 = true → ∀ H', Same H H' → Q .non H') ∧ (zct w1 w2 = false → ∀ r m H', IsMet w1 w2 m → Same H H' → WishAt H' r m → Q (.ref r) H')
def zgF : Sp := fun vs H Q _ => ∃ (a : Addr) (w : List WP), vs = [.ref a, .int 3] ∧ WishAt H a w ∧ WOk w ∧ ∀ H', Same H H' → Q (.bl true) H'
structure NumD (w1 w2 : List WP) (bs : List (Str × V)) : Prop where
 nd : (bs.map (·.1)).Nodup
 ok : ∀ f ∈ bs.map (·.1), FieldOk f
 len : bs.length ≤ w1.length + w2.length
 at' : ∀ f, f ∈ bs.map (·.1) ↔ (f ∈ w1.map (·.1) ∨ f ∈ w2.map (·.1))
 val : ∀ x ∈ bs, x.2 = eV (zdg (zam w1 x.1) (zam w2 x.1))
def zeU : Sp := fun vs H Q _ => ∃ (a b : Addr) (w1 w2 : List WP), vs = [.ref a, .ref b] ∧ WishAt H a w1 ∧ WishAt H b w2 ∧ WOk w1 ∧ WOk w2 ∧ w1.length + w2.length ≤ 40 ∧
 ∀ d bs H', Same H H' → H d = none → H' d = some (.dK (kvS bs)) → NumD w1 w2 bs → Q (.ref d) H'
def zdT : Sp := fun vs H Q _ => ∃ (d l : Addr) (o : Obj) (bs : List PP) (ws : List (Addr × List WP)), vs = [.ref d, .ref l] ∧ H d = some (.frz o (.dK (kvP bs))) ∧ (bs.map (·.1)).Nodup ∧ (∀ x ∈ bs, FieldOk x.1) ∧ bs.length ≤ 20 ∧ WishesAt H l ws ∧ ws.length ≤ 4 ∧
 ∀ (r : Addr) (qs : List (Addr × List PP)) (H' : Hp), Same H H' → H' r = some (.lst (qs.map fun q => V.ref q.1)) → (∀ q ∈ qs, PieceAt H' q.1 q.2 ∧ POk q.2) → Q (.ref r) H'
def ToldMet (H : Hp) (v : V) (w1 w2 : List WP) (m : Option (List WP)) : Prop := match m with
 | none => v = .non ∧ zct w1 w2 = true
 | some m => zct w1 w2 = false ∧ IsMet w1 w2 m ∧ ∃ r, v = .ref r ∧ WishAt H r m
theorem ToldMet.same {H H' : Hp} {v : V} {w1 w2 : List WP} {m : Option (List WP)} (h : ToldMet H v w1 w2 m) (s : Same H H') : ToldMet H' v w1 w2 m := by
 cases m with
 | none => exact h
 | some m => obtain ⟨h1, h2, r, h3, h4⟩ := h; exact ⟨h1, h2, r, h3, h4.same s⟩
def zeP : Sp := fun vs H Q _ => ∃ (v : V) (a b : Addr) (w1 w2 : List WP) (m : Option (List WP)), vs = [v, .ref a, .ref b] ∧ ToldMet H v w1 w2 m ∧ WishAt H a w1 ∧ WishAt H b w2 ∧ WDrawn w1 ∧ WDrawn w2 ∧ ∀ H', Same H H' → Q (.bl true) H'
def zeW : Sp := fun vs H Q _ => ∃ (v : V) (a : Addr) (w1 w2 : List WP) (m : Option (List WP)), vs = [v, .ref a] ∧ ToldMet H v w1 w2 m ∧ WishAt H a w1 ∧ WDrawn w1 ∧ WDrawn w2 ∧ ∀ H', Same H H' → Q (.bl true) H'
def RkAt (H : Hp) (q : Addr × Addr × Addr × WP) : Prop := H q.1 = some (.tup [.str q.2.2.2.1, .ref q.2.1, .ref q.2.2.1]) ∧ H q.2.1 = some (.tup [.int (lpO q.2.2.2.2.1).1, .int (lpO q.2.2.2.2.1).2]) ∧ H q.2.2.1 = some (.tup [.int (hpO q.2.2.2.2.2).1, .int (hpO q.2.2.2.2.2).2])
theorem RkAt.keep {H H' : Hp} {q : Addr × Addr × Addr × WP} (h : RkAt H q) (s : Tups H H') : RkAt H' q := ⟨s _ _ h.1, s _ _ h.2.1, s _ _ h.2.2⟩
theorem zk0 {K : PySem.W.Frag} {H : Hp} {t : Addr} {p : Int × Int} (h : H t = some (.tup [.int p.1, .int p.2])) : Rep K H (d2 p) (.ref t) := by
 unfold d2
 rw [Rep]
 refine ⟨t, _, rfl, SqT.of h, ?_⟩
 rw [Reps]
 refine ⟨_, _, rfl, by rw [Rep], ?_⟩
 rw [Reps]
 exact ⟨_, _, rfl, by rw [Rep], by rw [Reps]⟩
theorem zi9 {K : PySem.W.Frag} {H : Hp} : ∀ qs : List (Addr × Addr × Addr × WP), (∀ q ∈ qs, RkAt H q) → Reps K H ((qs.map (·.2.2.2)).map rkP) (qs.map fun q => V.ref q.1)
 | [], _ => by show Reps K H [] []; rw [Reps]
 | q :: qs, h => by
  show Reps K H (rkP q.2.2.2 :: _) (V.ref q.1 :: _)
  rw [Reps]
  refine ⟨_, _, rfl, ?_, zi9 qs fun r hr => h r (List.mem_cons_of_mem _ hr)⟩
  obtain ⟨h1, h2, h3⟩ := h q List.mem_cons_self
  unfold rkP
  rw [Rep]
  refine ⟨q.1, _, rfl, SqT.of h1, ?_⟩
  rw [Reps]
  refine ⟨_, _, rfl, by rw [Rep], ?_⟩
  rw [Reps]
  refine ⟨_, _, rfl, zk0 h2, ?_⟩
  rw [Reps]
  exact ⟨_, _, rfl, zk0 h3, by rw [Reps]⟩
theorem zl1 {K : PySem.W.Frag} {H : Hp} {r : Addr} {qs : List (Addr × Addr × Addr × WP)} (e : H r = some (.lst (qs.map fun q => V.ref q.1))) (h : ∀ q ∈ qs, RkAt H q) : Rep K H (rkD (qs.map (·.2.2.2))) (.ref r) := by
 unfold rkD
 rw [Rep]
 exact ⟨r, _, rfl, SqL.of e, zi9 qs h⟩
theorem zgu {l : List Str} (h : l.Pairwise ltF) : l.Nodup := h.imp fun h e => zeD h e
theorem zfE (g : Str → SPN) (f : Str) : ∀ ms : List Str, zaj (ms.map fun f => (f, g f)) f = if f ∈ ms then some (g f) else none
 | [] => rfl
 | x :: ms => by
  have ih := zfE g f ms
  unfold zaj at *
  by_cases h : x = f
  · subst h; simp
  · rw [List.map_cons, List.find?_cons_of_neg (by simpa using h), ih]
    by_cases h2 : f ∈ ms
    · rw [if_pos h2, if_pos (List.mem_cons_of_mem _ h2)]
    · rw [if_neg h2, if_neg (fun z => (List.mem_cons.mp z).elim (fun e => h e.symm) h2)]
def ziC (w1 w2 : List WP) (f : Str) : SPN := (metO (zaj w1 f) (zaj w2 f)).getD (none, none)
def zfj (w1 w2 : List WP) (ms : List Str) : List WP := ms.map fun f => (f, ziC w1 w2 f)
theorem zkI {w1 w2 : List WP} {ms : List Str} (asc : ms.Pairwise ltF) (hk : ∀ f, f ∈ ms ↔ (metO (zaj w1 f) (zaj w2 f)).isSome = true) (hl : ms.length ≤ w1.length + w2.length) : IsMet w1 w2 (zfj w1 w2 ms) := by
 refine ⟨by unfold zfj; rw [List.length_map]; exact hl, ?_, fun f => ?_⟩
 · unfold zfj
   rw [List.map_map]
   have : ((fun x : WP => x.1) ∘ fun f => (f, ziC w1 w2 f)) = id := rfl
   rw [this, List.map_id]
   exact asc
 · unfold zfj
   rw [zfE]
   cases e : metO (zaj w1 f) (zaj w2 f) with
   | none => rw [if_neg (fun z => by have := (hk f).mp z; rw [e] at this; cases this)]
   | some s =>
    rw [if_pos ((hk f).mpr (by rw [e]; rfl))]
    unfold ziC
    rw [e]
    rfl
theorem zkC {K : PySem.W.Frag} {H : Hp} {z p : Addr} {Q : VK} {js : Cap} {σ cap : St} {te : TE} (base : List WP) (hb : base.length ≤ 100) (e : SqL K H z ((base.map (·.1)).map V.str)) (hp : H p = none) (hσ : inn js σ = none :: cap)
 (he : ∀ x ∈ base, ∀ H' (R : VK), Same H H' → (∀ t, H' t = none → R (.ref t) (upd H' t (.tup [.str x.1, eV x.2.1, eV x.2.2]))) → te (some (.str x.1) :: cap) H' R)
 (hq : ∀ H' (qs : List (Addr × WP)), Same H H' → qs.map (·.2) = base → H' p = some (.lst (qs.map fun q => V.ref q.1)) → (∀ q ∈ qs, H' q.1 = some (.tup [.str q.2.1, eV q.2.2.1, eV q.2.2.2])) → Q (.ref p) H') : zbE (Itl K z) p js (zdG 0) tYes te σ H Q := by
 have s0 := zae hp (.lst [])
 refine zc2 (xs := (base.map (·.1)).map V.str) (fun i σ' ys H' => (∃ v, σ' = v :: cap) ∧ Same H H' ∧ H' p = some (.lst ys) ∧ ∃ qs : List (Addr × WP), ys = qs.map (fun q => V.ref q.1) ∧ qs.map (·.2) = base.take i ∧ ∀ q ∈ qs, H' q.1 = some (.tup [.str q.2.1, eV q.2.2.1, eV q.2.2.2])) ⟨⟨_, hσ⟩, s0, zab, [], rfl, rfl, fun q hq => by simp at hq⟩ ?_ ?_ ?_
 · rintro i σ' ys H' hi ⟨_, s, h1, qs, rfl, h3, _⟩
   refine ⟨s.seq e, h1, ?_⟩
   have := congrArg List.length h3
   rw [List.length_map, List.length_take] at this
   rw [List.length_map]
   exact zao (by omega)
 · rintro i x σ' ys H' N hx ⟨⟨v, rfl⟩, s, h1, qs, rfl, h3, h4⟩ hN
   rw [List.getElem?_map, List.getElem?_map] at hx
   cases e1 : base[i]? with
   | none => rw [e1] at hx; cases hx
   | some m =>
    rw [e1] at hx
    obtain rfl : V.str m.1 = x := Option.some.inj hx
    refine he m (List.mem_of_getElem? e1) H' _ s fun t ht => ?_
    have st := zae ht (.tup [.str m.1, eV m.2.1, eV m.2.2])
    have h5 := st _ _ h1
    have tl := zaY (o := .lst (qs.map (fun q => V.ref q.1) ++ [V.ref t])) h5
    refine ⟨h5, hN _ _ _ ⟨⟨_, rfl⟩, za1 (s.trans st) hp, zab, qs ++ [(t, m)], ?_, ?_, ?_⟩⟩
    · rw [List.map_append]; rfl
    · rw [List.map_append, h3, zaq e1]; rfl
    · intro q hq
      rcases List.mem_append.mp hq with z | z
      · exact tl _ _ (st _ _ (h4 q z))
      · rw [List.mem_singleton.mp z]
        exact tl _ _ zab
 · rintro σ' ys H' ⟨_, s, h1, qs, rfl, h3, h4⟩
   refine hq H' qs s ?_ h1 h4
   rw [h3, List.take_of_length_le (by simp)]
theorem zkp {bs : List (Str × V)} {f : Str} {v : V} {g : Str} : g ∈ (putS bs f v).map (·.1) ↔ g ∈ bs.map (·.1) ∨ g = f := by
 rw [zd4]
 split
 · rename_i h
   constructor
   · exact fun z => .inl z
   · rintro (z | rfl)
     · exact z
     · exact h
 · rw [List.mem_append, List.mem_singleton]
theorem zko {bs : List (Str × V)} {g : Str → V} (h : ∀ x ∈ bs, x.2 = g x.1) (f : Str) : ∀ x ∈ putS bs f (g f), x.2 = g x.1 := by
 unfold putS
 split
 · intro x hx
   obtain ⟨y, hy, rfl⟩ := List.mem_map.mp hx
   by_cases e : y.1 = f
   · rw [if_pos e]
     simp [e]
   · rw [if_neg e]
     exact h y hy
 · intro x hx
   rcases List.mem_append.mp hx with z | z
   · exact h x z
   · rw [List.mem_singleton.mp z]
theorem zf6 {K : PySem.W.Frag} {H : Hp} {a p : Addr} {Q : VK} {js : Cap} {σ : St} {te : TE} (ps : List (Addr × WP)) (hA : H a = some (.tup (ps.map fun p => V.ref p.1))) (hb : ps.length ≤ 100) (hp : H p = none) (hσ : inn js σ = [none])
 (he : ∀ x ∈ ps, ∀ H' (R : VK), Same H H' → R (.str x.2.1) H' → te [some (.ref x.1)] H' R)
 (hq : ∀ H', Same H H' → H' p = some (.lst (((ps.map (·.2)).map (·.1)).map V.str)) → Q (.ref p) H') : zbE (Itt K a) p js (zdG 0) tYes te σ H Q := by
 have s0 := zae hp (.lst [])
 refine zf5 (xs := ps.map fun p => V.ref p.1) (fun i σ' ys H' => (∃ v, σ' = [v]) ∧ Same H H' ∧ H' p = some (.lst ys) ∧ ys = (((ps.map (·.2)).take i).map (·.1)).map V.str) ⟨⟨_, hσ⟩, s0, zab, rfl⟩ ?_ ?_ ?_
 · rintro i σ' ys H' hi ⟨_, s, h1, rfl⟩
   refine ⟨s.seqT (SqT.of hA), h1, ?_⟩
   rw [List.length_map, List.length_map, List.length_take, List.length_map]
   exact zao (by omega)
 · rintro i x σ' ys H' N hx ⟨⟨v, rfl⟩, s, h1, rfl⟩ hN
   rw [List.getElem?_map] at hx
   cases e1 : ps[i]? with
   | none => rw [e1] at hx; cases hx
   | some P1 =>
    rw [e1] at hx
    obtain rfl : V.ref P1.1 = x := Option.some.inj hx
    have ew : (ps.map (·.2))[i]? = some P1.2 := by rw [List.getElem?_map, e1]; rfl
    refine he P1 (List.mem_of_getElem? e1) H' _ s ⟨h1, hN _ _ _ ⟨⟨_, rfl⟩, za1 s hp, zab, ?_⟩⟩
    rw [zaq ew, List.map_append, List.map_append]
    rfl
 · rintro σ' ys H' ⟨_, s, h1, rfl⟩
   refine hq H' s ?_
   rw [h1, List.take_of_length_le (by simp)]
theorem zjG {K : PySem.W.Frag} {H : Hp} {z p : Addr} {Q : VK} {js : Cap} {σ cap : St} {tc : TT} {te : TE} (base : List PP) (c : PP → Bool) (hb : base.length ≤ 100) (e : SqL K H z ((base.map (·.1)).map V.str)) (hp : H p = none) (hσ : inn js σ = none :: cap)
 (ht : ∀ x ∈ base, ∀ H' (R : Bool → Hp → Prop), Same H H' → R (c x) H' → tc (some (.str x.1) :: cap) H' R)
 (he : ∀ x ∈ base, ∀ H' (R : VK), Same H H' → (∀ t, H' t = none → R (.ref t) (upd H' t (.tup [.str x.1, .int x.2]))) → te (some (.str x.1) :: cap) H' R)
 (hq : ∀ H' (qs : List (Addr × PP)), Same H H' → qs.map (·.2) = base.filter c → H' p = some (.lst (qs.map fun q => V.ref q.1)) → (∀ q ∈ qs, H' q.1 = some (.tup [.str q.2.1, .int q.2.2])) → Q (.ref p) H') : zbE (Itl K z) p js (zdG 0) tc te σ H Q := by
 have s0 := zae hp (.lst [])
 refine zc2 (xs := (base.map (·.1)).map V.str) (fun i σ' ys H' => (∃ v, σ' = v :: cap) ∧ Same H H' ∧ H' p = some (.lst ys) ∧ ∃ qs : List (Addr × PP), ys = qs.map (fun q => V.ref q.1) ∧ qs.map (·.2) = (base.take i).filter c ∧ ∀ q ∈ qs, H' q.1 = some (.tup [.str q.2.1, .int q.2.2])) ⟨⟨_, hσ⟩, s0, zab, [], rfl, rfl, fun q hq => by simp at hq⟩ ?_ ?_ ?_
 · rintro i σ' ys H' hi ⟨_, s, h1, qs, rfl, h3, _⟩
   refine ⟨s.seq e, h1, ?_⟩
   have := congrArg List.length h3
   have h5 := List.length_filter_le c (base.take i)
   rw [List.length_map] at this
   rw [List.length_take] at h5
   rw [List.length_map]
   exact zao (by omega)
 · rintro i x σ' ys H' N hx ⟨⟨v, rfl⟩, s, h1, qs, rfl, h3, h4⟩ hN
   rw [List.getElem?_map, List.getElem?_map] at hx
   cases e1 : base[i]? with
   | none => rw [e1] at hx; cases hx
   | some m =>
    rw [e1] at hx
    obtain rfl : V.str m.1 = x := Option.some.inj hx
    have hm := List.mem_of_getElem? e1
    refine ht m hm H' _ s ?_
    cases hc : c m with
    | false =>
     refine iteF (hN _ _ _ ⟨⟨_, rfl⟩, s, h1, qs, rfl, ?_, h4⟩)
     rw [zaq e1, List.filter_append, h3]
     simp [hc]
    | true =>
     refine iteT (he m hm H' _ s fun t ht => ?_)
     have st := zae ht (.tup [.str m.1, .int m.2])
     have h5 := st _ _ h1
     have tl := zaY (o := .lst (qs.map (fun q => V.ref q.1) ++ [V.ref t])) h5
     refine ⟨h5, hN _ _ _ ⟨⟨_, rfl⟩, za1 (s.trans st) hp, zab, qs ++ [(t, m)], ?_, ?_, ?_⟩⟩
     · rw [List.map_append]; rfl
     · rw [List.map_append, h3, zaq e1, List.filter_append]
       simp [hc]
     · intro q hq
       rcases List.mem_append.mp hq with z | z
       · exact tl _ _ (st _ _ (h4 q z))
       · rw [List.mem_singleton.mp z]
         exact tl _ _ zab
 · rintro σ' ys H' ⟨_, s, h1, qs, rfl, h3, h4⟩
   refine hq H' qs s ?_ h1 h4
   rw [h3, List.take_of_length_le (by simp)]
theorem zkD {K : PySem.W.Frag} {H : Hp} {z p : Addr} {Q : VK} {js : Cap} {σ cap : St} {te : TE} (ws : List (Addr × List WP)) (f : Str) (hb : ws.length ≤ 8) (e : SqL K H z (ws.map fun x => V.ref x.1)) (hp : H p = none) (hσ : inn js σ = none :: cap)
 (he : ∀ x ∈ ws, ∀ H' (R : VK), Same H H' → (∀ v H'', Same H' H'' → SpanAt H'' v (zam x.2 f).1 (zam x.2 f).2 → R v H'') → te (some (.ref x.1) :: cap) H' R)
 (hq : ∀ H' (ss : List (Addr × SPN)), Same H H' → ss.length = ws.length → H' p = some (.lst (ss.map fun s => V.ref s.1)) → (∀ s ∈ ss, H' s.1 = some (.tup [eV s.2.1, eV s.2.2])) → Q (.ref p) H') : zbE (Itl K z) p js (zdG 0) tYes te σ H Q := by
 have s0 := zae hp (.lst [])
 refine zc2 (xs := ws.map fun x => V.ref x.1) (fun i σ' ys H' => (∃ v, σ' = v :: cap) ∧ Same H H' ∧ H' p = some (.lst ys) ∧ ∃ ss : List (Addr × SPN), ys = ss.map (fun s => V.ref s.1) ∧ ss.length = min i ws.length ∧ ∀ s ∈ ss, H' s.1 = some (.tup [eV s.2.1, eV s.2.2])) ⟨⟨_, hσ⟩, s0, zab, [], rfl, by simp, fun q hq => by simp at hq⟩ ?_ ?_ ?_
 · rintro i σ' ys H' hi ⟨_, s, h1, ss, rfl, h3, _⟩
   refine ⟨s.seq e, h1, ?_⟩
   rw [List.length_map, h3]
   exact zao (by omega)
 · rintro i x σ' ys H' N hx ⟨⟨v, rfl⟩, s, h1, ss, rfl, h3, h4⟩ hN
   rw [List.getElem?_map] at hx
   cases e1 : ws[i]? with
   | none => rw [e1] at hx; cases hx
   | some m =>
    rw [e1] at hx
    obtain rfl : V.ref m.1 = x := Option.some.inj hx
    have hm := List.mem_of_getElem? e1
    have li := (List.getElem?_eq_some_iff.mp e1).1
    refine he m hm H' _ s fun v' H2 s2 sp => ?_
    obtain ⟨t, rfl, et⟩ := sp
    have h5 := s2 _ _ h1
    have tl := zaY (o := .lst (ss.map (fun q => V.ref q.1) ++ [V.ref t])) h5
    refine ⟨h5, hN _ _ _ ⟨⟨_, rfl⟩, za1 (s.trans s2) hp, zab, ss ++ [(t, zam m.2 f)], ?_, ?_, ?_⟩⟩
    · rw [List.map_append]; rfl
    · rw [List.length_append, h3]; simp; omega
    · intro q hq
      rcases List.mem_append.mp hq with z | z
      · exact tl _ _ (s2 _ _ (h4 q z))
      · rw [List.mem_singleton.mp z]
        exact tl _ _ et
 · rintro σ' ys H' ⟨_, s, h1, ss, rfl, h3, h4⟩
   rw [List.length_map, Nat.min_self] at h3
   exact hq H' ss s h3 h1 h4
theorem zh5 {H : Hp} {d : Addr} {o : Obj} {bs : List PP} {f : Str} {n : Int} (e : H d = some (.frz o (.dK (kvP bs)))) (h : zbC bs f = some n) : DGet H d (.str f) (some (.int n)) :=
 .inl ⟨kvP bs, Sum.inr f, .inr ⟨o, e⟩, rfl, by rw [zhE, h]; rfl⟩
theorem zjv {bs : List PP} {f : Str} (h : f ∈ bs.map (·.1)) : ∃ n, zbC bs f = some n := by
 unfold zbC
 cases e : bs.find? (fun x => decide (x.1 = f)) with
 | none =>
  obtain ⟨x, hx, hf⟩ := List.mem_map.mp h
  exact absurd (decide_eq_true hf) (List.find?_eq_none.mp e x hx)
 | some x => exact ⟨x.2, rfl⟩
theorem zjV {bs : List (Str × V)} (h : (bs.map (·.1)).Nodup) {x : Str × V} (hx : x ∈ bs) : getS bs x.1 = some x.2 := by
 induction bs with
 | nil => simp at hx
 | cons y r ih =>
  rw [List.map_cons, List.nodup_cons] at h
  unfold getS at *
  rcases List.mem_cons.mp hx with e | hx'
  · rw [e]
    simp
  · have ne : y.1 ≠ x.1 := fun e => h.1 (by rw [e]; exact List.mem_map_of_mem hx')
    rw [List.find?_cons_of_neg (by simpa using ne)]
    exact ih h.2 hx'
theorem zhG {w : List WP} {f : Str} (h : f ∈ w.map (·.1)) : ∃ s, zaj w f = some s := by
 cases e : zaj w f with
 | some s => exact ⟨s, rfl⟩
 | none =>
  obtain ⟨x, hx, hf⟩ := List.mem_map.mp h
  exact absurd hf (zfD e x hx)
theorem zf4 {lo hi : Option Int} (h : leO lo hi = true) : apart lo hi = false := by
 rw [zde] at h
 cases e : apart lo hi with
 | false => rfl
 | true => rw [e] at h; cases h
theorem zju {w1 w2 : List WP} {bs : List (Str × V)} (ok1 : WOk w1) (ok2 : WOk w2) (N : NumD w1 w2 bs) : (bs.any fun x => (zdg (zam w1 x.1) (zam w2 x.1)).isNone) = zct w1 w2 := by
 rw [Bool.eq_iff_iff, List.any_eq_true]
 constructor
 · rintro ⟨x, hx, hn⟩
   rw [Option.isNone_iff_eq_none, zeJ] at hn
   have hk := (N.at' x.1).mp (List.mem_map_of_mem hx)
   cases e1 : zaj w1 x.1 with
   | none =>
    cases e2 : zaj w2 x.1 with
    | none =>
     rcases hk with z | z
     · obtain ⟨s, hs⟩ := zhG z; rw [e1] at hs; cases hs
     · obtain ⟨s, hs⟩ := zhG z; rw [e2] at hs; cases hs
    | some t =>
     obtain ⟨y, hy, y1, y2⟩ := zaI e2
     have h1 : zam w1 x.1 = (none, none) := by unfold zam; rw [e1]; rfl
     have h2 : zam w2 x.1 = t := by unfold zam; rw [e2]; rfl
     rw [h1, h2] at hn
     have := zf4 (ok2.ok y hy).2
     rw [y2] at this
     exact absurd (hn.symm.trans this) (by simp)
   | some s =>
    have h1 : zam w1 x.1 = s := by unfold zam; rw [e1]; rfl
    cases e2 : zaj w2 x.1 with
    | none =>
     obtain ⟨y, hy, y1, y2⟩ := zaI e1
     have h2 : zam w2 x.1 = (none, none) := by unfold zam; rw [e2]; rfl
     rw [h1, h2, zhW, zfl] at hn
     have := zf4 (ok1.ok y hy).2
     rw [y2] at this
     exact absurd (hn.symm.trans this) (by simp)
    | some t =>
     have h2 : zam w2 x.1 = t := by unfold zam; rw [e2]; rfl
     obtain ⟨y, hy, y1, y2⟩ := zaI e2
     refine List.any_eq_true.mpr ⟨y, hy, ?_⟩
     unfold zdi
     rw [y1, e1]
     rw [h1, h2, ← y2] at hn
     exact hn
 · intro h
   obtain ⟨y, hy, ha⟩ := List.any_eq_true.mp h
   have hf : y.1 ∈ bs.map (·.1) := (N.at' y.1).mpr (.inr (List.mem_map_of_mem hy))
   obtain ⟨x, hx, ex⟩ := List.mem_map.mp hf
   refine ⟨x, hx, ?_⟩
   rw [Option.isNone_iff_eq_none, zeJ, ex]
   unfold zdi at ha
   cases e1 : zaj w1 y.1 with
   | none => rw [e1] at ha; cases ha
   | some s =>
    rw [e1] at ha
    have h1 : zam w1 y.1 = s := by unfold zam; rw [e1]; rfl
    have h2 : zam w2 y.1 = y.2 := by unfold zam; rw [zcY ok2.asc hy]; rfl
    rw [h1, h2]
    exact ha
theorem zh2 (g : Str → Option Int) : ∀ bs : List (Str × V), (∀ x ∈ bs, x.2 = eV (g x.1)) → (inV .non (bs.map (·.2)) = bs.any fun x => (g x.1).isNone) ∧ (bs.map (·.2)).all zfp = true
 | [], _ => ⟨rfl, rfl⟩
 | x :: bs, h => by
  obtain ⟨i1, i2⟩ := zh2 g bs fun y hy => h y (List.mem_cons_of_mem _ hy)
  have hx := h x List.mem_cons_self
  constructor
  · unfold inV at *
    rw [List.map_cons, List.any_cons, List.any_cons, i1, hx]
    cases g x.1 <;> rfl
  · rw [List.map_cons, List.all_cons, i2, hx]
    cases g x.1 <;> rfl
theorem zlB {w1 w2 : List WP} {bs : List (Str × V)} (N : NumD w1 w2 bs) (h : (bs.any fun x => (zdg (zam w1 x.1) (zam w2 x.1)).isNone) = false) : ∃ bp : List PP, kvS bs = kvP bp ∧ bp.map (·.1) = bs.map (·.1) := by
 refine ⟨bs.map fun x => (x.1, (zdg (zam w1 x.1) (zam w2 x.1)).getD 0), ?_, ?_⟩
 · unfold kvS kvP
   rw [List.map_map]
   refine List.map_congr_left fun x hx => ?_
   have hv := N.val x hx
   cases e : zdg (zam w1 x.1) (zam w2 x.1) with
   | none =>
    have : (bs.any fun x => (zdg (zam w1 x.1) (zam w2 x.1)).isNone) = true := List.any_eq_true.mpr ⟨x, hx, by rw [e]; rfl⟩
    rw [h] at this
    cases this
   | some n =>
    rw [e] at hv
    show ((Sum.inr x.1 : Key), x.2) = ((Sum.inr x.1 : Key), V.int ((zdg (zam w1 x.1) (zam w2 x.1)).getD 0))
    rw [hv, e]
    rfl
 · rw [List.map_map]
   rfl
end L2
set_option maxHeartbeats 4000000
namespace K07
open PySem PySem.Spec PyProof.Rows L2
def top (i : Nat) : Stmt := PySem.Challenge.pw_newsways_k07_whole_wishes_met.main.body.getD i (.Pass ⟨0, 0, 0, 0⟩)
abbrev zcQ : Stmt := top 4
abbrev zdK : Stmt := top 5
abbrev zc7 : Stmt := top 6
abbrev zbt : Stmt := top 7
abbrev zaZ : Stmt := top 8
abbrev zck : Stmt := top 9
abbrev zbv : Stmt := top 10
abbrev zce : Stmt := top 13
abbrev zbw : Stmt := top 14
abbrev zaW : Stmt := top 15
abbrev zcy : Stmt := top 16
abbrev zb6 : Stmt := top 17
abbrev zbB : Stmt := top 18
abbrev zbx : Stmt := top 19
abbrev zbN : Stmt := top 29
abbrev zbu : Stmt := top 30
abbrev zfI : Stmt := top 28
abbrev zcR : Stmt := top 23
abbrev zaP : Stmt := top 24
abbrev zbh : Stmt := top 26
abbrev zbs : Stmt := top 25
abbrev zdL : Stmt := top 20
abbrev zbg : Stmt := top 27
abbrev zcL : Stmt := top 21
abbrev zbi : Stmt := top 22
abbrev zcd : Stmt := top 32
abbrev zcP : Stmt := top 33
abbrev zb4 : Stmt := top 34
abbrev zcO : Stmt := top 35
abbrev zcN : Stmt := top 36
abbrev zcl : Stmt := top 37
abbrev zdJ : Stmt := top 38
abbrev zbp : Stmt := top 39
abbrev zbA : Stmt := top 40
abbrev zcn : Stmt := top 41
abbrev zcM : Stmt := top 42
abbrev zb5 : Stmt := top 43
abbrev zc6 : Stmt := top 44
abbrev zbj : Stmt := top 45
abbrev zb3 : Stmt := top 46
abbrev zcm : Stmt := top 47
abbrev za3 : Stmt := top 48
abbrev zbO : Stmt := top 49
abbrev zbP : Stmt := top 50
abbrev zaV : Stmt := top 51
abbrev zaU : Stmt := top 52
abbrev zbW : Stmt := top 53
abbrev za0 : Stmt := top 54
abbrev zgR : Stmt := top 55
section
variable {P : Program} {w : World} {K : PySem.W.Frag} {mg : Str → Option Value} {base : Heap}
theorem scM {N P : List Str} {sc : Scope} (h1 : sc.kind = .function := by rfl) (h2 : sc.isCoroutine = false := by rfl) (h3 : sc.isGenerator = false := by rfl) (h4 : N.Nodup := by decide +kernel) (h5 : N.take P.length = P := by rfl) (h6 : ∀ x ∈ P, sc.names.lookup x = some .local ∨ sc.names.lookup x = some .cell := by decide +kernel) (h7 : ∀ y ∈ sc.names, y.2 ≠ .free := by decide +kernel) : FnScope N P sc := ⟨h1, h2, h3, h4, h5, h6, h7⟩
theorem zgO : FnScope ["thing"] ["thing"] (zah zcQ) := scM
theorem zi7 : FnScope ["thing"] ["thing"] (zah zdK) := scM
theorem sc_is_span : FnScope ["thing", "low", "high"] ["thing"] (zah zc7) := scM
theorem sc_span_reaches : FnScope ["one", "other", "low", "high", "other_low", "other_high", "reaches_down", "reaches_up"] ["one", "other"] (zah zbt) := scM
theorem sc_span_shared : FnScope ["one", "other", "low", "high"] ["one", "other"] (zah zaZ) := scM
theorem sc_number_of : FnScope ["span", "low", "high"] ["span"] (zah zck) := scM
theorem sc_number_apart : FnScope ["one", "other", "low", "high", "below", "above"] ["one", "other"] (zah zbv) := scM
theorem zgP : FnScope ["thing"] ["thing"] (zah zce) := scM
theorem sc_is_wish_part : FnScope ["thing", "field", "low", "high"] ["thing"] (zah zbw) := scM
theorem zdC : FnScope ["parts"] ["parts"] (zah zaW) := scM
theorem zik : FnScope ["thing"] ["thing"] (zah zcy) := scM
theorem ze0 : FnScope ["thing"] ["thing"] (zah zb6) := scM
theorem ze1 : FnScope ["thing"] ["thing"] (zah zbB) := scM
theorem zd3 : FnScope ["thing"] ["thing"] (zah zbx) := scM
theorem zem : FnScope ["low"] ["low"] (zah zbN) := scM
theorem zd1 : FnScope ["high"] ["high"] (zah zbu) := scM
theorem zll : FnScope ["wish"] ["wish"] (zah zfI) := scM
theorem zgQ : FnScope ["wishes"] ["wishes"] (zah zcR) := scM
theorem zdp : FnScope ["wish"] ["wish"] (zah zaP) := scM
theorem sc_reaches_spans : FnScope ["one", "other_spans", "field", "low", "high"] ["one", "other_spans"] (zah zbh) := scM
theorem zd0 : FnScope ["one", "other"] ["one", "other"] (zah zbs) := scM
theorem zi8 : FnScope ["one", "other"] ["one", "other"] (zah zdL) := scM
theorem sc_wish_shared : FnScope ["one", "other", "met", "field", "low", "high", "shared"] ["one", "other"] (zah zbg) := scM
theorem zgM : FnScope ["one", "other"] ["one", "other"] (zah zcL) := scM
theorem sc_parting_piece : FnScope ["one", "other", "other_spans", "piece", "field", "low", "high", "number"] ["one", "other"] (zah zbi) := scM
theorem sc_law_bag : FnScope ["script", "great", "lesser", "stir", "cell"] ["script"] (zah zcd) := scM
theorem sc_law_draw : FnScope ["bag", "many", "found", "cell"] ["bag", "many"] (zah zcP) := scM
theorem sc_law_number : FnScope ["bag", "choice", "number"] ["bag"] (zah zb4) := scM
theorem zgN : FnScope ["number"] ["number"] (zah zcO) := scM
theorem sc_law_span : FnScope ["bag", "choice", "low", "high"] ["bag"] (zah zcN) := scM
theorem zfG : FnScope ["found"] ["found"] (zah zcl) := scM
theorem zi6 : FnScope ["span", "number"] ["span", "number"] (zah zdJ) := scM
theorem sc_law_field : FnScope ["bag", "choice", "some"] ["bag"] (zah zbp) := scM
theorem zeZ : FnScope ["bag", "most"] ["bag", "most"] (zah zbA) := scM
theorem sc_law_moved : FnScope ["bag", "span", "ends", "end", "step", "low", "high"] ["bag", "span"] (zah zcn) := scM
theorem sc_law_wish : FnScope ["bag", "fields", "parts", "field", "there", "span"] ["bag", "fields"] (zah zcM) := scM
theorem sc_law_beside : FnScope ["bag", "wish", "fields", "spans", "field", "low", "high", "parts", "choice", "span"] ["bag", "wish", "fields"] (zah zb5) := scM
theorem sc_law_two : FnScope ["bag", "apart", "fields", "one"] ["bag"] (zah zc6) := scM
theorem sc_law_span_of : FnScope ["wish", "field", "found"] ["wish", "field"] (zah zbj) := scM
theorem sc_law_points : FnScope ["spans", "points", "span", "end"] ["spans"] (zah zb3) := scM
theorem sc_law_wants : FnScope ["wish", "piece", "numbers", "field", "low", "high"] ["wish", "piece"] (zah zcm) := scM
theorem zd2 : FnScope ["thing"] ["thing"] (zah za3) := scM
theorem sc_law_is_span : FnScope ["low", "high", "end"] ["low", "high"] (zah zbO) := scM
theorem sc_law_is_made : FnScope ["thing", "size", "k", "part"] ["thing", "size"] (zah zbP) := scM
theorem sc_law_common : FnScope ["one", "other", "numbers", "field", "spans", "some"] ["one", "other"] (zah zaV) := scM
theorem sc_law_pieces : FnScope ["numbers", "wishes", "pieces", "field", "rest", "number"] ["numbers", "wishes"] (zah zaU) := scM
theorem sc_law_right : FnScope ["found", "one", "other", "numbers", "piece"] ["found", "one", "other"] (zah zbW) := scM
theorem sc_law_again_right : FnScope ["met", "one", "found"] ["met", "one"] (zah za0) := scM
theorem sc_law : FnScope ["script", "bag", "last", "turn", "one", "other", "first", "second", "met"] ["script"] (zah zgR) := scM
section
variable (P : Program) (w : World) (K : PySem.W.Frag) (mg : Str → Option Value) (base : Heap)
abbrev Γ0 := FnH P w K mg base 1 "is_whole" ["thing"] (zdm K)
abbrev Γ1 := FnH P w K mg base 2 "is_end" ["thing"] (zlh K)
abbrev Γ4 := FnH P w K mg base 1 "span_shared" ["one", "other"] (zeO)
abbrev Γ5 := FnH P w K mg base 1 "number_of" ["span"] (zgD)
abbrev Γ7 := FnH P w K mg base 1 "is_field" ["thing"] (zgG)
abbrev Γ2 := FnH P w K mg base 3 "is_span" ["thing"] (zeT K)
abbrev Γ9 := FnH P w K mg base 1 "fields_ascend" ["parts"] (zeV)
abbrev Γ8 := FnH P w K mg base 4 "is_wish_part" ["thing"] (zdl)
abbrev Γ10 := FnH P w K mg base 5 "is_wish" ["thing"] (zeS)
abbrev Γ12 := FnH P w K mg base 6 "are_wishes" ["thing"] (zi1)
abbrev Γ14 := FnH P w K mg base 1 "rank_of_low" ["low"] (ziY)
abbrev Γ15 := FnH P w K mg base 1 "rank_of_high" ["high"] (zgC)
abbrev Γ13 := FnH P w K mg base 7 "check_wishes" ["thing"] (zgH)
abbrev Γ16 := FnH P w K mg base 2 "rank" ["wish"] (ziX K)
abbrev Γ3 := FnH P w K mg base 1 "span_reaches" ["one", "other"] (zgB)
abbrev Γ19 := FnH P w K mg base 2 "reaches_spans" ["one", "other_spans"] (zdS)
abbrev Γ18 := FnH P w K mg base 1 "spans_by_field" ["wish"] (zdn)
abbrev Γ11 := FnH P w K mg base 6 "check_wish" ["thing"] (zdY)
abbrev Γ20 := FnH P w K mg base 3 "wish_reaches" ["one", "other"] (zcZ)
abbrev Γ22 := FnH P w K mg base 2 "wish_shared" ["one", "other"] (zet)
abbrev Γ6 := FnH P w K mg base 2 "number_apart" ["one", "other"] (zgI)
abbrev Γ26 := FnH P w K mg base 1 "_law_draw" ["bag", "many"] (zi0)
abbrev Γ27 := FnH P w K mg base 2 "_law_number" ["bag"] (zeR)
abbrev Γ28 := FnH P w K mg base 1 "_law_held" ["number"] (ziZ)
abbrev Γ32 := FnH P w K mg base 2 "_law_field" ["bag"] (zdo)
abbrev Γ29 := FnH P w K mg base 3 "_law_span" ["bag"] (ziW)
abbrev Γ34 := FnH P w K mg base 3 "_law_moved" ["bag", "span"] (zgE)
abbrev Γ33 := FnH P w K mg base 3 "_law_fields" ["bag", "most"] (zc1)
abbrev Γ35 := FnH P w K mg base 4 "_law_wish" ["bag", "fields"] (zdV)
abbrev Γ36 := FnH P w K mg base 4 "_law_beside" ["bag", "wish", "fields"] (zdZ)
abbrev Γ31 := FnH P w K mg base 1 "_law_in" ["span", "number"] (spIn)
abbrev Γ30 := FnH P w K mg base 1 "_law_whole" ["found"] (zdm K)
abbrev Γ41 := FnH P w K mg base 1 "_law_is_field" ["thing"] (zcx)
abbrev Γ42 := FnH P w K mg base 2 "_law_is_span" ["low", "high"] (zc0)
abbrev Γ38 := FnH P w K mg base 1 "_law_span_of" ["wish", "field"] (zeN)
abbrev Γ39 := FnH P w K mg base 1 "_law_points" ["spans"] (zeQ K)
abbrev Γ44 := FnH P w K mg base 2 "_law_common" ["one", "other"] (zeU)
abbrev Γ45 := FnH P w K mg base 2 "_law_pieces" ["numbers", "wishes"] (zdT)
abbrev Γ43 := FnH P w K mg base 3 "_law_is_made" ["thing", "size"] (zgF)
abbrev Γ40 := FnH P w K mg base 2 "_law_wants" ["wish", "piece"] (zgA)
abbrev Γ17 := FnH P w K mg base 11 "in_order" ["wishes"] (zdW)
abbrev Γ21 := FnH P w K mg base 7 "covers" ["one", "other"] (zdX)
abbrev Γ23 := FnH P w K mg base 7 "wish_met" ["one", "other"] (zet)
abbrev Γ24 := FnH P w K mg base 7 "parting_piece" ["one", "other"] (zdU)
abbrev Γ25 := FnH P w K mg base 1 "_law_bag" ["script"] (zli K)
abbrev Γ37 := FnH P w K mg base 5 "_law_two" ["bag"] (ziV)
abbrev Γ46 := FnH P w K mg base 4 "_law_right" ["found", "one", "other"] (zeP)
abbrev Γ47 := FnH P w K mg base 12 "_law_again_right" ["met", "one"] (zeW)
end
theorem zq2 : 2 ≤ sizeLine := by decide
theorem zq3 : 3 ≤ sizeLine := by decide
variable {f : Addr} {fd : FuncData} (B : Bl mg) {t_MOST_LETTERS : Tok} (C_MOST_LETTERS : mg "MOST_LETTERS" = some (.int 8 t_MOST_LETTERS))
include B C_MOST_LETTERS
theorem zg6 (F : Fun K "is_whole" "is_whole" zcQ f fd)  : FnOk P w K mg base CX0 1 f fd ["thing"] (zdm K) := by
 refine F.ok zgO (fun vs H Q E h => ?_) (fun cdv A outer s H vs Q E hr h => ?_)
 · obtain ⟨v, t, rfl, hty, q⟩ := h
   rfl
 obtain ⟨v, t, rfl, hty, q⟩ := h
 refine ⟨_, (zag (zal (zcG (zat (zaG (n := "")) rfl B.isinstance_ zaz (zaa (pv 0) (zaa (zbF (v := .ty "int") rfl B.int_ zh9 rfl) zac))) (zbK (zk2 (zat (zaG (n := "")) rfl B.isinstance_ zaz (zaa (pv 0) (zaa (zbF (v := .ty "bool") rfl B.bool_ zkc rfl) zac)))))))), ?_⟩
 cases hty
 all_goals first
  | exact ⟨_, rfl, _, "int", "int", true, rfl, .int _, rfl, _, rfl, iteT ⟨_, rfl, _, "int", "bool", false, rfl, .int _, rfl, _, rfl, q⟩⟩
  | exact ⟨_, rfl, _, "bool", "int", true, rfl, .bl _, rfl, _, rfl, iteT ⟨_, rfl, _, "bool", "bool", true, rfl, .bl _, rfl, _, rfl, q⟩⟩
  | exact ⟨_, rfl, _, _, "int", false, rfl, (by first | exact .non | exact .str _ | exact .flt _ | (exact .lst (by assumption)) | (exact .frz (by assumption)) | (exact .tup (by assumption)) | (exact .dK (by assumption)) | (exact .dT (by assumption))), rfl, _, rfl, iteF q⟩
theorem zjr (F : Fun K "is_end" "is_end" zdK f fd) (G_is_whole : Γ0 P w K mg base) : FnOk P w K mg base CX0 2 f fd ["thing"] (zlh K) := by
 refine F.ok zi7 (fun vs H Q E h => ?_) (fun cdv A outer s H vs Q E hr h => ?_)
 · obtain ⟨v, t, rfl, hty, q⟩ := h
   rfl
 obtain ⟨v, t, rfl, hty, q⟩ := h
 refine ⟨_, (zag (zal (zfN (zcF (zbL (pv 0))) (zbK (zar G_is_whole (hr.mono (by decide)) rfl (zaa (pv 0) zac)))))), ?_⟩
 refine ⟨_, rfl, _, rfl, ?_⟩
 cases hty
 case non => exact iteT q
 all_goals refine iteF ?_
 case int i => exact ⟨_, rfl, _, _, rfl, .int _, q⟩
 all_goals exact ⟨_, rfl, _, _, rfl, (by first | exact .bl _ | exact .str _ | exact .flt _ | (exact .lst (by assumption)) | (exact .frz (by assumption)) | (exact .tup (by assumption)) | (exact .dK (by assumption)) | (exact .dT (by assumption))), q⟩
theorem zix (F : Fun K "is_span" "is_span" zc7 f fd) (G_is_end : Γ1 P w K mg base) : FnOk P w K mg base CX0 3 f fd ["thing"] (zeT K) := by
 refine F.ok sc_is_span (fun vs H Q E h => ?_) (fun cdv A outer s H vs Q E hr h => ?_)
 · obtain ⟨v, t, rfl, hty, hp, q⟩ := h
   rfl
 obtain ⟨v, t, rfl, hty, hp, q⟩ := h
 refine ⟨_, (zad (zaF (PW.pt (zcz (zaX (zaQ (zat (zaG (n := "")) rfl B.isinstance_ zaz (zaa (pv 0) (zaa (zbF (v := .ty "tuple") rfl B.tuple_ zbb rfl) zac))))) (zb7 (zas zir (zat zbe rfl B.len_ zdh (zaa (pv 0) zac)) zaf (zau _))))) (zag (zal zbQ)) zap)
  (zad (zcB (pv 0) (zca rfl (zan (zai (i := 1) sc_is_span.nd rfl (Or.inl rfl)) (zan (zai (i := 2) sc_is_span.nd rfl (Or.inl rfl)) zaS))))
  (zad (zaF (PW.pt (zcz (zaX (zaQ (zar G_is_end (hr.mono (by decide)) rfl (zaa (pv 1) zac)))) (zb7 (zaX (zaQ (zar G_is_end (hr.mono (by decide)) rfl (zaa (pv 2) zac))))))) (zag (zal zbQ)) zap)
  (zag (zal (zfN (zcF (zbL (pv 1))) (zfN (zcF (zbL (pv 2))) (zbK (zbq zg0 (pv 1) (pv 2) (zau _)))))))))), ?_⟩
 have q0 : zbH H v = false → Q (.bl false) H := fun h => by rw [← h]; exact q
 cases hty
 case tup a xs e =>
  refine ⟨_, rfl, _, "tuple", "tuple", true, rfl, .tup e, rfl, _, rfl, iteF ⟨_, rfl, a, _, rfl, .inr (SqT.of e), rfl, _, rfl, ?_⟩⟩
  by_cases hl : xs.length = 2
  · match xs, hl with
    | [x, y], _ =>
     refine iteF ⟨_, rfl, a, _, rfl, SqT.of e, rfl, _, _, rfl, _, _, rfl, rfl, ?_⟩
     obtain ⟨t1, t2, h1, h2⟩ := hp a x y rfl e
     have es : zbH H (.ref a) = (endV x && endV y && leV x y) := by unfold zbH; simp only [e]
     rw [es] at q
     refine ⟨_, rfl, _, _, rfl, h1, _, rfl, ?_⟩
     cases ex : endV x with
     | false =>
      rw [ex] at q
      exact iteT q
     | true =>
      rw [ex] at q
      refine iteF ⟨_, rfl, _, _, rfl, h2, _, rfl, ?_⟩
      cases ey : endV y with
      | false =>
       rw [ey] at q
       exact iteT q
      | true =>
       rw [ey] at q
       refine iteF ⟨_, rfl, _, rfl, ?_⟩
       cases x with
       | non => exact iteT q
       | int i =>
        refine iteF ⟨_, rfl, _, rfl, ?_⟩
        cases y with
        | non => exact iteT q
        | int j => exact iteF ⟨_, rfl, _, rfl, _, _, rfl, rfl, q⟩
        | _ => exact absurd ey Bool.false_ne_true
       | _ => exact absurd ex Bool.false_ne_true
  · have es : zbH H (.ref a) = false := by
     unfold zbH
     simp only [e]
     match xs, hl with
     | [], _ => rfl
     | [_], _ => rfl
     | [_, _], h => exact absurd rfl h
     | _ :: _ :: _ :: _, _ => rfl
    have ed : (!decide (V.int ((xs.length : Nat) : Int) = V.int 2)) = true := by
     have : ¬ V.int ((xs.length : Nat) : Int) = V.int 2 := fun z => by injection z with z; omega
     rw [decide_eq_false this]
     rfl
    rw [es] at q
    show if (!decide (V.int ((xs.length : Nat) : Int) = V.int 2)) = true then _ else _
    rw [ed]
    exact iteT q
 case non => exact ⟨_, rfl, _, _, "tuple", false, rfl, .non, rfl, _, rfl, iteT (q0 rfl)⟩
 case bl b => exact ⟨_, rfl, _, _, "tuple", false, rfl, (.bl b), rfl, _, rfl, iteT (q0 rfl)⟩
 case int i => exact ⟨_, rfl, _, _, "tuple", false, rfl, (.int i), rfl, _, rfl, iteT (q0 rfl)⟩
 case str x => exact ⟨_, rfl, _, _, "tuple", false, rfl, (.str x), rfl, _, rfl, iteT (q0 rfl)⟩
 case flt x => exact ⟨_, rfl, _, _, "tuple", false, rfl, (.flt x), rfl, _, rfl, iteT (q0 rfl)⟩
 case lst a xs e => exact ⟨_, rfl, _, _, "tuple", false, rfl, (.lst e), rfl, _, rfl, iteT (q0 (by unfold zbH; simp only [e]))⟩
 case frz a o xs e => exact ⟨_, rfl, _, _, "tuple", false, rfl, (.frz e), rfl, _, rfl, iteT (q0 (by unfold zbH; simp only [e]))⟩
 case dK a kvs e => exact ⟨_, rfl, _, _, "tuple", false, rfl, (.dK e), rfl, _, rfl, iteT (q0 (by unfold zbH; simp only [e]))⟩
 case dT a kvs e => exact ⟨_, rfl, _, _, "tuple", false, rfl, (.dT e), rfl, _, rfl, iteT (q0 (by unfold zbH; simp only [e]))⟩
theorem zea (F : Fun K "span_reaches" "span_reaches" zbt f fd)  : FnOk P w K mg base CX0 1 f fd ["one", "other"] (zgB) := by
 refine F.ok sc_span_reaches (fun vs H Q E h => ?_) (fun cdv A outer s H vs Q E hr h => ?_)
 · obtain ⟨v, w, lo, hi, lo2, hi2, rfl, S1, S2, q⟩ := h
   rfl
 obtain ⟨v, w, lo, hi, lo2, hi2, rfl, S1, S2, q⟩ := h
 refine ⟨_, (zad (zcB (pv 0) (zca rfl (zan (zai (i := 2) sc_span_reaches.nd rfl (Or.inl rfl)) (zan (zai (i := 3) sc_span_reaches.nd rfl (Or.inl rfl)) zaS))))
  (zad (zcB (pv 1) (zca rfl (zan (zai (i := 4) sc_span_reaches.nd rfl (Or.inl rfl)) (zan (zai (i := 5) sc_span_reaches.nd rfl (Or.inl rfl)) zaS))))
  (zad (zaw (i := 6) sc_span_reaches.nd rfl (Or.inl rfl) (zfN (zcF (zbL (pv 2))) (zbK (zcG (zcF (zaT (pv 4))) (zbK (zbq zg0 (pv 2) (pv 4) (zau _)))))))
  (zad (zaw (i := 7) sc_span_reaches.nd rfl (Or.inl rfl) (zfN (zcF (zbL (pv 3))) (zbK (zcG (zcF (zaT (pv 5))) (zbK (zbq zg0 (pv 5) (pv 3) (zau _)))))))
  (zag (zal (zcG (pv 6) (zbK (pv 7))))))))), ?_⟩
 obtain ⟨a, rfl, e1⟩ := S1
 obtain ⟨c, rfl, e2⟩ := S2
 refine ⟨_, rfl, a, _, rfl, SqT.of e1, rfl, _, _, rfl, _, _, rfl, rfl, ?_⟩
 refine ⟨_, rfl, c, _, rfl, SqT.of e2, rfl, _, _, rfl, _, _, rfl, rfl, ?_⟩
 cases lo <;> cases lo2 <;> cases hi <;> cases hi2
 all_goals
  refine ⟨_, rfl, _, rfl, ?_⟩
  first
   | refine iteT ?_
   | (refine iteF ⟨_, rfl, _, rfl, ?_⟩; first | refine iteF ?_ | refine iteT ⟨_, rfl, _, rfl, _, _, rfl, rfl, ?_⟩)
  refine ⟨_, rfl, _, rfl, ?_⟩
  first
   | refine iteT ?_
   | (refine iteF ⟨_, rfl, _, rfl, ?_⟩; first | refine iteF ?_ | refine iteT ⟨_, rfl, _, rfl, _, _, rfl, rfl, ?_⟩)
  refine ⟨_, rfl, _, rfl, ?_⟩
  first
   | exact iteF q
   | exact iteT ⟨_, rfl, q⟩
   | exact ite2 (fun h => ⟨_, rfl, by rw [zcU, zjX, h] at q; exact q⟩) (fun h => by rw [zcU, zjX, Bool.eq_false_iff.mpr h] at q; exact q)
theorem zeo (F : Fun K "span_shared" "span_shared" zaZ f fd)  : FnOk P w K mg base CX0 1 f fd ["one", "other"] (zeO) := by
 refine F.ok sc_span_shared (fun vs H Q E h => ?_) (fun cdv A outer s H vs Q E hr h => ?_)
 · obtain ⟨v, w, lo, hi, lo2, hi2, rfl, S1, S2, q⟩ := h
   rfl
 obtain ⟨v, w, lo, hi, lo2, hi2, rfl, S1, S2, q⟩ := h
 refine ⟨_, (zad (zaw (i := 2) sc_span_shared.nd rfl (Or.inl rfl) (zd7 (zj9 rfl) rfl B.max_ zkb (zaa (zcD (N' := ["end"]) (js := [none]) rfl (zbZ (N := ["one", "other", "low", "high"]) (outer := zah zaZ) (by decide +kernel)) (zbX (zay (zaa (zaE za8 (pv 0) zaf (fun _ _ => rfl)) (zaa (zaE za8 (pv 1) zaf (fun _ _ => rfl)) zac)))) (fun _ _ _ _ _ => (zai (i := 0) (show List.Nodup (["end"] : List Str) by decide +kernel) rfl (Or.inl rfl))) (fun _ _ _ _ _ => zb9 (zaK (zaT (pv 0)))) (fun _ _ _ _ _ => (pv 0))) zac) (zgZ za5 zji)))
  (zad (zaw (i := 3) sc_span_shared.nd rfl (Or.inl rfl) (zd7 (zj8 rfl) rfl B.min_ zka (zaa (zcD (N' := ["end"]) (js := [none]) rfl (zbZ (N := ["one", "other", "low", "high"]) (outer := zah zaZ) (by decide +kernel)) (zbX (zay (zaa (zaE za8 (pv 0) zaf (fun _ _ => rfl)) (zaa (zaE za8 (pv 1) zaf (fun _ _ => rfl)) zac)))) (fun _ _ _ _ _ => (zai (i := 0) (show List.Nodup (["end"] : List Str) by decide +kernel) rfl (Or.inl rfl))) (fun _ _ _ _ _ => zb9 (zaK (zaT (pv 0)))) (fun _ _ _ _ _ => (pv 0))) zac) (zgZ za5 zji)))
  (zad (zaF (PW.pt (zbJ (zaK (zaT (pv 2))) (zbJ (zaK (zaT (pv 3))) (zbk (zas zis (pv 2) (pv 3) (zau _)))))) (zag (zal za5)) zap)
  (zag (zal (zay (zaa (pv 2) (zaa (pv 3) zac)))))))), ?_⟩
 obtain ⟨a, rfl, e1⟩ := S1
 obtain ⟨c, rfl, e2⟩ := S2
 refine ⟨_, rfl, a, _, 0, _, rfl, rfl, SqT.of e1, rfl, _, rfl, c, _, 0, _, rfl, rfl, SqT.of e2, rfl, zq2, fun t ht => ⟨t, rfl, ⟨_, SqT.of zab⟩, fun p hp => ?_⟩⟩
 refine zjI (os := [lo, lo2]) (cap := []) Option.isSome (by simp) (SqT.of zab) hp ?_ ?_ ?_ ?_ ?_
 · rfl
 · exact fun s => s.seqT (SqT.of zab)
 · exact fun o H' R s r => ⟨_, rfl, _, rfl, by rw [zgd]; exact r⟩
 · exact fun o H' R s r => ⟨_, rfl, r⟩
 intro H1 s1 h1
 obtain ⟨ns, n1, n2⟩ := zkO lo lo2
 rw [n1] at h1
 refine ⟨p, ns, .non, rfl, rfl, SqL.of h1, ?_⟩
 rw [n2]
 have s2 : Same H H1 := (zae ht _).trans s1
 clear n1 n2 h1 hp s1 ht
 refine ⟨_, rfl, a, _, 1, _, rfl, rfl, SqT.of (s2 _ _ e1), rfl, _, rfl, c, _, 1, _, rfl, rfl, SqT.of (s2 _ _ e2), rfl, zq2, fun t ht => ⟨t, rfl, ⟨_, SqT.of zab⟩, fun p hp => ?_⟩⟩
 refine zjI (os := [hi, hi2]) (cap := []) Option.isSome (by simp) (SqT.of zab) hp ?_ ?_ ?_ ?_ ?_
 · rfl
 · exact fun s => s.seqT (SqT.of zab)
 · exact fun o H' R s r => ⟨_, rfl, _, rfl, by rw [zgd]; exact r⟩
 · exact fun o H' R s r => ⟨_, rfl, r⟩
 intro H3 s3 h1
 obtain ⟨ns, n1, n2⟩ := zkN hi hi2
 rw [n1] at h1
 refine ⟨p, ns, .non, rfl, rfl, SqL.of h1, ?_⟩
 rw [n2]
 have s4 : Same H H3 := s2.trans ((zae ht _).trans s3)
 clear n1 n2 h1 hp s3 ht
 have fin : apart (mLo lo lo2) (mHi hi hi2) = false → ∀ r, H3 r = none → Q (.ref r) (upd H3 r (.tup [eV (mLo lo lo2), eV (mHi hi hi2)])) := fun h r hr => by
  refine q _ _ (s4.trans (zae hr _)) ?_
  unfold zhA
  rw [h]
  exact iteF ⟨r, rfl, zab⟩
 refine ⟨_, rfl, _, rfl, ?_⟩
 cases e5 : mLo lo lo2 with
 | none =>
  rw [e5] at fin
  exact iteF ⟨_, rfl, _, rfl, zq2, fin rfl⟩
 | some x =>
  refine iteT ⟨_, rfl, _, rfl, ?_⟩
  cases e6 : mHi hi hi2 with
  | none =>
   rw [e5, e6] at fin
   exact iteF ⟨_, rfl, _, rfl, zq2, fin rfl⟩
  | some y =>
   refine iteT ⟨_, rfl, _, rfl, _, _, rfl, rfl, _, rfl, ?_⟩
   rw [e5, e6] at fin
   refine ite2 (fun h => q _ _ s4 ?_) (fun h => ⟨_, rfl, _, rfl, zq2, fin (Bool.eq_false_iff.mpr h)⟩)
   unfold zhA
   rw [e5, e6]
   exact (if_pos h).symm ▸ rfl
theorem zfS (F : Fun K "number_of" "number_of" zck f fd)  : FnOk P w K mg base CX0 1 f fd ["span"] (zgD) := by
 refine F.ok sc_number_of (fun vs H Q E h => ?_) (fun cdv A outer s H vs Q E hr h => ?_)
 · obtain ⟨v, lo, hi, rfl, S1, q⟩ := h
   rfl
 obtain ⟨v, lo, hi, rfl, S1, q⟩ := h
 refine ⟨_, (zad (zcB (pv 0) (zca rfl (zan (zai (i := 1) sc_number_of.nd rfl (Or.inl rfl)) (zan (zai (i := 2) sc_number_of.nd rfl (Or.inl rfl)) zaS))))
  (zad (zaF (zaK (zaT (pv 1))) (zag (zal (pv 1))) zap)
  (zad (zaF (zaK (zaT (pv 2))) (zag (zal (pv 2))) zap)
  (zag (zal zaf))))), ?_⟩
 obtain ⟨a, rfl, e1⟩ := S1
 refine ⟨_, rfl, a, _, rfl, SqT.of e1, rfl, _, _, rfl, _, _, rfl, rfl, ?_⟩
 cases lo with
 | some l => exact ⟨_, rfl, _, rfl, iteT ⟨_, rfl, q⟩⟩
 | none =>
  cases hi with
  | none => exact ⟨_, rfl, _, rfl, iteF ⟨_, rfl, _, rfl, iteF q⟩⟩
  | some h => exact ⟨_, rfl, _, rfl, iteF ⟨_, rfl, _, rfl, iteT ⟨_, rfl, q⟩⟩⟩
theorem zec (F : Fun K "number_apart" "number_apart" zbv f fd) (G_span_shared : Γ4 P w K mg base) (G_number_of : Γ5 P w K mg base) : FnOk P w K mg base CX0 2 f fd ["one", "other"] (zgI) := by
 refine F.ok sc_number_apart (fun vs H Q E h => ?_) (fun cdv A outer s H vs Q E hr h => ?_)
 · obtain ⟨v, w', lo, hi, lo2, hi2, rfl, S1, S2, q⟩ := h
   rfl
 obtain ⟨v, w', lo, hi, lo2, hi2, rfl, S1, S2, q⟩ := h
 refine ⟨_, (zad (zcB (pv 1) (zca rfl (zan (zai (i := 2) sc_number_apart.nd rfl (Or.inl rfl)) (zan (zai (i := 3) sc_number_apart.nd rfl (Or.inl rfl)) zaS))))
  (zad (zaF (zaK (zaT (pv 2))) (zad (zaw (i := 4) sc_number_apart.nd rfl (Or.inl rfl) (zar G_span_shared (hr.mono (by decide)) rfl (zaa (pv 0) (zaa (zay (zaa za5 (zaa (zaA zch (pv 2) zaf) zac))) zac))))
  (zag (zaF (zaK (zaT (pv 4))) (zag (zal (zar G_number_of (hr.mono (by decide)) rfl (zaa (pv 4) zac)))) zap))) zap)
  (zad (zaF (zaK (zaT (pv 3))) (zad (zaw (i := 5) sc_number_apart.nd rfl (Or.inl rfl) (zar G_span_shared (hr.mono (by decide)) rfl (zaa (pv 0) (zaa (zay (zaa (zaA zbM (pv 3) zaf) (zaa za5 zac))) zac))))
  (zag (zaF (zaK (zaT (pv 5))) (zag (zal (zar G_number_of (hr.mono (by decide)) rfl (zaa (pv 5) zac)))) zap))) zap)
  (zag (zal za5))))), ?_⟩
 have q' : ∀ r, zaL lo hi lo2 hi2 = r → ∀ H', Same H H' → Q (eV r) H' := fun r e H' s => by rw [← e]; exact q H' s
 obtain ⟨c, rfl, e2⟩ := S2
 refine ⟨_, rfl, c, _, rfl, SqT.of e2, rfl, _, _, rfl, _, _, rfl, rfl, ?_⟩
 cases lo2 with
 | none =>
  refine ⟨_, rfl, _, rfl, iteF ?_⟩
  have hb : zc4 lo hi none = none := rfl
  have t1 : Same H H := Same.refl _
  cases hi2 with
  | none =>
   have e0 : zaL lo hi none none = none := zds hb
   exact ⟨_, rfl, _, rfl, iteF (q' _ e0 _ t1)⟩
  | some h =>
   refine ⟨_, rfl, _, rfl, iteT ⟨_, rfl, _, rfl, _, _, rfl, rfl, zq2, fun u hu => ?_⟩⟩
   have su := zae hu (.tup [V.int (h + 1), V.non])
   refine ⟨v, .ref u, lo, hi, some (h + 1), none, rfl, S1.same (t1.trans su), ⟨u, rfl, zab⟩, fun v3 H3 s3 m3 => ?_⟩
   have t3 := t1.trans (su.trans s3)
   unfold zhA at m3
   rw [zfl] at m3
   by_cases ap : apart (mLo lo (some (h + 1))) hi = true
   · rw [if_pos ap] at m3
     subst m3
     have e0 : zaL lo hi none (some h) = none := (zds hb).trans (zmv ap)
     exact ⟨_, rfl, _, rfl, iteF (q' _ e0 _ t3)⟩
   · rw [if_neg ap] at m3
     have e0 : zaL lo hi none (some h) = some (zdb (mLo lo (some (h + 1))) hi) := (zds hb).trans (zmw ap)
     obtain ⟨b3, rfl, e3⟩ := m3
     exact ⟨_, rfl, _, rfl, iteT ⟨_, rfl, _, _, _, rfl, ⟨b3, rfl, e3⟩, q' _ e0 _ t3⟩⟩
 | some l =>
  refine ⟨_, rfl, _, rfl, iteT ⟨_, rfl, _, rfl, _, _, rfl, rfl, zq2, fun t ht => ?_⟩⟩
  have st := zae ht (.tup [V.non, V.int (l - 1)])
  refine ⟨v, .ref t, lo, hi, none, some (l - 1), rfl, S1.same st, ⟨t, rfl, zab⟩, fun v2 H2 s2 m2 => ?_⟩
  have t1 : Same H H2 := st.trans s2
  unfold zhA at m2
  rw [zhW] at m2
  by_cases ap0 : apart lo (mHi hi (some (l - 1))) = true
  · rw [if_pos ap0] at m2
    subst m2
    have hb : zc4 lo hi (some l) = none := zmY ap0
    refine ⟨_, rfl, _, rfl, iteF ?_⟩
    cases hi2 with
    | none =>
     have e0 : zaL lo hi (some l) none = none := zds hb
     exact ⟨_, rfl, _, rfl, iteF (q' _ e0 _ t1)⟩
    | some h =>
     refine ⟨_, rfl, _, rfl, iteT ⟨_, rfl, _, rfl, _, _, rfl, rfl, zq2, fun u hu => ?_⟩⟩
     have su := zae hu (.tup [V.int (h + 1), V.non])
     refine ⟨v, .ref u, lo, hi, some (h + 1), none, rfl, S1.same (t1.trans su), ⟨u, rfl, zab⟩, fun v3 H3 s3 m3 => ?_⟩
     have t3 := t1.trans (su.trans s3)
     unfold zhA at m3
     rw [zfl] at m3
     by_cases ap : apart (mLo lo (some (h + 1))) hi = true
     · rw [if_pos ap] at m3
       subst m3
       have e0 : zaL lo hi (some l) (some h) = none := (zds hb).trans (zmv ap)
       exact ⟨_, rfl, _, rfl, iteF (q' _ e0 _ t3)⟩
     · rw [if_neg ap] at m3
       have e0 : zaL lo hi (some l) (some h) = some (zdb (mLo lo (some (h + 1))) hi) := (zds hb).trans (zmw ap)
       obtain ⟨b3, rfl, e3⟩ := m3
       exact ⟨_, rfl, _, rfl, iteT ⟨_, rfl, _, _, _, rfl, ⟨b3, rfl, e3⟩, q' _ e0 _ t3⟩⟩
  · rw [if_neg ap0] at m2
    have e0 : zaL lo hi (some l) hi2 = some (zdb lo (mHi hi (some (l - 1)))) := zlw (zmZ ap0)
    obtain ⟨b2, rfl, e3⟩ := m2
    exact ⟨_, rfl, _, rfl, iteT ⟨_, rfl, _, _, _, rfl, ⟨b2, rfl, e3⟩, q' _ e0 _ t1⟩⟩
theorem zg7 (F : Fun K "is_field" "is_field" zce f fd)  : FnOk P w K mg base CX0 1 f fd ["thing"] (zgG) := by
 refine F.ok zgP (fun vs H Q E h => ?_) (fun cdv A outer s H vs Q E hr h => ?_)
 · obtain ⟨x, rfl, F1, q⟩ := h
   rfl
 obtain ⟨x, rfl, F1, q⟩ := h
 refine ⟨_, (zad (zaF (PW.pt (zcz (zaX (zaQ (zat (zaG (n := "")) rfl B.isinstance_ zaz (zaa (pv 0) (zaa (zbF (v := .ty "str") rfl B.str_ zk8 rfl) zac))))) (zb7 (zaX (zkq zg0 zg0 zaf (zat zcH rfl B.len_ zdh (zaa (pv 0) zac)) (zjl (v := .int 8) rfl C_MOST_LETTERS ⟨_, rfl⟩)))))) (zag (zal zbQ)) zap)
  (zag (zal (zat (zdO rfl) rfl B.all_ zia (zaa (zcD (N' := ["sign"]) (js := [none]) rfl (zbZ (N := ["thing"]) (outer := zah zce) (by decide +kernel)) (zk1 (pv 0)) (fun _ _ _ _ _ => (zai (i := 0) (show List.Nodup (["sign"] : List Str) by decide +kernel) rfl (Or.inl rfl))) (fun _ _ _ _ _ => zaM) (fun _ _ _ _ _ => (zku zfR zfR zey (pv 0) zey))) zac))))), ?_⟩
 have l1 : (1 : Int) ≤ (x.length : Int) := by have := F1.one; omega
 have l8 : (x.length : Int) ≤ 8 := by have := F1.eight; omega
 refine ⟨_, rfl, _, "str", "str", true, rfl, .str x, rfl, _, rfl, iteF ⟨_, rfl, x, rfl, zgK (by have := F1.eight; omega), _, _, rfl, rfl, _, rfl, ?_⟩⟩
 rw [decide_eq_true l1]
 refine iteT ⟨_, _, rfl, rfl, _, rfl, ?_⟩
 rw [decide_eq_true l8]
 refine iteF ⟨_, rfl, x, rfl, fun p hp => ?_⟩
 have s0 := zae hp (.lst [])
 have sl : (L2.signs x).length = x.length := by unfold L2.signs; rw [List.length_map, Array.length_toList]; rfl
 refine zk4 (xs := L2.signs x) (fun i σ' ys H' => (∃ v, σ' = [v]) ∧ Same H H' ∧ H' p = some (.lst ys) ∧ ys = List.replicate i (V.bl true)) ⟨⟨none, rfl⟩, s0, zab, rfl⟩ ?_ ?_ ?_
 · rintro i σ' ys H' hi ⟨_, _, h1, h2⟩
   refine ⟨h1, ?_⟩
   rw [h2, List.length_replicate]
   have := F1.eight
   exact zao (by omega)
 · rintro i y σ' ys H' N hy ⟨⟨v, rfl⟩, s, h1, h2⟩ hN
   unfold L2.signs at hy
   rw [List.getElem?_map] at hy
   cases hc : x.cps.toList[i]? with
   | none => rw [hc] at hy; cases hy
   | some c =>
    rw [hc] at hy
    obtain rfl : V.str ⟨#[c]⟩ = y := Option.some.inj hy
    have ok := F1.all c (List.mem_of_getElem? hc)
    refine ⟨_, rfl, _, _, rfl, rfl, _, rfl, ?_⟩
    rw [ge_a ok]
    refine iteT ⟨_, _, rfl, rfl, ?_⟩
    rw [le_z ok]
    refine ⟨h1, hN _ _ _ ⟨⟨_, rfl⟩, ?_, zab, by rw [h2]; exact List.replicate_succ'.symm⟩⟩
    intro b o q'
    have : b ≠ p := fun z => by rw [z, hp] at q'; cases q'
    rw [zak this]
    exact s b o q'
 · rintro σ' ys H' ⟨_, s, h1, h2⟩
   refine ⟨p, List.replicate (L2.signs x).length true, rfl, SqL.of (by rw [h1, h2, List.map_replicate]), ?_⟩
   have : (List.replicate (L2.signs x).length true).all id = true := by simp
   rw [this]
   exact q H' s
theorem zee (F : Fun K "is_wish_part" "is_wish_part" zbw f fd) (G_is_field : Γ7 P w K mg base) (G_is_span : Γ2 P w K mg base) : FnOk P w K mg base CX0 4 f fd ["thing"] (zdl) := by
 refine F.ok sc_is_wish_part (fun vs H Q E h => ?_) (fun cdv A outer s H vs Q E hr h => ?_)
 · obtain ⟨p, f, lo, hi, rfl, hp, F1, hle, q⟩ := h
   rfl
 obtain ⟨p, f, lo, hi, rfl, hp, F1, hle, q⟩ := h
 refine ⟨_, (zad (zaF (PW.pt (zcz (zaX (zaQ (zat (zaG (n := "")) rfl B.isinstance_ zaz (zaa (pv 0) (zaa (zbF (v := .ty "tuple") rfl B.tuple_ zbb rfl) zac))))) (zb7 (zas zir (zat zbe rfl B.len_ zdh (zaa (pv 0) zac)) zaf (zau _))))) (zag (zal zbQ)) zap)
  (zad (zcB (pv 0) (zca rfl (zan (zai (i := 1) sc_is_wish_part.nd rfl (Or.inl rfl)) (zan (zai (i := 2) sc_is_wish_part.nd rfl (Or.inl rfl)) (zan (zai (i := 3) sc_is_wish_part.nd rfl (Or.inl rfl)) zaS)))))
  (zag (zal (zcG (zar G_is_field (hr.mono (by decide)) rfl (zaa (pv 1) zac)) (zbK (zar G_is_span (hr.mono (by decide)) rfl (zaa (zay (zaa (pv 2) (zaa (pv 3) zac))) zac)))))))), ?_⟩
 refine ⟨_, rfl, _, "tuple", "tuple", true, rfl, .tup hp, rfl, _, rfl, iteF ⟨_, rfl, p, _, rfl, .inr (SqT.of hp), rfl, _, rfl, ?_⟩⟩
 refine iteF ⟨_, rfl, p, _, rfl, SqT.of hp, rfl, _, _, rfl, _, _, rfl, _, _, rfl, rfl, ?_⟩
 refine ⟨_, rfl, f, rfl, F1, fun H1 s1 => ⟨_, rfl, iteT ⟨_, rfl, _, rfl, zq2, fun t ht => ?_⟩⟩⟩
 have S : SpanAt (upd H1 t (.tup [eV lo, eV hi])) (.ref t) lo hi := ⟨t, rfl, zab⟩
 refine ⟨.ref t, "tuple", rfl, S.ty.1, S.ty.2, ?_⟩
 rw [zjQ S, hle]
 exact q _ (s1.trans (zae ht _))
theorem zdF (F : Fun K "fields_ascend" "fields_ascend" zaW f fd)  : FnOk P w K mg base CX0 1 f fd ["parts"] (zeV) := by
 refine F.ok zdC (fun vs H Q E h => ?_) (fun cdv A outer s H vs Q E hr h => ?_)
 · obtain ⟨a, ps, rfl, ha, hl, hp, hlt, q⟩ := h
   rfl
 obtain ⟨a, ps, rfl, ha, hl, hp, hlt, q⟩ := h
 refine ⟨_, (zag (zal (zat (zdO rfl) rfl B.all_ zia (zaa (zcD (N' := ["ahead", "behind"]) (js := [none, none]) rfl (zbZ (N := ["parts"]) (outer := zah zaW) (by decide +kernel)) (zl9 rfl B.zip_ (zaa (pv 0) (zaa (ze9 zlj (pv 0) (zgX zaf) zgY) zac))) (fun _ _ _ _ _ => (ze8 K rfl (n := 2) rfl (zan (zai (i := 0) (show List.Nodup (["ahead", "behind"] : List Str) by decide +kernel) rfl (Or.inl rfl)) (zan (zai (i := 1) (show List.Nodup (["ahead", "behind"] : List Str) by decide +kernel) rfl (Or.inl rfl)) zaS)))) (fun _ _ _ _ _ => zaM) (fun _ _ _ _ _ => (zbq zfQ (zaE (zdt K rfl) (pv 0) zaf (fun _ _ => rfl)) (zaE (zdt K rfl) (pv 1) zaf (fun _ _ => rfl)) (zau _)))) zac)))), ?_⟩
 refine ⟨_, rfl, _, rfl, _, rfl, ?_⟩
 dsimp only [ziS]
 refine zlk (SqT.of ha) fun p1 H1 s1 q1 => ?_
 refine ⟨a, p1, rfl, ⟨_, s1.seqT (SqT.of ha)⟩, ⟨_, q1⟩, fun p hp' => ?_⟩
 have s0 := zae hp' (.lst [])
 have ld : ((ps.map fun p => V.ref p.1).drop 1).length = ps.length - 1 := by rw [List.length_drop, List.length_map]
 refine zmh (n := ps.length - 1) (xs := ps.map fun p => V.ref p.1) (ys := (ps.map fun p => V.ref p.1).drop 1) (by rw [List.length_map]; omega) (by rw [ld]; exact Nat.le_refl _) (.inr (by rw [ld]; exact Nat.le_refl _))
  (fun i σ' ys H' => (∃ v w, σ' = [v, w]) ∧ Same H1 H' ∧ H' p = some (.lst ys) ∧ ys = List.replicate i (V.bl true)) ⟨⟨none, none, rfl⟩, s0, zab, rfl⟩ ?_ ?_ ?_
 · rintro i σ' zs H' hi ⟨_, s, h1, h2⟩
   refine ⟨(s1.trans s).seqT (SqT.of ha), s.seqT q1, h1, ?_⟩
   rw [h2, List.length_replicate]
   exact zao (by omega)
 · rintro i x y σ' zs H' r N hx hy hr' ⟨⟨v, w', rfl⟩, s, h1, h2⟩ hN
   rw [List.getElem?_map] at hx
   rw [List.getElem?_drop, List.getElem?_map, Nat.add_comm] at hy
   cases e1 : ps[i]? with
   | none => rw [e1] at hx; cases hx
   | some P1 =>
    cases e2 : ps[i + 1]? with
    | none => rw [e2] at hy; cases hy
    | some P2 =>
     rw [e1] at hx
     rw [e2] at hy
     obtain rfl : V.ref P1.1 = x := Option.some.inj hx
     obtain rfl : V.ref P2.1 = y := Option.some.inj hy
     have s3 := zae hr' (.tup [V.ref P1.1, V.ref P2.1])
     have t3 := (s1.trans s).trans s3
     have f1 := t3 _ _ (hp P1 (List.mem_of_getElem? e1))
     have f2 := t3 _ _ (hp P2 (List.mem_of_getElem? e2))
     refine ⟨r, _, rfl, SqT.of zab, rfl, _, _, rfl, _, _, rfl, rfl, ?_⟩
     refine ⟨_, rfl, P1.1, _, 0, _, rfl, rfl, SqT.of f1, at0, _, rfl, P2.1, _, 0, _, rfl, rfl, SqT.of f2, at0, _, _, rfl, rfl, ?_⟩
     rw [decide_eq_true (show P1.2.1.cps.toList < P2.2.1.cps.toList from hlt i P1 P2 e1 e2)]
     refine ⟨s3 _ _ h1, hN _ _ _ ⟨⟨_, _, rfl⟩, ?_, zab, by rw [h2]; exact List.replicate_succ'.symm⟩⟩
     intro b o q'
     have : b ≠ p := fun z => by rw [z, hp'] at q'; cases q'
     rw [zak this]
     exact s3 _ _ (s b o q')
 · rintro σ' zs H' ⟨_, s, h1, h2⟩
   refine ⟨p, List.replicate (ps.length - 1) true, rfl, SqL.of (by rw [h1, h2, List.map_replicate]), ?_⟩
   have : (List.replicate (ps.length - 1) true).all id = true := by simp
   rw [this]
   exact q H' (s1.trans s)
theorem ziw (F : Fun K "is_wish" "is_wish" zcy f fd) (G_fields_ascend : Γ9 P w K mg base) (G_is_wish_part : Γ8 P w K mg base) : FnOk P w K mg base CX0 5 f fd ["thing"] (zeS) := by
 refine F.ok zik (fun vs H Q E h => ?_) (fun cdv A outer s H vs Q E hr h => ?_)
 · obtain ⟨a, w', rfl, hw, wok, q⟩ := h
   rfl
 obtain ⟨a, w', rfl, hw, wok, q⟩ := h
 refine ⟨_, (zad (zaF (zaX (zaQ (zat (zaG (n := "")) rfl B.isinstance_ zaz (zaa (pv 0) (zaa (zbF (v := .ty "tuple") rfl B.tuple_ zbb rfl) zac))))) (zag (zal zbQ)) zap)
  (zag (zal (zcG (zat (zdO rfl) rfl B.all_ zia (zaa (zcD (N' := ["part"]) (js := [none]) rfl (zbZ (N := ["thing"]) (outer := zah zcy) (by decide +kernel)) (zbX (pv 0)) (fun _ _ _ _ _ => (zai (i := 0) (show List.Nodup (["part"] : List Str) by decide +kernel) rfl (Or.inl rfl))) (fun _ _ _ _ _ => zaM) (fun _ _ _ _ _ => (zar G_is_wish_part (hr.mono (by decide)) rfl (zaa (pv 0) zac)))) zac)) (zbK (zar G_fields_ascend (hr.mono (by decide)) rfl (zaa (pv 0) zac))))))), ?_⟩
 obtain ⟨ps, rfl, hA, hP⟩ := hw
 have ll : ps.length ≤ 100 := by have := wok.len; rw [List.length_map] at this; exact this
 refine ⟨_, rfl, _, "tuple", "tuple", true, rfl, .tup hA, rfl, _, rfl, iteF ?_⟩
 refine ⟨_, rfl, a, rfl, ⟨_, SqT.of hA⟩, fun p hp => ?_⟩
 refine zf5 (xs := ps.map fun p => V.ref p.1) (fun i σ' ys H' => (∃ v, σ' = [v]) ∧ Same H H' ∧ H' p = some (.lst ys) ∧ ys = List.replicate i (V.bl true)) ⟨⟨none, rfl⟩, zae hp _, zab, rfl⟩ ?_ ?_ ?_
 · rintro i σ' ys H' hi ⟨_, s, h1, h2⟩
   refine ⟨s.seqT (SqT.of hA), h1, ?_⟩
   rw [h2, List.length_replicate]
   rw [List.length_map] at hi
   exact zao (by omega)
 · rintro i x σ' ys H' N hx ⟨⟨v, rfl⟩, s, h1, h2⟩ hN
   rw [List.getElem?_map] at hx
   cases e1 : ps[i]? with
   | none => rw [e1] at hx; cases hx
   | some P1 =>
    rw [e1] at hx
    obtain rfl : V.ref P1.1 = x := Option.some.inj hx
    have hm := List.mem_of_getElem? e1
    obtain ⟨o1, o2⟩ := wok.ok P1.2 (List.mem_map_of_mem hm)
    refine ⟨_, rfl, P1.1, P1.2.1, P1.2.2.1, P1.2.2.2, rfl, s _ _ (hP P1 hm), o1, o2, fun H2 s2 => ?_⟩
    refine ⟨s2 _ _ h1, hN _ _ _ ⟨⟨_, rfl⟩, za1 (s.trans s2) hp, zab, by rw [h2]; exact List.replicate_succ'.symm⟩⟩
 · rintro σ' ys H' ⟨_, s, h1, h2⟩
   refine ⟨p, List.replicate (ps.map fun p => V.ref p.1).length true, rfl, SqL.of (by rw [h1, h2, List.map_replicate]), _, rfl, ?_⟩
   rw [show (List.replicate (ps.map fun p => V.ref p.1).length true).all id = true by simp]
   refine iteT ⟨_, rfl, a, ps.map (fun p => (p.1, p.2.1, [eV p.2.2.1, eV p.2.2.2])), rfl, ?_, by rw [List.length_map]; exact ll, ?_, ?_, fun H2 s2 => q H2 (s.trans s2)⟩
   · rw [List.map_map]; exact s _ _ hA
   · intro r hr
     rw [List.mem_map] at hr
     obtain ⟨P1, hm, rfl⟩ := hr
     exact s _ _ (hP P1 hm)
   · intro i r1 r2 h3 h4
     rw [List.getElem?_map] at h3 h4
     cases e1 : ps[i]? with
     | none => rw [e1] at h3; cases h3
     | some P1 =>
      cases e2 : ps[i + 1]? with
      | none => rw [e2] at h4; cases h4
      | some P2 =>
       rw [e1] at h3
       rw [e2] at h4
       obtain rfl := Option.some.inj h3
       obtain rfl := Option.some.inj h4
       have l2 := (List.getElem?_eq_some_iff.mp e2).1
       have := List.pairwise_iff_getElem.mp wok.asc i (i + 1) (by simp; omega) (by simp; omega) (by omega)
       simp only [List.getElem_map] at this
       rw [(List.getElem?_eq_some_iff.mp e1).2, (List.getElem?_eq_some_iff.mp e2).2] at this
       exact this
theorem zfg (F : Fun K "check_wish" "check_wish" zb6 f fd) (G_is_wish : Γ10 P w K mg base) : FnOk P w K mg base CX0 6 f fd ["thing"] (zdY) := by
 refine F.ok ze0 (fun vs H Q E h => ?_) (fun cdv A outer s H vs Q E hr h => ?_)
 · obtain ⟨a, w', rfl, hw, wok, q⟩ := h
   rfl
 obtain ⟨a, w', rfl, hw, wok, q⟩ := h
 refine ⟨_, (zag (zaF (zaX (zaQ (zar G_is_wish (hr.mono (by decide)) rfl (zaa (pv 0) zac)))) (zag zhL) zap)), ?_⟩
 exact ⟨_, rfl, a, w', rfl, hw, wok, fun H' s => ⟨_, rfl, iteF (q H' s)⟩⟩
theorem zfh (F : Fun K "are_wishes" "are_wishes" zbB f fd) (G_is_wish : Γ10 P w K mg base) : FnOk P w K mg base CX0 6 f fd ["thing"] (zi1) := by
 refine F.ok ze1 (fun vs H Q E h => ?_) (fun cdv A outer s H vs Q E hr h => ?_)
 · obtain ⟨l, ws, rfl, hw, q⟩ := h
   rfl
 obtain ⟨l, ws, rfl, hw, q⟩ := h
 refine ⟨_, (zag (zal (zcG (zat (zaG (n := "")) rfl B.isinstance_ zaz (zaa (pv 0) (zaa (zbF (v := .ty "list") rfl B.list_ zlH rfl) zac))) (zbK (zat (zdO rfl) rfl B.all_ zia (zaa (zcD (N' := ["wish"]) (js := [none]) rfl (zbZ (N := ["thing"]) (outer := zah zbB) (by decide +kernel)) (zaR (pv 0)) (fun _ _ _ _ _ => (zai (i := 0) (show List.Nodup (["wish"] : List Str) by decide +kernel) rfl (Or.inl rfl))) (fun _ _ _ _ _ => zaM) (fun _ _ _ _ _ => (zar G_is_wish (hr.mono (by decide)) rfl (zaa (pv 0) zac)))) zac)))))), ?_⟩
 have hA := hw.at'
 refine ⟨_, rfl, _, "list", "list", true, rfl, .lst hA, rfl, _, rfl, iteT ?_⟩
 refine ⟨_, rfl, l, rfl, ⟨_, SqL.of hA⟩, fun p hp => ?_⟩
 refine zc2 (xs := ws.map fun x => V.ref x.1) (fun i σ' ys H' => (∃ v, σ' = [v]) ∧ Same H H' ∧ H' p = some (.lst ys) ∧ ys = List.replicate i (V.bl true)) ⟨⟨none, rfl⟩, zae hp _, zab, rfl⟩ ?_ ?_ ?_
 · rintro i σ' ys H' hi ⟨_, s, h1, h2⟩
   refine ⟨s.seq (SqL.of hA), h1, ?_⟩
   rw [h2, List.length_replicate]
   rw [List.length_map] at hi
   have := hw.len
   exact zao (by omega)
 · rintro i x σ' ys H' N hx ⟨⟨v, rfl⟩, s, h1, h2⟩ hN
   rw [List.getElem?_map] at hx
   cases e1 : ws[i]? with
   | none => rw [e1] at hx; cases hx
   | some P1 =>
    rw [e1] at hx
    obtain rfl : V.ref P1.1 = x := Option.some.inj hx
    obtain ⟨o1, o2⟩ := hw.ok P1 (List.mem_of_getElem? e1)
    refine ⟨_, rfl, P1.1, P1.2, rfl, o1.same s, o2, fun H2 s2 => ?_⟩
    refine ⟨s2 _ _ h1, hN _ _ _ ⟨⟨_, rfl⟩, za1 (s.trans s2) hp, zab, by rw [h2]; exact List.replicate_succ'.symm⟩⟩
 · rintro σ' ys H' ⟨_, s, h1, h2⟩
   refine ⟨p, List.replicate (ws.map fun x => V.ref x.1).length true, rfl, SqL.of (by rw [h1, h2, List.map_replicate]), ?_⟩
   rw [show (List.replicate (ws.map fun x => V.ref x.1).length true).all id = true by simp]
   exact q _ s
theorem zef (F : Fun K "check_wishes" "check_wishes" zbx f fd) (G_are_wishes : Γ12 P w K mg base) : FnOk P w K mg base CX0 7 f fd ["thing"] (zgH) := by
 refine F.ok zd3 (fun vs H Q E h => ?_) (fun cdv A outer s H vs Q E hr h => ?_)
 · obtain ⟨l, ws, rfl, hw, q⟩ := h
   rfl
 obtain ⟨l, ws, rfl, hw, q⟩ := h
 refine ⟨_, (zag (zaF (zaX (zaQ (zar G_are_wishes (hr.mono (by decide)) rfl (zaa (pv 0) zac)))) (zag zhL) zap)), ?_⟩
 exact ⟨_, rfl, l, ws, rfl, hw, fun H' s => ⟨_, rfl, iteF (q H' s)⟩⟩
theorem zep (F : Fun K "rank_of_low" "rank_of_low" zbN f fd)  : FnOk P w K mg base CX0 1 f fd ["low"] (ziY) := by
 refine F.ok zem (fun vs H Q E h => ?_) (fun cdv A outer s H vs Q E hr h => ?_)
 · obtain ⟨o, rfl, q⟩ := h
   rfl
 obtain ⟨o, rfl, q⟩ := h
 refine ⟨_, (zag (zal (zcp (zaK (zbL (pv 0))) (zay (zaa zaf (zaa zaf zac))) (zay (zaa zaf (zaa (pv 0) zac)))))), ?_⟩
 cases o with
 | none => exact ⟨_, rfl, _, rfl, iteT ⟨zq2, fun t ht => q t _ (zae ht _) zab⟩⟩
 | some l => exact ⟨_, rfl, _, rfl, iteF ⟨_, rfl, zq2, fun t ht => q t _ (zae ht _) zab⟩⟩
theorem zeb (F : Fun K "rank_of_high" "rank_of_high" zbu f fd)  : FnOk P w K mg base CX0 1 f fd ["high"] (zgC) := by
 refine F.ok zd1 (fun vs H Q E h => ?_) (fun cdv A outer s H vs Q E hr h => ?_)
 · obtain ⟨o, rfl, q⟩ := h
   rfl
 obtain ⟨o, rfl, q⟩ := h
 refine ⟨_, (zag (zal (zcp (zaK (zbL (pv 0))) (zay (zaa zaf (zaa zaf zac))) (zay (zaa zaf (zaa (pv 0) zac)))))), ?_⟩
 cases o with
 | none => exact ⟨_, rfl, _, rfl, iteT ⟨zq2, fun t ht => q t _ (zae ht _) zab⟩⟩
 | some l => exact ⟨_, rfl, _, rfl, iteF ⟨_, rfl, zq2, fun t ht => q t _ (zae ht _) zab⟩⟩
theorem zlu (F : Fun K "rank" "rank" zfI f fd) (G_rank_of_low : Γ14 P w K mg base) (G_rank_of_high : Γ15 P w K mg base) : FnOk P w K mg base CX0 2 f fd ["wish"] (ziX K) := by
 refine F.ok zll (fun vs H Q E h => ?_) (fun cdv A outer s H vs Q E hr h => ?_)
 · obtain ⟨a, w', rfl, hw, wok, q⟩ := h
   rfl
 obtain ⟨a, w', rfl, hw, wok, q⟩ := h
 refine ⟨_, (zag (zal (zcD (N' := ["field", "low", "high"]) (js := [none, none, none]) rfl (zbZ (N := ["wish"]) (outer := zah zfI) (by decide +kernel)) (zbX (pv 0)) (fun _ _ _ _ _ => (ze8 K rfl (n := 3) rfl (zan (zai (i := 0) (show List.Nodup (["field", "low", "high"] : List Str) by decide +kernel) rfl (Or.inl rfl)) (zan (zai (i := 1) (show List.Nodup (["field", "low", "high"] : List Str) by decide +kernel) rfl (Or.inl rfl)) (zan (zai (i := 2) (show List.Nodup (["field", "low", "high"] : List Str) by decide +kernel) rfl (Or.inl rfl)) zaS))))) (fun _ _ _ _ _ => zaM) (fun _ _ _ _ _ => (zay (zaa (pv 0) (zaa (zar G_rank_of_low (hr.mono (by decide)) rfl (zaa (pv 1) zac)) (zaa (zar G_rank_of_high (hr.mono (by decide)) rfl (zaa (pv 2) zac)) zac)))))))), ?_⟩
 obtain ⟨ps, rfl, hA, hP⟩ := hw
 have ll : ps.length ≤ 100 := by have := wok.len; rw [List.length_map] at this; exact this
 refine ⟨_, rfl, a, rfl, ⟨_, SqT.of hA⟩, fun p hp => ?_⟩
 refine zf5 (xs := ps.map fun p => V.ref p.1) (fun j σ' ys H2 => (∃ v1 v2 v3, σ' = [v1, v2, v3]) ∧ Same H H2 ∧ H2 p = some (.lst ys) ∧ ∃ qs : List (Addr × Addr × Addr × WP), ys = qs.map (fun q => V.ref q.1) ∧ qs.map (·.2.2.2) = (ps.map (·.2)).take j ∧ ∀ q ∈ qs, RkAt H2 q) ⟨⟨none, none, none, rfl⟩, zae hp _, zab, [], rfl, rfl, fun q hq => by simp at hq⟩ ?_ ?_ ?_
 · rintro j σ' ys H2 hj ⟨_, s2, h1, qs, rfl, h3, _⟩
   refine ⟨s2.seqT (SqT.of hA), h1, ?_⟩
   have := congrArg List.length h3
   rw [List.length_map, List.length_take, List.length_map] at this
   rw [List.length_map]
   exact zao (by omega)
 · rintro j y σ' ys H2 N hy ⟨⟨v1, v2, v3, rfl⟩, s2, h1, qs, rfl, h3, h4⟩ hN
   rw [List.getElem?_map] at hy
   cases e2 : ps[j]? with
   | none => rw [e2] at hy; cases hy
   | some P2 =>
    rw [e2] at hy
    obtain rfl : V.ref P2.1 = y := Option.some.inj hy
    have hm2 := List.mem_of_getElem? e2
    have ep : (ps.map (·.2))[j]? = some P2.2 := by rw [List.getElem?_map, e2]; rfl
    refine ⟨P2.1, _, rfl, SqT.of (s2 _ _ (hP P2 hm2)), rfl, _, _, rfl, _, _, rfl, _, _, rfl, rfl, ?_⟩
    refine ⟨_, rfl, _, rfl, P2.2.2.1, rfl, fun t1 H3 s3 e3 => ?_⟩
    refine ⟨_, rfl, P2.2.2.2, rfl, fun t2 H4 s4 e4 => ?_⟩
    refine ⟨zq3, fun t ht => ?_⟩
    have st := zae ht (.tup [V.str P2.2.1, .ref t1, .ref t2])
    have s5 := (s3.trans s4).trans st
    have h5 := s5 _ _ h1
    have tl := zaY (o := .lst (qs.map (fun q => V.ref q.1) ++ [V.ref t])) h5
    refine ⟨h5, hN _ _ _ ⟨⟨_, _, _, rfl⟩, za1 (s2.trans s5) hp, zab, qs ++ [(t, t1, t2, P2.2)], ?_, ?_, ?_⟩⟩
    · rw [List.map_append]; rfl
    · rw [List.map_append, h3, zaq ep]; rfl
    · intro q hq
      rcases List.mem_append.mp hq with z | z
      · exact (h4 q z).keep (s5.tups.trans tl)
      · rw [List.mem_singleton.mp z]
        exact ⟨tl _ _ zab, tl _ _ (st _ _ (s4 _ _ e3)), tl _ _ (st _ _ e4)⟩
 · rintro σ' ys H2 ⟨_, s2, h1, qs, rfl, h3, h4⟩
   have et : (ps.map (·.2)).take (ps.map fun p => V.ref p.1).length = ps.map (·.2) := List.take_of_length_le (by simp)
   rw [et] at h3
   have := zl1 (K := K) h1 h4
   rw [h3] at this
   exact q _ _ s2 this
theorem zg8 (F : Fun K "in_order" "in_order" zcR f fd) (G_check_wishes : Γ13 P w K mg base) (G_rank : Γ16 P w K mg base) : FnOk P w K mg base CX0 11 f fd ["wishes"] (zdW) := by
 refine F.ok zgQ (fun vs H Q E h => ?_) (fun cdv A outer s H vs Q E hr h => ?_)
 · obtain ⟨l, ws, rfl, hw, q⟩ := h
   rfl
 obtain ⟨l, ws, rfl, hw, q⟩ := h
 refine ⟨_, (zad (za2 (zar G_check_wishes (hr.mono (by decide)) rfl (zaa (pv 0) zac)))
  (zag (zal (zkt G_rank (hr.mono (by decide)) rfl B.sorted_ rfl (zaa (pv 0) zac))))), ?_⟩
 refine ⟨_, rfl, l, ws, rfl, hw, fun H1 s1 => ?_⟩
 have hw1 := hw.same s1
 have lm : (ws.map fun x => V.ref x.1).length = ws.length := List.length_map _
 refine ⟨_, rfl, l, _, fun i => rkD (ws.getD i (0, [])).2, rfl, SqL.of hw1.at', by rw [lm]; exact hw.len, ?_, fun i => ⟨_, rfl⟩, fun i => Nat.le_trans (zkQ _) (by decide), fun i j _ _ => zly _ _, zmd _, ?_⟩
 · intro i v hv H2 s2 Q1 hQ
   rw [List.getElem?_map] at hv
   cases e1 : ws[i]? with
   | none => rw [e1] at hv; cases hv
   | some P1 =>
    rw [e1] at hv
    obtain rfl : V.ref P1.1 = v := Option.some.inj hv
    obtain ⟨o1, o2⟩ := hw1.ok P1 (List.mem_of_getElem? e1)
    have e2 : ws.getD i (0, []) = P1 := by rw [List.getD_eq_getElem?_getD, e1]; rfl
    exact ⟨P1.1, P1.2, rfl, o1.same s2, o2, fun v' H' s' r' => hQ v' H' s' (by show Rep K H' (rkD (ws.getD i (0, [])).2) v'; rw [e2]; exact r')⟩
 · intro r p H' ok srt s2 hr' e'
   rw [lm] at ok srt
   have hsz := ok.size
   have em : (p.toList.map fun i => (ws.map fun x => V.ref x.1).getD i .non) = (p.toList.map fun i => ws.getD i (0, [])).map fun x => V.ref x.1 := by
    rw [List.map_map]
    refine List.map_congr_left fun i hi => ?_
    have hi' : i < ws.length := List.mem_range.mp (ok.perm.mem_iff.mp hi)
    rw [zdN (fun x : Addr × List WP => V.ref x.1) (0, []) V.non ws hi']
    rfl
   rw [em] at e'
   refine q r _ H' (s1.trans s2) (zhM (0, []) ok) ?_ e'
   rw [List.pairwise_iff_getElem]
   intro i j hi hj hij
   simp only [List.length_map, Array.length_toList] at hi hj
   simp only [List.getElem_map, Array.getElem_toList]
   have h1 := srt i j hij (by omega)
   have k1 : KS.K p i = p[i] := by show p.getD i 0 = _; simp [Array.getD, hi]
   have k2 : KS.K p j = p[j] := by show p.getD j 0 = _; simp [Array.getD, hj]
   rw [k1, k2] at h1
   exact h1
theorem zdr (F : Fun K "spans_by_field" "spans_by_field" zaP f fd)  : FnOk P w K mg base CX0 1 f fd ["wish"] (zdn) := by
 refine F.ok zdp (fun vs H Q E h => ?_) (fun cdv A outer s H vs Q E hr h => ?_)
 · obtain ⟨a, w', rfl, hw, wok, q⟩ := h
   rfl
 obtain ⟨a, w', rfl, hw, wok, q⟩ := h
 refine ⟨_, (zag (zal (zmK (N' := ["field", "low", "high"]) (js := [none, none, none]) rfl (zbZ (N := ["wish"]) (outer := zah zaP) (by decide +kernel)) (zbX (pv 0)) (fun _ _ _ _ _ => (ze8 K rfl (n := 3) rfl (zan (zai (i := 0) (show List.Nodup (["field", "low", "high"] : List Str) by decide +kernel) rfl (Or.inl rfl)) (zan (zai (i := 1) (show List.Nodup (["field", "low", "high"] : List Str) by decide +kernel) rfl (Or.inl rfl)) (zan (zai (i := 2) (show List.Nodup (["field", "low", "high"] : List Str) by decide +kernel) rfl (Or.inl rfl)) zaS))))) (fun _ _ _ _ _ => zaM) (fun _ _ _ _ _ => (pv 0)) (fun _ _ _ _ _ => (zay (zaa (pv 1) (zaa (pv 2) zac))))))), ?_⟩
 obtain ⟨ps, rfl, hA, hP⟩ := hw
 have ll : ps.length ≤ 100 := by have := wok.len; rw [List.length_map] at this; exact this
 refine ⟨_, rfl, a, rfl, ⟨_, SqT.of hA⟩, fun d hd => ?_⟩
 refine zmp (xs := ps.map fun p => V.ref p.1) (fun i σ' kvs H' => (∃ v1 v2 v3, σ' = [v1, v2, v3]) ∧ Same H H' ∧ H' d = some (.dK kvs) ∧ kvs.length ≤ i ∧ (∃ bs, kvs = kvS bs ∧ bs.map (·.1) = ((ps.map (·.2)).take i).map (·.1)) ∧ ∀ f : Str, match zaj ((ps.map (·.2)).take i) f with
  | none => valV kvs (.inr f) = none
  | some s => ∃ t, valV kvs (.inr f) = some (.ref t) ∧ H' t = some (.tup [eV s.1, eV s.2])) ⟨⟨none, none, none, rfl⟩, zae hd _, zab, Nat.zero_le _, ⟨[], rfl, rfl⟩, fun f => rfl⟩ ?_ ?_ ?_
 · rintro i σ' kvs H' hi ⟨_, s, h1, h2, _⟩
   rw [List.length_map] at hi
   exact ⟨s.seqT (SqT.of hA), h1, zao (by omega)⟩
 · rintro i x σ' kvs H' N hx ⟨⟨v1, v2, v3, rfl⟩, s, h1, h2, ⟨bs, rfl, kb⟩, h3⟩ hN
   rw [List.getElem?_map] at hx
   cases e1 : ps[i]? with
   | none => rw [e1] at hx; cases hx
   | some P1 =>
    rw [e1] at hx
    obtain rfl : V.ref P1.1 = x := Option.some.inj hx
    have hm := List.mem_of_getElem? e1
    refine ⟨P1.1, _, rfl, SqT.of (s _ _ (hP P1 hm)), rfl, _, _, rfl, _, _, rfl, _, _, rfl, rfl, ?_⟩
    refine ⟨_, rfl, _, rfl, _, rfl, zq2, fun u hu => ?_⟩
    have su := zae hu (.tup [eV P1.2.2.1, eV P1.2.2.2])
    have eu : (upd H' u (.tup [eV P1.2.2.1, eV P1.2.2.2])) u = some (.tup [eV P1.2.2.1, eV P1.2.2.2]) := zab
    have h1' := su _ _ h1
    generalize upd H' u (.tup [eV P1.2.2.1, eV P1.2.2.2]) = H2 at *
    have du : u ≠ d := zdc eu h1' (by intro z; cases z)
    refine ⟨Sum.inr P1.2.1, rfl, h1', hN _ _ _ ⟨⟨_, _, _, rfl⟩, za1 (s.trans su) hd, zab, ?_, ⟨putS bs P1.2.1 (V.ref u), zdM _ _ _, ?_⟩, fun f => ?_⟩⟩
    · have := zbr (kvS bs) (Sum.inr P1.2.1 : Key) (V.ref u)
      omega
    · have ew : (ps.map (·.2))[i]? = some P1.2 := by rw [List.getElem?_map, e1]; rfl
      have fr := zfD (wok.fresh ew)
      rw [zd4, if_neg, kb, zaq ew, List.map_append]
      · rfl
      · rw [kb]
        intro z
        obtain ⟨y, hy, ey⟩ := List.mem_map.mp z
        exact fr y hy ey
    · have ew : (ps.map (·.2))[i]? = some P1.2 := by rw [List.getElem?_map, e1]; rfl
      have fr := wok.fresh ew
      rw [zaq ew, zbV _ _ _ fr, zdH]
      by_cases hf : f = P1.2.1
      · subst hf
        rw [if_pos rfl, if_pos rfl]
        exact ⟨u, rfl, by rw [zak du]; exact eu⟩
      · rw [if_neg hf, if_neg (fun z => hf (by injection z))]
        have := h3 f
        cases hs : zaj ((ps.map (·.2)).take i) f with
        | none => rw [hs] at this; exact this
        | some sp =>
         rw [hs] at this
         obtain ⟨t, t1, t2⟩ := this
         exact ⟨t, t1, by rw [zak (zdc (su _ _ t2) h1' (by intro z; cases z))]; exact su _ _ t2⟩
 · rintro σ' kvs H' ⟨_, s, h1, h2, ⟨bs, rfl, kb⟩, h3⟩
   have et : (ps.map (·.2)).take (ps.map fun p => V.ref p.1).length = ps.map (·.2) := List.take_of_length_le (by simp)
   rw [et] at kb
   refine q d H' s hd ⟨bs, h1, kb, fun f => ?_⟩
   have := h3 f
   rw [et] at this
   rw [zb2] at this
   exact this
theorem zdD (F : Fun K "reaches_spans" "reaches_spans" zbh f fd) (G_span_reaches : Γ3 P w K mg base) : FnOk P w K mg base CX0 2 f fd ["one", "other_spans"] (zdS) := by
 refine F.ok sc_reaches_spans (fun vs H Q E h => ?_) (fun cdv A outer s H vs Q E hr h => ?_)
 · obtain ⟨a, d, w', w2, rfl, hw, hd, q⟩ := h
   rfl
 obtain ⟨a, d, w', w2, rfl, hw, hd, q⟩ := h
 refine ⟨_, (zad (zbl PassesOwn.never rfl (zbX (pv 0)) (zca rfl (zan (zai (i := 2) sc_reaches_spans.nd rfl (Or.inl rfl)) (zan (zai (i := 3) sc_reaches_spans.nd rfl (Or.inl rfl)) (zan (zai (i := 4) sc_reaches_spans.nd rfl (Or.inl rfl)) zaS)))) (zag (zaF (PW.pt (zcz (zaK (zd8 (zci hr) (pv 2) (pv 1)) (by with_unfolding_all rfl)) (zb7 (zaX (zaQ (zar G_span_reaches (hr.mono (by decide)) rfl (zaa (zay (zaa (pv 3) (zaa (pv 4) zac))) (zaa (zcE (zci hr) (pv 1) (pv 2) (fun _ _ => rfl)) zac)))))))) (zag (zal zbQ)) zap)))
  (zag (zal zbQ))), ?_⟩
 obtain ⟨ps, rfl, hA, hP⟩ := hw
 refine ⟨_, rfl, a, rfl, ⟨_, SqT.of hA⟩, zc3 (K := K) (a := a) (xs := ps.map fun p => V.ref p.1) (fun i σ H' => (∃ y2 y3 y4, σ = [some (.ref a), some (.ref d), y2, y3, y4]) ∧ Same H H' ∧ zcs ((ps.map (·.2)).take i) w2 = true) ⟨⟨none, none, none, rfl⟩, Same.refl _, rfl⟩ (fun i σ H' _ ⟨_, s, _⟩ => s.seqT (SqT.of hA)) ?_ ?_⟩
 · rintro i x σ H' hx ⟨⟨y2, y3, y4, rfl⟩, s, hr'⟩
   rw [List.getElem?_map] at hx
   cases e1 : ps[i]? with
   | none => rw [e1] at hx; cases hx
   | some P1 =>
    rw [e1] at hx
    obtain rfl : V.ref P1.1 = x := Option.some.inj hx
    have hm := List.mem_of_getElem? e1
    have ew : (ps.map (·.2))[i]? = some P1.2 := by rw [List.getElem?_map, e1]; rfl
    obtain ⟨kvs, k1, k2, k3⟩ := hd.same s
    have kf := k3 P1.2.1
    refine ⟨P1.1, _, rfl, SqT.of (s _ _ (hP P1 hm)), rfl, _, _, rfl, _, _, rfl, _, _, rfl, rfl, ?_⟩
    have out : zev w2 P1.2 = false → zcs (ps.map (·.2)) w2 = false := fun h => by
     unfold zcs
     rw [List.all_eq_false]
     exact ⟨P1.2, List.mem_map_of_mem hm, by rw [h]; exact Bool.false_ne_true⟩
    refine ⟨_, rfl, _, rfl, d, _, rfl, DGet.k (k := Sum.inr P1.2.1) k1, _, rfl, ?_⟩
    cases hs : zaj w2 P1.2.1 with
    | none =>
     rw [hs] at kf
     rw [kf]
     refine iteT ?_
     have o1 := out (zgU hs)
     rw [o1] at q
     exact q _ s
    | some sp =>
     rw [hs] at kf
     obtain ⟨t, t1, t2⟩ := kf
     rw [t1]
     refine iteF ⟨_, rfl, _, rfl, zq2, fun u hu => ?_⟩
     have su := zae hu (.tup [eV P1.2.2.1, eV P1.2.2.2])
     have gd : DGet (upd H' u (.tup [eV P1.2.2.1, eV P1.2.2.2])) d (.str P1.2.1) (some (.ref t)) := by
      have := DGet.k (k := Sum.inr P1.2.1) (su _ _ k1)
      rw [t1] at this
      exact this
     refine ⟨_, rfl, _, rfl, d, _, rfl, gd, .ref u, .ref t, P1.2.2.1, P1.2.2.2, sp.1, sp.2, rfl, ⟨u, rfl, zab⟩, ⟨t, rfl, su _ _ t2⟩, _, rfl, ?_⟩
     cases hb : zcU P1.2.2.1 P1.2.2.2 sp.1 sp.2 with
     | false =>
      refine iteT ?_
      have o1 := out ((zco hs).trans hb)
      rw [o1] at q
      exact q _ (s.trans su)
     | true =>
      refine iteF ⟨⟨_, _, _, rfl⟩, s.trans su, ?_⟩
      rw [zaq ew]
      unfold zcs at *
      rw [List.all_append, hr', Bool.true_and, List.all_cons, List.all_nil, zco hs, hb]
      rfl
 · rintro σ H' ⟨_, s, hr'⟩
   rw [show (ps.map (·.2)).take (ps.map fun p => V.ref p.1).length = ps.map (·.2) from List.take_of_length_le (by simp)] at hr'
   rw [hr'] at q
   exact q _ s
theorem zd9 (F : Fun K "wish_reaches" "wish_reaches" zbs f fd) (G_reaches_spans : Γ19 P w K mg base) (G_spans_by_field : Γ18 P w K mg base) : FnOk P w K mg base CX0 3 f fd ["one", "other"] (zcZ) := by
 refine F.ok zd0 (fun vs H Q E h => ?_) (fun cdv A outer s H vs Q E hr h => ?_)
 · obtain ⟨a, b, w', w2, rfl, hw, hw2, wok, q⟩ := h
   rfl
 obtain ⟨a, b, w', w2, rfl, hw, hw2, wok, q⟩ := h
 refine ⟨_, (zag (zal (zar G_reaches_spans (hr.mono (by decide)) rfl (zaa (pv 0) (zaa (zar G_spans_by_field (hr.mono (by decide)) rfl (zaa (pv 1) zac)) zac))))), ?_⟩
 exact ⟨_, rfl, _, rfl, b, w2, rfl, hw2, wok, fun d H1 s1 n1 D1 => ⟨a, d, w', w2, rfl, hw.same s1, D1.sp, fun H2 s2 => q H2 (s1.trans s2)⟩⟩
theorem zjs (F : Fun K "covers" "covers" zdL f fd) (G_check_wish : Γ11 P w K mg base) (G_wish_reaches : Γ20 P w K mg base) : FnOk P w K mg base CX0 7 f fd ["one", "other"] (zdX) := by
 refine F.ok zi8 (fun vs H Q E h => ?_) (fun cdv A outer s H vs Q E hr h => ?_)
 · obtain ⟨a, b, w', w2, rfl, hw, hw2, ok1, ok2, q⟩ := h
   rfl
 obtain ⟨a, b, w', w2, rfl, hw, hw2, ok1, ok2, q⟩ := h
 refine ⟨_, (zad (za2 (zar G_check_wish (hr.mono (by decide)) rfl (zaa (pv 0) zac)))
  (zad (za2 (zar G_check_wish (hr.mono (by decide)) rfl (zaa (pv 1) zac)))
  (zag (zal (zar G_wish_reaches (hr.mono (by decide)) rfl (zaa (pv 0) (zaa (pv 1) zac))))))), ?_⟩
 refine ⟨_, rfl, a, w', rfl, hw, ok1, fun H1 s1 => ?_⟩
 refine ⟨_, rfl, b, w2, rfl, hw2.same s1, ok2, fun H2 s2 => ?_⟩
 have t2 := s1.trans s2
 exact ⟨_, rfl, _, rfl, a, b, w', w2, rfl, hw.same t2, hw2.same t2, ok2, fun H3 s3 => q _ (t2.trans s3)⟩
theorem zen (F : Fun K "wish_shared" "wish_shared" zbg f fd) (G_spans_by_field : Γ18 P w K mg base) (G_span_shared : Γ4 P w K mg base) : FnOk P w K mg base CX0 2 f fd ["one", "other"] (zet) := by
 refine F.ok sc_wish_shared (fun vs H Q E h => ?_) (fun cdv A outer s H vs Q E hr h => ?_)
 · obtain ⟨a, b, w1, w2, rfl, hw1, hw2, ok1, ok2, hl, qN, qS⟩ := h
   rfl
 obtain ⟨a, b, w1, w2, rfl, hw1, hw2, ok1, ok2, hl, qN, qS⟩ := h
 refine ⟨_, (zad (zaw (i := 2) sc_wish_shared.nd rfl (Or.inr rfl) (zar G_spans_by_field (hr.mono (by decide)) rfl (zaa (pv 0) zac)))
  (zad (zbl PassesOwn.never rfl (zbX (pv 1)) (zca rfl (zan (zai (i := 3) sc_wish_shared.nd rfl (Or.inl rfl)) (zan (zai (i := 4) sc_wish_shared.nd rfl (Or.inl rfl)) (zan (zai (i := 5) sc_wish_shared.nd rfl (Or.inl rfl)) zaS)))) (zad (zaw (i := 6) sc_wish_shared.nd rfl (Or.inl rfl) (zar G_span_shared (hr.mono (by decide)) rfl (zaa (zhO (zci hr) (pv 2) (pv 3) (zay (zaa za5 (zaa za5 zac))) ⟨rfl, rfl, rfl, rfl⟩) (zaa (zay (zaa (pv 4) (zaa (pv 5) zac))) zac))))
  (zad (zaF (zaK (zbL (pv 6))) (zag (zal za5)) zap)
  (zag (zgW (zci hr) (pv 2) (pv 3) (pv 6) rfl)))))
  (zag (zal (za7 zaO rfl B.tuple_ zbb (zaa (zcD (N' := ["field", "met"]) (js := [none, some 2]) rfl (zbZ (N := ["one", "other", "met", "field", "low", "high", "shared"]) (outer := zah zbg) (by decide +kernel)) (zaR (zat (zbS rfl) rfl B.sorted_ zbD (zaa (pv 2) zac))) (fun _ _ _ _ _ => (zai (i := 0) (show List.Nodup (["field", "met"] : List Str) by decide +kernel) rfl (Or.inl rfl))) (fun _ _ _ _ _ => zaM) (fun _ _ _ _ _ => (zay (zaa (pv 0) (zaa (zaE (zdt K rfl) (zcE (zci hr) (pv 1) (pv 0) (fun _ _ => rfl)) zaf (fun _ _ => rfl)) (zaa (zaE (zdt K rfl) (zcE (zci hr) (pv 1) (pv 0) (fun _ _ => rfl)) zaf (fun _ _ => rfl)) zac)))))) zac)))))), ?_⟩
 refine ⟨_, rfl, a, w1, rfl, hw1, ok1, fun d H1 s1 n1 D1 => ?_⟩
 obtain ⟨bs0, b1, b2, b3⟩ := D1
 obtain ⟨ps, rfl, hA, hP⟩ := hw2.same s1
 have bd : b ≠ d := zdc hA b1 (by intro z; cases z)
 have pd : ∀ p ∈ ps, p.1 ≠ d := fun p hp => zdc (hP p hp) b1 (by intro z; cases z)
 refine ⟨_, rfl, b, rfl, ⟨_, SqT.of hA⟩, zc3 (K := K) (a := b) (xs := ps.map fun p => V.ref p.1) (fun i σ H' => (∃ y3 y4 y5 y6, σ = [some (.ref a), some (.ref b), some (.ref d), y3, y4, y5, y6]) ∧ (∀ c o, H1 c = some o → c ≠ d → H' c = some o) ∧ ∃ bs : List (Str × V), H' d = some (.dK (kvS bs)) ∧ (bs.map (·.1)).Nodup ∧ bs.length ≤ w1.length + i ∧ zct w1 ((ps.map (·.2)).take i) = false ∧
  ∀ f : Str, match metO (zaj w1 f) (zaj ((ps.map (·.2)).take i) f) with
   | none => getS bs f = none
   | some s => ∃ t, getS bs f = some (.ref t) ∧ H' t = some (.tup [eV s.1, eV s.2])) ?_ ?_ ?_ ?_⟩
 · refine ⟨⟨none, none, none, none, rfl⟩, fun c o h _ => h, bs0, b1, ?_, ?_, rfl, fun f => ?_⟩
   · rw [b2]; exact zgu ok1.asc
   · have := congrArg List.length b2; simp at this; omega
   · have := b3 f
     cases e : zaj w1 f with
     | none => rw [e] at this; exact this
     | some s => rw [e] at this; exact this
 · rintro i σ H' _ ⟨_, kp, _⟩
   exact SqT.of (kp _ _ hA bd)
 · rintro i x σ H2 hx ⟨⟨y3, y4, y5, y6, rfl⟩, kp, bs, k1, k2, k3, k4, k5⟩
   rw [List.getElem?_map] at hx
   cases e1 : ps[i]? with
   | none => rw [e1] at hx; cases hx
   | some P1 =>
    rw [e1] at hx
    obtain rfl : V.ref P1.1 = x := Option.some.inj hx
    have hm := List.mem_of_getElem? e1
    have li := (List.getElem?_eq_some_iff.mp e1).1
    have ew : (ps.map (·.2))[i]? = some P1.2 := by rw [List.getElem?_map, e1]; rfl
    have fr := ok2.fresh ew
    have kf := k5 P1.2.1
    rw [fr] at kf
    refine ⟨P1.1, _, rfl, SqT.of (kp _ _ (hP P1 hm) (pd P1 hm)), rfl, _, _, rfl, _, _, rfl, _, _, rfl, rfl, ?_⟩
    refine ⟨_, rfl, d, rfl, .inl ⟨kvS bs, .inl k1⟩, _, rfl, zq2, fun v hv => ?_⟩
    have sv := zae hv (.tup [V.non, V.non])
    have ev : (upd H2 v (.tup [V.non, V.non])) v = some (.tup [V.non, V.non]) := zab
    have k1v := sv _ _ k1
    generalize upd H2 v (.tup [V.non, V.non]) = H3 at *
    have gd := DGet.k (k := Sum.inr P1.2.1) k1v
    rw [zb2] at gd
    obtain ⟨sp, esp, tt, ett, htt⟩ : ∃ sp : SPN, (zaj w1 P1.2.1).getD (none, none) = sp ∧ ∃ tt, (getS bs P1.2.1).getD (.ref v) = .ref tt ∧ H3 tt = some (.tup [eV sp.1, eV sp.2]) := by
     cases hs : zaj w1 P1.2.1 with
     | none => rw [hs] at kf; rw [show getS bs P1.2.1 = none from kf]; exact ⟨(none, none), rfl, v, rfl, ev⟩
     | some sp => rw [hs] at kf; obtain ⟨t, z1, z2⟩ := kf; rw [z1]; exact ⟨sp, rfl, t, rfl, sv _ _ z2⟩
    refine ⟨_, gd, ?_⟩
    rw [ett]
    refine ⟨_, rfl, _, rfl, zq2, fun u hu => ?_⟩
    have su := zae hu (.tup [eV P1.2.2.1, eV P1.2.2.2])
    refine ⟨.ref tt, .ref u, sp.1, sp.2, P1.2.2.1, P1.2.2.2, rfl, ⟨tt, rfl, su _ _ htt⟩, ⟨u, rfl, zab⟩, fun v' H4 s4 m4 => ?_⟩
    have s24 : Same H2 H4 := sv.trans (su.trans s4)
    have sH4 : Same H H4 := fun c o h => s24 _ _ (kp _ _ (s1 _ _ h) (fun e => by rw [e, n1] at h; cases h))
    have le1 := (ok2.ok P1.2 (List.mem_map_of_mem hm)).2
    unfold zhA at m4
    by_cases ap : apart (mLo sp.1 P1.2.2.1) (mHi sp.2 P1.2.2.2) = true
    · rw [if_pos ap] at m4
      subst m4
      have aw : zct w1 (ps.map (·.2)) = true := by
       refine List.any_eq_true.mpr ⟨P1.2, List.mem_map_of_mem hm, ?_⟩
       unfold zdi
       cases hs : zaj w1 P1.2.1 with
       | none =>
        rw [hs] at esp
        subst esp
        have : apart P1.2.2.1 P1.2.2.2 = true := ap
        rw [zde, this] at le1
        cases le1
       | some s =>
        rw [hs] at esp
        obtain rfl : s = sp := esp
        exact ap
      exact ⟨_, rfl, _, rfl, iteT (qN aw _ sH4)⟩
    · rw [if_neg ap] at m4
      obtain ⟨t4, rfl, e4⟩ := m4
      have k14 := s24 _ _ k1
      have td : t4 ≠ d := zdc e4 k14 (by intro z; cases z)
      refine ⟨_, rfl, _, rfl, iteF ⟨_, rfl, _, rfl, _, rfl, d, _, rfl, DPut.k (k := Sum.inr P1.2.1) k14 (zao (by unfold kvS; rw [List.length_map]; have := ok1.len; have := ok2.len; simp at this; omega)), ⟨_, _, _, _, rfl⟩, fun c o h cd => by rw [zak cd]; exact s24 _ _ (kp c o h cd), putS bs P1.2.1 (V.ref t4), by rw [zab, zdM], zew k2 _ _, ?_, ?_, fun f => ?_⟩⟩
      · have := zhK bs P1.2.1 (V.ref t4); omega
      · rw [zaq ew]
        unfold zct at k4 ⊢
        rw [List.any_append, k4]
        simp only [List.any_cons, List.any_nil, Bool.or_false, Bool.false_or]
        unfold zdi
        cases hs : zaj w1 P1.2.1 with
        | none => rfl
        | some s =>
         rw [hs] at esp
         obtain rfl : s = sp := esp
         simpa using ap
      · rw [zaq ew, zbV _ _ _ fr, zkK]
        by_cases hf : f = P1.2.1
        · subst hf
          rw [if_pos rfl, if_pos rfl]
          have em : metO (zaj w1 P1.2.1) (some P1.2.2) = some (mLo sp.1 P1.2.2.1, mHi sp.2 P1.2.2.2) := by
           cases hs : zaj w1 P1.2.1 with
           | none => rw [hs] at esp; subst esp; rfl
           | some s => rw [hs] at esp; obtain rfl : s = sp := esp; rfl
          rw [em]
          exact ⟨t4, rfl, by rw [zak td]; exact e4⟩
        · rw [if_neg hf, if_neg hf]
          have := k5 f
          cases hs : metO (zaj w1 f) (zaj ((ps.map (·.2)).take i) f) with
          | none => rw [hs] at this; exact this
          | some s =>
           rw [hs] at this
           obtain ⟨t, t1, t2⟩ := this
           exact ⟨t, t1, by rw [zak (zdc (s24 _ _ t2) k14 (by intro z; cases z))]; exact s24 _ _ t2⟩
 · rintro σ H2 ⟨⟨y3, y4, y5, y6, rfl⟩, kp, bs, k1, k2, k3, k4, k5⟩
   have et : (ps.map (·.2)).take (ps.map fun p => V.ref p.1).length = ps.map (·.2) := List.take_of_length_le (by simp)
   rw [et] at k4 k5
   have lb : bs.length ≤ 60 := by simp at k3 hl; omega
   have sH2 : Same H H2 := fun c o h => kp _ _ (s1 _ _ h) (fun e => by rw [e, n1] at h; cases h)
   refine ⟨_, rfl, d, kvS bs, bs.map (·.1), rfl, .inl k1, zh0 bs, (by rw [List.length_map]; omega), fun z ms mp mn mso hz => ?_⟩
   have sz := zae hz (.lst (ms.map V.str))
   have lms : ms.length = bs.length := by have := mp.length_eq; simpa using this
   have hk : ∀ f, f ∈ ms ↔ (metO (zaj w1 f) (zaj (ps.map (·.2)) f)).isSome = true := fun f => by
    rw [mp.mem_iff, zkL]
    have := k5 f
    cases hs : metO (zaj w1 f) (zaj (ps.map (·.2)) f) with
    | none => rw [hs] at this; rw [show getS bs f = none from this]; simp
    | some s => rw [hs] at this; obtain ⟨t, t1, _⟩ := this; rw [t1]; simp
   have im : IsMet w1 (ps.map (·.2)) (zfj w1 (ps.map (·.2)) ms) := zkI (zc5 mso mn) hk (by simp at k3 ⊢; omega)
   have mk : (zfj w1 (ps.map (·.2)) ms).map (·.1) = ms := by
    unfold zfj
    rw [List.map_map]
    exact List.map_id _
   refine ⟨z, rfl, ⟨_, SqL.of zab⟩, fun p hp => ?_⟩
   refine zkC (cap := [some (.ref d)]) (zfj w1 (ps.map (·.2)) ms) (by unfold zfj; rw [List.length_map]; omega) (by rw [mk]; exact SqL.of zab) hp rfl ?_ ?_
   · intro x hx H' R s' hR
     have kd := s' _ _ (sz _ _ k1)
     obtain ⟨f, hf, rfl⟩ := List.mem_map.mp hx
     have hso := (hk f).mp hf
     have kf := k5 f
     obtain ⟨tt, t1, t2⟩ : ∃ t, getS bs f = some (.ref t) ∧ H2 t = some (.tup [eV (ziC w1 (ps.map (·.2)) f).1, eV (ziC w1 (ps.map (·.2)) f).2]) := by
      unfold ziC
      cases hs : metO (zaj w1 f) (zaj (ps.map (·.2)) f) with
      | none => rw [hs] at hso; cases hso
      | some s => rw [hs] at kf; exact kf
     have gd : DGet H' d (.str f) (some (.ref tt)) := by
      have := DGet.k (k := Sum.inr f) kd
      rw [zb2, t1] at this
      exact this
     have t3 := s' _ _ (sz _ _ t2)
     exact ⟨_, rfl, _, rfl, _, rfl, d, _, rfl, gd, tt, _, 0, _, rfl, rfl, SqT.of t3, rfl, _, rfl, _, rfl, d, _, rfl, gd, tt, _, 1, _, rfl, rfl, SqT.of t3, rfl, zq3, hR⟩
   intro H3 qs s3 q1 q2 q3
   refine ⟨p, _, rfl, .inl ⟨SqL.of q2, fun t ht => ?_⟩⟩
   have st := zae ht (.tup (qs.map fun q => V.ref q.1))
   exact qS k4 t _ _ im (sH2.trans (sz.trans (s3.trans st))) ⟨qs, q1, zab, fun q hq => st _ _ (q3 q hq)⟩
theorem zg1 (F : Fun K "wish_met" "wish_met" zcL f fd) (G_check_wish : Γ11 P w K mg base) (G_wish_shared : Γ22 P w K mg base) : FnOk P w K mg base CX0 7 f fd ["one", "other"] (zet) := by
 refine F.ok zgM (fun vs H Q E h => ?_) (fun cdv A outer s H vs Q E hr h => ?_)
 · obtain ⟨a, b, w1, w2, rfl, hw1, hw2, ok1, ok2, hl, qN, qS⟩ := h
   rfl
 obtain ⟨a, b, w1, w2, rfl, hw1, hw2, ok1, ok2, hl, qN, qS⟩ := h
 refine ⟨_, (zad (za2 (zar G_check_wish (hr.mono (by decide)) rfl (zaa (pv 0) zac)))
  (zad (za2 (zar G_check_wish (hr.mono (by decide)) rfl (zaa (pv 1) zac)))
  (zag (zal (zar G_wish_shared (hr.mono (by decide)) rfl (zaa (pv 0) (zaa (pv 1) zac))))))), ?_⟩
 refine ⟨_, rfl, a, w1, rfl, hw1, ok1, fun H1 s1 => ?_⟩
 refine ⟨_, rfl, b, w2, rfl, hw2.same s1, ok2, fun H2 s2 => ?_⟩
 have t2 := s1.trans s2
 exact ⟨_, rfl, _, rfl, a, b, w1, w2, rfl, hw1.same t2, hw2.same t2, ok1, ok2, hl, fun h H3 s3 => qN h _ (t2.trans s3), fun h r m H3 im s3 hm => qS h r m _ im (t2.trans s3) hm⟩
theorem zdE (F : Fun K "parting_piece" "parting_piece" zbi f fd) (G_check_wish : Γ11 P w K mg base) (G_wish_reaches : Γ20 P w K mg base) (G_spans_by_field : Γ18 P w K mg base) (G_number_apart : Γ6 P w K mg base) (G_number_of : Γ5 P w K mg base) : FnOk P w K mg base CX0 7 f fd ["one", "other"] (zdU) := by
 refine F.ok sc_parting_piece (fun vs H Q E h => ?_) (fun cdv A outer s H vs Q E hr h => ?_)
 · obtain ⟨a, b, w', w2, rfl, hw, hw2, ok1, ok2, qT, qF⟩ := h
   rfl
 obtain ⟨a, b, w', w2, rfl, hw, hw2, ok1, ok2, qT, qF⟩ := h
 refine ⟨_, (zad (za2 (zar G_check_wish (hr.mono (by decide)) rfl (zaa (pv 0) zac)))
  (zad (za2 (zar G_check_wish (hr.mono (by decide)) rfl (zaa (pv 1) zac)))
  (zad (zaF (zaQ (zar G_wish_reaches (hr.mono (by decide)) rfl (zaa (pv 1) (zaa (pv 0) zac)))) (zag (zal za5)) zap)
  (zad (zaw (i := 2) sc_parting_piece.nd rfl (Or.inl rfl) (zar G_spans_by_field (hr.mono (by decide)) rfl (zaa (pv 1) zac)))
  (zad (zaw (i := 3) sc_parting_piece.nd rfl (Or.inl rfl) (za6 zac))
  (zad (zbl PassesOwn.never rfl (zbX (pv 0)) (zca rfl (zan (zai (i := 4) sc_parting_piece.nd rfl (Or.inl rfl)) (zan (zai (i := 5) sc_parting_piece.nd rfl (Or.inl rfl)) (zan (zai (i := 6) sc_parting_piece.nd rfl (Or.inl rfl)) zaS)))) (zad (zaw (i := 7) sc_parting_piece.nd rfl (Or.inl rfl) (zar G_number_apart (hr.mono (by decide)) rfl (zaa (zay (zaa (pv 5) (zaa (pv 6) zac))) (zaa (zhO (zci hr) (pv 2) (pv 4) (zay (zaa za5 (zaa za5 zac))) ⟨rfl, rfl, rfl, rfl⟩) zac))))
  (zad (zaF (zaK (zbL (pv 7))) (zag (zaw (i := 7) sc_parting_piece.nd rfl (Or.inl rfl) (zar G_number_of (hr.mono (by decide)) rfl (zaa (zay (zaa (pv 5) (zaa (pv 6) zac))) zac)))) zap)
  (zag (za2 (zdq PySem.F.plainAttrs_list PySem.F.slot_list_append PySem.F.type_list_append zbm (pv 3) (zaa (zay (zaa (pv 4) (zaa (pv 7) zac))) zac)))))))
  (zag (zal (za7 zaO rfl B.tuple_ zbb (zaa (pv 3) zac)))))))))), ?_⟩
 refine ⟨_, rfl, a, w', rfl, hw, ok1, fun H1 s1 => ?_⟩
 refine ⟨_, rfl, b, w2, rfl, hw2.same s1, ok2, fun H2 s2 => ?_⟩
 have t2 := s1.trans s2
 refine ⟨_, rfl, _, rfl, b, a, w2, w', rfl, hw2.same t2, hw.same t2, ok1, fun H3 s3 => ⟨_, rfl, ?_⟩⟩
 have t3 := t2.trans s3
 cases hb : zcs w2 w' with
 | true => exact iteT (qT hb _ t3)
 | false =>
  refine iteF ⟨_, rfl, b, w2, rfl, hw2.same t3, ok2, fun d H4 s4 n4 D4 => ?_⟩
  have t4 := t3.trans s4
  refine ⟨sz0, fun l hl => ?_⟩
  have s5 := zae hl (.lst [])
  have hd5 := D4.sp.same s5
  have nl : H l = none := zhc t4 hl
  have ll := ok1.len
  obtain ⟨ps, rfl, hA, hP⟩ := hw.same (t4.trans s5)
  rw [List.length_map] at ll
  have e5 : (upd H4 l (.lst [])) l = some (.lst []) := zab
  have t5 := t4.trans s5
  have d5 : ∃ kvs, (upd H4 l (.lst [])) d = some (.dK kvs) := let ⟨kvs, e, _⟩ := hd5; ⟨kvs, e⟩
  generalize upd H4 l (.lst []) = H5 at *
  refine ⟨_, rfl, a, rfl, ⟨_, SqT.of hA⟩, zc3 (K := K) (a := a) (xs := ps.map fun p => V.ref p.1) (fun i σ H' => (∃ y5 y6 y7 y4, σ = [some (.ref a), some (.ref b), some (.ref d), some (.ref l), y4, y5, y6, y7]) ∧ Same H H' ∧ (∀ c xs, H5 c = some (.tup xs) → H' c = some (.tup xs)) ∧ DictSp H' d w2 ∧ ∃ qs : List (Addr × PP), H' l = some (.lst (qs.map fun q => V.ref q.1)) ∧ qs.map (·.2) = zjm ((ps.map (·.2)).take i) w2 ∧ ∀ q ∈ qs, H' q.1 = some (.tup [.str q.2.1, .int q.2.2])) ?_ ?_ ?_ ?_⟩
  · exact ⟨⟨none, none, none, none, rfl⟩, t5, fun c xs h => h, hd5, [], e5, rfl, fun q hq => by simp at hq⟩
  · rintro i σ H' _ ⟨_, _, s, _⟩
    exact SqT.of (s _ _ hA)
  · rintro i x σ H6 hx ⟨⟨y5, y6, y7, y4, rfl⟩, s6, c6, D6, qs, f6, g6, h6⟩
    rw [List.getElem?_map] at hx
    cases e1 : ps[i]? with
    | none => rw [e1] at hx; cases hx
    | some P1 =>
     rw [e1] at hx
     obtain rfl : V.ref P1.1 = x := Option.some.inj hx
     have hm := List.mem_of_getElem? e1
     have li := (List.getElem?_eq_some_iff.mp e1).1
     have ew : (ps.map (·.2))[i]? = some P1.2 := by rw [List.getElem?_map, e1]; rfl
     have lq : qs.length = i := by
      have := congrArg List.length g6
      unfold zjm at this
      simp at this
      omega
     refine ⟨P1.1, _, rfl, SqT.of (c6 _ _ (hP P1 hm)), rfl, _, _, rfl, _, _, rfl, _, _, rfl, rfl, ?_⟩
     refine ⟨_, rfl, _, rfl, zq2, fun u hu => ?_⟩
     have su := zae hu (.tup [eV P1.2.2.1, eV P1.2.2.2])
     have eu : (upd H6 u (.tup [eV P1.2.2.1, eV P1.2.2.2])) u = some (.tup [eV P1.2.2.1, eV P1.2.2.2]) := zab
     have D7 := D6.same su
     have f7 := su _ _ f6
     generalize upd H6 u (.tup [eV P1.2.2.1, eV P1.2.2.2]) = H7 at *
     obtain ⟨kvs, k1, k2, k3⟩ := id D7
     refine ⟨_, rfl, d, rfl, .inl ⟨kvs, .inl k1⟩, _, rfl, zq2, fun v hv => ?_⟩
     have sv := zae hv (.tup [V.non, V.non])
     have ev : (upd H7 v (.tup [V.non, V.non])) v = some (.tup [V.non, V.non]) := zab
     have eu8 := sv _ _ eu
     have f8 := sv _ _ f7
     have D8 := D7.same sv
     have k8 := sv _ _ k1
     generalize upd H7 v (.tup [V.non, V.non]) = H8 at *
     have s68 := su.trans sv
     have kf := k3 P1.2.1
     have gd := DGet.k (k := Sum.inr P1.2.1) k8
     obtain ⟨sp, esp, tt, ett, htt⟩ : ∃ sp : Option Int × Option Int, (zaj w2 P1.2.1).getD (none, none) = sp ∧ ∃ tt, (valV kvs (Sum.inr P1.2.1 : Key)).getD (.ref v) = .ref tt ∧ H8 tt = some (.tup [eV sp.1, eV sp.2]) := by
      cases hs : zaj w2 P1.2.1 with
      | none => rw [hs] at kf; rw [kf]; exact ⟨(none, none), rfl, v, rfl, ev⟩
      | some sp => rw [hs] at kf; obtain ⟨t, z1, z2⟩ := kf; rw [z1]; exact ⟨sp, rfl, t, rfl, sv _ _ z2⟩
     refine ⟨_, gd, ?_⟩
     rw [ett]
     refine ⟨.ref u, .ref tt, P1.2.2.1, P1.2.2.2, sp.1, sp.2, rfl, ⟨u, rfl, eu8⟩, ⟨tt, rfl, htt⟩, fun H9 s9 => ?_⟩
     have t9 := s6.trans (s68.trans s9)
     have s69 := s68.trans s9
     have f9 := s9 _ _ f8
     have D9 := D8.same s9
     have fin : ∀ (n : Int) (H10 : Hp) (y7' : Option V), n = zeB w2 P1.2 → Same H9 H10 → ∀ t, H10 t = none → Tups H5 (upd (upd H10 t (.tup [.str P1.2.1, .int n])) l (.lst (qs.map (fun q => V.ref q.1) ++ [V.ref t]))) ∧ Same H (upd (upd H10 t (.tup [.str P1.2.1, .int n])) l (.lst (qs.map (fun q => V.ref q.1) ++ [V.ref t]))) ∧
      DictSp (upd (upd H10 t (.tup [.str P1.2.1, .int n])) l (.lst (qs.map (fun q => V.ref q.1) ++ [V.ref t]))) d w2 ∧ (upd H10 t (.tup [.str P1.2.1, .int n])) l = some (.lst (qs.map fun q => V.ref q.1)) ∧ ∃ qs' : List (Addr × PP), (upd (upd H10 t (.tup [.str P1.2.1, .int n])) l (.lst (qs.map (fun q => V.ref q.1) ++ [V.ref t]))) l = some (.lst (qs'.map fun q => V.ref q.1)) ∧ qs'.map (·.2) = zjm ((ps.map (·.2)).take (i + 1)) w2 ∧ ∀ q ∈ qs', (upd (upd H10 t (.tup [.str P1.2.1, .int n])) l (.lst (qs.map (fun q => V.ref q.1) ++ [V.ref t]))) q.1 = some (.tup [.str q.2.1, .int q.2.2]) := by
      intro n H10 _ en s10 t ht
      have st := zae ht (.tup [V.str P1.2.1, V.int n])
      have s9t := s10.trans st
      have fl := s9t _ _ f9
      have tl : Tups (upd H10 t (.tup [V.str P1.2.1, V.int n])) (upd (upd H10 t (.tup [V.str P1.2.1, V.int n])) l (.lst (qs.map (fun q => V.ref q.1) ++ [V.ref t]))) := zaY fl
      have all : Tups H6 (upd (upd H10 t (.tup [V.str P1.2.1, V.int n])) l (.lst (qs.map (fun q => V.ref q.1) ++ [V.ref t]))) := (s69.trans s9t).tups.trans tl
      refine ⟨fun c xs h => all _ _ (c6 c xs h), za1 (t9.trans s9t) nl, ?_, fl, qs ++ [(t, P1.2.1, n)], ?_, ?_, ?_⟩
      · obtain ⟨kv, q1, q2, q3⟩ := D9.same s9t
        have dl : d ≠ l := zdc q1 fl (by intro z; cases z)
        refine ⟨kv, by rw [zak dl]; exact q1, q2, fun f => ?_⟩
        have := q3 f
        cases hs : zaj w2 f with
        | none => rw [hs] at this; exact this
        | some sp => rw [hs] at this; obtain ⟨z, z1, z2⟩ := this; exact ⟨z, z1, tl _ _ z2⟩
      · rw [zab, List.map_append]; rfl
      · rw [List.map_append, g6, zaq ew]
        unfold zjm
        rw [List.map_append, en]
        rfl
      · intro q hq
        rcases List.mem_append.mp hq with z | z
        · exact all _ _ (h6 q z)
        · rw [List.mem_singleton.mp z]
          exact tl _ _ zab
     refine ⟨_, rfl, _, rfl, ?_⟩
     cases en : zaL P1.2.2.1 P1.2.2.2 sp.1 sp.2 with
     | some n =>
      have fn := zha esp en
      refine iteF ⟨_, rfl, .inl ⟨rfl, _, SqL.of f9⟩, _, rfl, _, rfl, zq2, fun t ht => ?_⟩
      obtain ⟨r1, r2, r3, r4, r5⟩ := fin n H9 none fn.symm (Same.refl _) t ht
      exact ⟨l, _, _, rfl, rfl, r4, (by rw [List.length_map, lq]; exact zao (by omega)), ⟨_, _, _, _, rfl⟩, r2, r1, r3, r5⟩
     | none =>
      have fn := zhb esp en
      refine iteT ⟨_, rfl, _, rfl, zq2, fun z hz => ?_⟩
      have sz := zae hz (.tup [eV P1.2.2.1, eV P1.2.2.2])
      refine ⟨.ref z, P1.2.2.1, P1.2.2.2, rfl, ⟨z, rfl, zab⟩, ?_⟩
      refine ⟨_, rfl, .inl ⟨rfl, _, SqL.of (sz _ _ f9)⟩, _, rfl, _, rfl, zq2, fun t ht => ?_⟩
      obtain ⟨r1, r2, r3, r4, r5⟩ := fin _ _ none fn.symm sz t ht
      exact ⟨l, _, _, rfl, rfl, r4, (by rw [List.length_map, lq]; exact zao (by omega)), ⟨_, _, _, _, rfl⟩, r2, r1, r3, r5⟩
  · rintro σ H6 ⟨⟨y5, y6, y7, y4, rfl⟩, s6, c6, D6, qs, f6, g6, h6⟩
    rw [show (ps.map (·.2)).take (ps.map fun p => V.ref p.1).length = ps.map (·.2) from List.take_of_length_le (by simp)] at g6
    refine ⟨_, rfl, l, _, rfl, .inl ⟨SqL.of f6, fun r hr' => ?_⟩⟩
    have sr := zae hr' (.tup (qs.map fun q => V.ref q.1))
    exact qF hb r _ (s6.trans sr) ⟨qs, g6, zab, fun q hq => sr _ _ (h6 q hq)⟩
theorem ziv (F : Fun K "_law_bag" "_law_bag" zcd f fd)  : FnOk P w K mg base CX0 1 f fd ["script"] (zli K) := by
 refine F.ok sc_law_bag (fun vs H Q E h => ?_) (fun cdv A outer s H vs Q E hr h => ?_)
 · obtain ⟨a, ns, rfl, hS, h63, q⟩ := h
   rfl
 obtain ⟨a, ns, rfl, hS, h63, q⟩ := h
 refine ⟨_, (zad (zc9 (N' := ["cell"]) (js := [none]) (i := 1) sc_law_bag.nd rfl (Or.inl rfl) rfl (zbZ (N := ["script", "great", "lesser", "stir", "cell"]) (outer := zah zcd) (by decide +kernel)) (zaR (ze9 zi3 (pv 0) zgY (zgX zaf))) (fun _ _ _ _ _ => (zai (i := 0) (show List.Nodup (["cell"] : List Str) by decide +kernel) rfl (Or.inl rfl))) (fun _ _ _ _ _ => zb9 (zas zmL (pv 0) (zaA zbG zaf zaf) (zau _))) (fun _ _ _ _ _ => (zaA zch (pv 0) (zaA zbG zaf zaf))))
  (zad (zc9 (N' := ["cell"]) (js := [none]) (i := 2) sc_law_bag.nd rfl (Or.inl rfl) rfl (zbZ (N := ["script", "great", "lesser", "stir", "cell"]) (outer := zah zcd) (by decide +kernel)) (zaR (ze9 zi3 (pv 0) zgY (zgX zaf))) (fun _ _ _ _ _ => (zai (i := 0) (show List.Nodup (["cell"] : List Str) by decide +kernel) rfl (Or.inl rfl))) (fun _ _ _ _ _ => zb9 (zas zjn (pv 0) (zaA zbG zaf zaf) (zau _))) (fun _ _ _ _ _ => (zaA zeA (pv 0) (zaA zbG zaf zaf))))
  (zad (zaw (i := 3) sc_law_bag.nd rfl (Or.inl rfl) zaf)
  (zad (zbl PassesOwn.never rfl (zaR (pv 2)) (zai (i := 4) sc_law_bag.nd rfl (Or.inl rfl)) (zag (zaw (i := 3) sc_law_bag.nd rfl (Or.inl rfl) (zaA zeA (zaA zbG (zaA zbM (zaA zbM (pv 3) (pv 4)) zaf) zaf) zaf))))
  (zag (zal (za6 (zaa (pv 1) (zaa (zaA zhR (pv 2) (za6 (zaa zaf zac))) (zaa zaf (zaa (pv 3) zac))))))))))), ?_⟩
 have e18 : (10 : Int) ^ (18 : Int).toNat = 10 ^ 18 := by decide
 have cut : cutV (ns.map V.int) none (some 63) = ns.map V.int := by
  unfold cutV
  rw [show HT.sIx (ns.map V.int).length 0 none = 0 from rfl, show HT.sIx (ns.map V.int).length (ns.map V.int).length (some 63) = min 63 (ns.map V.int).length from HT.sIx_nat _ _ 63]
  rw [List.drop_zero]
  exact List.take_of_length_le (by rw [List.length_map]; omega)
 refine ⟨_, rfl, _, rfl, a, _, rfl, hS, fun p1 hp1 => ⟨p1, rfl, ⟨_, SqL.of zab⟩, fun p hp => ?_⟩⟩
 refine zjH (cap := []) ns (fun n => n - 10 ^ (18 : Int).toNat) (fun n => decide ((10 : Int) ^ (18 : Int).toNat ≤ n)) (by omega) (SqL.of (by rw [zab, cut])) hp ?_ ?_ ?_ ?_
 · rfl
 · exact fun n H' R s r => ⟨_, rfl, _, _, rfl, rfl, pw10 (by decide) (by decide), _, _, rfl, rfl, _, rfl, r⟩
 · exact fun n H' R s r => ⟨_, rfl, _, _, rfl, rfl, pw10 (by decide) (by decide), _, _, rfl, rfl, r⟩
 intro H1 s1 h1
 have t1 : Same H H1 := (zae hp1 _).trans s1
 have pn1 : H p = none := (zae hp1 _).free hp
 refine ⟨_, rfl, _, rfl, a, _, rfl, t1.seq hS, fun p2 hp2 => ⟨p2, rfl, ⟨_, SqL.of zab⟩, fun p' hp' => ?_⟩⟩
 refine zjH (cap := []) ns (fun n => n % 10 ^ (18 : Int).toNat) (fun n => decide (n < (10 : Int) ^ (18 : Int).toNat)) (by omega) (SqL.of (by rw [zab, cut])) hp' ?_ ?_ ?_ ?_
 · rfl
 · exact fun n H' R s r => ⟨_, rfl, _, _, rfl, rfl, pw10 (by decide) (by decide), _, _, rfl, rfl, _, rfl, r⟩
 · exact fun n H' R s r => ⟨_, rfl, _, _, rfl, rfl, pw10 (by decide) (by decide), _, _, rfl, rfl, (by show (0 : Int) < 10 ^ (18 : Int).toNat; decide), r⟩
 intro H2 s2 h2
 have t12 : Same H1 H2 := (zae hp2 _).trans s2
 have t2 : Same H H2 := t1.trans t12
 have g2 := t12 _ _ h1
 have lb : ∀ x ∈ (ns.filter fun n => decide (n < (10 : Int) ^ (18 : Int).toNat)).map (fun n => n % 10 ^ (18 : Int).toNat), 0 ≤ x ∧ x < 10 ^ 18 := fun x hx => by
  obtain ⟨y, _, rfl⟩ := List.mem_map.mp hx
  rw [e18]
  exact ⟨Int.emod_nonneg _ (by decide), Int.emod_lt_of_pos _ (by decide)⟩
 have ll := List.length_filter_le (fun n => decide (n < (10 : Int) ^ (18 : Int).toNat)) ns
 have gg := List.length_filter_le (fun n => decide ((10 : Int) ^ (18 : Int).toNat ≤ n)) ns
 generalize hls : (ns.filter fun n => decide (n < (10 : Int) ^ (18 : Int).toNat)).map (fun n => n % 10 ^ (18 : Int).toNat) = ls at *
 have lz : ls.length ≤ 63 := by rw [← hls, List.length_map]; omega
 have gz : ((ns.filter fun n => decide ((10 : Int) ^ (18 : Int).toNat ≤ n)).map fun n => n - 10 ^ (18 : Int).toNat).length ≤ 63 := by rw [List.length_map]; omega
 refine ⟨_, rfl, p', rfl, ⟨_, SqL.of h2⟩, zbz (K := K) (a := p') (xs := ls.map V.int) (fun i σ H' => ∃ (st : Int) (x4 : Option V), σ = [some (.ref a), some (.ref p), some (.ref p'), some (.int st), x4] ∧ H' = H2 ∧ 0 ≤ st ∧ st < bigM) ⟨5, none, rfl, rfl, by decide, by decide⟩ (fun i σ H' _ ⟨_, _, _, e, _⟩ => by rw [e]; exact SqL.of h2) ?_ ?_⟩
 · rintro i x σ H' hx ⟨st, x4, rfl, rfl, z0, z1⟩
   rw [List.getElem?_map] at hx
   cases hn : ls[i]? with
   | none => rw [hn] at hx; cases hx
   | some y =>
    rw [hn] at hx
    obtain rfl : V.int y = x := Option.some.inj hx
    obtain ⟨y0, y1⟩ := lb y (List.mem_of_getElem? hn)
    have big : (st + y + 1).natAbs < 2 ^ 1000 := by
     have : (st + y + 1).natAbs < 2 ^ 100 := by unfold bigM at z1; omega
     exact Nat.lt_of_lt_of_le this (by decide)
    refine ⟨_, rfl, _, rfl, _, _, rfl, rfl, _, _, rfl, rfl, _, _, rfl, rfl, ⟨by decide, by decide, big⟩, _, _, rfl, rfl, (by show (0 : Int) < 618970019642690137449562111; decide), _, _, rfl, rfl, Int.emod_nonneg _ (by decide), Int.emod_lt_of_pos _ (by decide)⟩
 · rintro σ H' ⟨st, x4, rfl, rfl, z0, z1⟩
   refine ⟨_, rfl, _, rfl, (by show 1 ≤ sizeLine; decide), fun p3 hp3 => ?_⟩
   have s3 := zae hp3 (.lst [V.int 0])
   refine ⟨p', p3, _, _, rfl, rfl, s3 _ _ h2, zab, (by rw [List.length_map, List.length_singleton]; exact zgK (by omega)), fun p4 hp4 => ?_⟩
   have s4 := zae hp4 (.lst (ls.map V.int ++ [V.int 0]))
   refine ⟨_, rfl, (by show 4 ≤ sizeLine; decide), fun p5 hp5 => ?_⟩
   have s5 := zae hp5 (.lst [V.ref p, V.ref p4, V.int 0, V.int st])
   have t5 : Same H' _ := s3.trans (s4.trans s5)
   have n4 : H' p4 = none := s3.free hp4
   refine q p5 p p4 _ ⟨⟨_, ls ++ [0], 0, st, zab, t5 _ _ g2, ?_, gz, by simp, by rw [List.length_append]; simp; omega, ?_, by decide, by decide, z0, z1⟩, ?_⟩ (t2.trans t5) (t2.free ((s3.trans s4).free hp5)) pn1
   · refine s5 _ _ ?_
     rw [zab, List.map_append]
     rfl
   · intro x hx
     rcases List.mem_append.mp hx with z | z
     · exact lb x z
     · rw [List.mem_singleton.mp z]; exact ⟨by decide, by decide⟩
   · exact zav g2 n4
theorem zg5 (F : Fun K "_law_draw" "_law_draw" zcP f fd)  : FnOk P w K mg base CX0 1 f fd ["bag", "many"] (zi0) := by
 refine F.ok sc_law_draw (fun vs H Q E h => ?_) (fun cdv A outer s H vs Q E hr h => ?_)
 · obtain ⟨b, g, l, n, many, rfl, Bg, hn, hm, hm2, q⟩ := h
   rfl
 obtain ⟨b, g, l, n, many, rfl, Bg, hn, hm, hm2, q⟩ := h
 refine ⟨_, (zad (zkr PassesOwn.never (PW.pt (zbJ (zas (zfP (zby hr)) (zaE zaJ (pv 0) zaf (fun _ _ => rfl)) (za6 zac) (zau _)) (zbk (zas zb0 (zaE zaJ (zaE zaJ (pv 0) zaf (fun _ _ => rfl)) zaf (fun _ _ => rfl)) zaf (zau _))))) (zag (za2 (zdq PySem.F.plainAttrs_list PySem.F.slot_list_pop PySem.F.type_list_pop zkz (zaE zaJ (pv 0) zaf (fun _ _ => rfl)) (zaa zaf zac)))))
  (zad (zaF (zas (zfP (zby hr)) (zaE zaJ (pv 0) zaf (fun _ _ => rfl)) (za6 zac) (zau _)) (zad (zaw (i := 2) sc_law_draw.nd rfl (Or.inl rfl) (zaA zeA (zaE zaJ (zaE zaJ (pv 0) zaf (fun _ _ => rfl)) zaf (fun _ _ => rfl)) (pv 1)))
  (zad (zcB (zaA zhQ (zaE zaJ (zaE zaJ (pv 0) zaf (fun _ _ => rfl)) zaf (fun _ _ => rfl)) (pv 1)) (zjk (zaE zaJ (pv 0) zaf (fun _ _ => rfl)) zaf zeY))
  (zag (zal (pv 2))))) zap)
  (zad (zcB (zaA zbM (zaE zaJ (pv 0) zaf (fun _ _ => rfl)) zaf) (zjk (pv 0) zaf zeY))
  (zad (zaw (i := 3) sc_law_draw.nd rfl (Or.inl rfl) (zaE zaJ (zaE zaJ (pv 0) zaf (fun _ _ => rfl)) (zaA zeA (zaE zaJ (pv 0) zaf (fun _ _ => rfl)) (zat zbe rfl B.len_ zdh (zaa (zaE zaJ (pv 0) zaf (fun _ _ => rfl)) zac))) (fun _ _ => rfl)))
  (zad (zcB (zaA zeA (zaA zbG (zaA zbM (zaE zaJ (pv 0) zaf (fun _ _ => rfl)) (zaA zez (zaA zbM (pv 3) (zaA zez zaf (zaE zaJ (pv 0) zaf (fun _ _ => rfl)))) (zaA zbM (zaA zez zaf (zaE zaJ (pv 0) zaf (fun _ _ => rfl))) zaf))) zaf) zaf) (zjk (pv 0) zaf zeY))
  (zag (zal (zaA zeA (zaA zhQ (zaE zaJ (pv 0) zaf (fun _ _ => rfl)) zaf) (pv 1))))))))), ?_⟩
 refine zid (fun m σ H1 => σ = [some (.ref b), some (.int many), none, none] ∧ Bag H1 b g l n ∧ SameB b g H H1 ∧ ∃ gs : List Int, H1 g = some (.lst (gs.map V.int)) ∧ gs.length = m)
  (fun σ H1 => σ = [some (.ref b), some (.int many), none, none] ∧ Bag H1 b g l n ∧ SameB b g H H1) ?_ ?_ ?_
 · obtain ⟨gs, ls, c, st, e1, e2, _⟩ := Bg.ex
   exact ⟨_, rfl, Bg, SameB.refl _ _ _, gs, e2, rfl⟩
 · rintro m σ H1 Z ⟨rfl, B1, S1, gs, e2, rfl⟩ hZ
   obtain ⟨gs', ls, c, st, e1, e2', e3, z1, z2, z3, z4, z5, z6, z7, z8⟩ := id B1.ex
   obtain rfl : gs = gs' := by
    rw [e2] at e2'
    injection e2' with e2'
    injection e2' with e2'
    exact (List.map_inj_right (fun _ _ z => by injection z)).mp e2'
   refine ⟨_, rfl, b, _, 0, _, rfl, rfl, SqL.of e1, rfl, sz0, fun p hp => ?_⟩
   have s1 := zae hp (.lst [])
   refine zky (SqL.of (s1 _ _ e2)) (SqL.of zab) ⟨_, rfl, ?_⟩
   cases gs with
   | nil => exact iteF (iteF (hZ _ _ ⟨rfl, B1.same s1, S1.trans s1.sameB⟩))
   | cons x r =>
    refine iteT ?_
    refine ⟨_, rfl, b, _, 0, _, rfl, rfl, SqL.of (s1 _ _ e1), rfl, g, _, 0, _, rfl, rfl, SqL.of (s1 _ _ e2), at0, rfl, _, rfl, ?_⟩
    refine ite2 (fun hx => ?_) (fun hx => ?_)
    · refine ⟨fun σ H2 => σ = [some (.ref b), some (.int many), none, none] ∧ Bag H2 b g l n ∧ SameB b g H H2 ∧ ∃ gs : List Int, H2 g = some (.lst (gs.map V.int)) ∧ gs.length = r.length, fun σ H2 z => ⟨r.length, Nat.lt_succ_self _, z⟩, ?_⟩
      refine ⟨_, rfl, b, _, 0, _, rfl, rfl, SqL.of (s1 _ _ e1), rfl, .inl ⟨rfl, _, SqL.of (s1 _ _ e2)⟩, g, _, 0, 0, _, rfl, rfl, s1 _ _ e2, by decide, by decide, (zhn (ix0 (x := V.int x) (r := r.map V.int))).1, rfl, ?_⟩
      have e4 : (upd (upd H1 p (.lst [])) g (.lst (((x :: r).map V.int).eraseIdx 0))) g = some (.lst (r.map V.int)) := zab
      refine ⟨rfl, ⟨⟨r, ls, c, st, ?_, e4, ?_, ?_, z2, z3, z4, z5, z6, z7, z8⟩, B1.gl⟩, ?_, r, e4, rfl⟩
      · rw [zak B1.bg]; exact s1 _ _ e1
      · rw [zak (Ne.symm B1.gl)]; exact s1 _ _ e3
      · simp only [List.length_cons] at z1; omega
      · intro a o h1 h2 h3
        rw [zak h3]
        exact s1 _ _ (S1 a o h1 h2 h3)
    · exact hZ _ _ ⟨rfl, B1.same s1, S1.trans s1.sameB⟩
 · rintro σ H1 ⟨rfl, B1, S1⟩
   obtain ⟨gs, ls, c, st, e1, e2, e3, z1, z2, z3, z4, z5, z6, z7, z8⟩ := id B1.ex
   refine ⟨_, rfl, b, _, 0, _, rfl, rfl, SqL.of e1, rfl, sz0, fun p hp => ?_⟩
   have s1 := zae hp (.lst [])
   have B2 := B1.same s1
   have e1' := s1 _ _ e1
   have e2' := s1 _ _ e2
   have e3' := s1 _ _ e3
   refine zky (SqL.of e2') (SqL.of zab) ⟨_, rfl, ?_⟩
   generalize upd H1 p (.lst []) = H2 at *
   have S2 : SameB b g H H2 := S1.trans s1.sameB
   clear s1
   cases gs with
   | cons x r =>
    refine iteT ?_
    refine ⟨_, rfl, b, _, 0, _, rfl, rfl, SqL.of e1', rfl, g, _, 0, _, rfl, rfl, SqL.of e2', at0, _, rfl, _, _, rfl, rfl, hm, ?_⟩
    refine ⟨_, rfl, b, _, 0, _, rfl, rfl, SqL.of e1', rfl, g, _, 0, _, rfl, rfl, SqL.of e2', at0, _, rfl, _, _, rfl, rfl, ⟨hm, Int.lt_of_lt_of_le hm2 (by decide)⟩, ?_⟩
    refine ⟨_, rfl, b, _, 0, _, rfl, rfl, SqL.of e1', rfl, g, _, 0, 0, rfl, rfl, e2', ix0, ?_⟩
    refine ⟨_, rfl, ?_⟩
    refine q _ _ (Int.emod_nonneg _ (by omega)) (Int.emod_lt_of_pos _ hm) ⟨⟨x / many :: r, ls, c, st, ?_, ?_, ?_, z1, z2, z3, z4, z5, by omega, z7, z8⟩, B1.gl⟩ ?_
    · rw [zak B1.bg]; exact e1'
    · exact zab
    · rw [zak (Ne.symm B1.gl)]; exact e3'
    · intro a o h1 h2 h3
      rw [zak h3]
      exact S2 a o h1 h2 h3
   | nil =>
    refine iteF ?_
    refine ⟨_, rfl, b, _, 2, _, rfl, rfl, SqL.of e1', rfl, _, _, rfl, rfl, _, rfl, b, _, 2, 2, rfl, rfl, e1', rfl, ?_⟩
    have f1 : (upd H2 b (.lst ([V.ref g, V.ref l, V.int c, V.int st].set 2 (V.int (c + 1))))) b = some (.lst [V.ref g, V.ref l, V.int (c + 1), V.int st]) := zab
    have f2 : (upd H2 b (.lst ([V.ref g, V.ref l, V.int c, V.int st].set 2 (V.int (c + 1))))) g = some (.lst []) := by rw [zak (Ne.symm B1.bg)]; exact e2'
    have f3 : (upd H2 b (.lst ([V.ref g, V.ref l, V.int c, V.int st].set 2 (V.int (c + 1))))) l = some (.lst (ls.map V.int)) := by rw [zak (Ne.symm B1.bl)]; exact e3'
    have S3 : SameB b g H (upd H2 b (.lst ([V.ref g, V.ref l, V.int c, V.int st].set 2 (V.int (c + 1))))) := fun a o h1 h2 h3 => by rw [zak h2]; exact S2 a o h1 h2 h3
    generalize upd H2 b (.lst ([V.ref g, V.ref l, V.int c, V.int st].set 2 (V.int (c + 1)))) = H3 at *
    have lpos : (0 : Int) < ((ls.map V.int).length : Int) := by rw [List.length_map]; omega
    have i0 := Int.emod_nonneg (c + 1) (Int.ne_of_gt lpos)
    have i1 := Int.emod_lt_of_pos (c + 1) lpos
    obtain ⟨v, hv, hvm⟩ := zmu (ls := ls) i0 (by rw [List.length_map] at i1 ⊢; exact i1)
    obtain ⟨v0, v1⟩ := z4 v hvm
    refine ⟨_, rfl, b, _, 1, _, rfl, rfl, SqL.of f1, rfl, _, rfl, b, _, 2, _, rfl, rfl, SqL.of f1, rfl, _, rfl, b, _, 1, _, rfl, rfl, SqL.of f1, rfl, l, _, rfl, .inl (SqL.of f3), _, _, rfl, rfl, lpos, l, _, _, _, rfl, rfl, SqL.of f3, hv, ?_⟩
    have c1 : 0 ≤ c + 1 := by omega
    have c2 : c + 1 ≤ 2 ^ 41 := by omega
    refine ⟨_, rfl, b, _, 3, _, rfl, rfl, SqL.of f1, rfl, _, rfl, _, rfl, b, _, 2, _, rfl, rfl, SqL.of f1, rfl, _, _, rfl, rfl, .inl ⟨by decide, by decide⟩, _, _, rfl, rfl, _, rfl, b, _, 2, _, rfl, rfl, SqL.of f1, rfl, _, _, rfl, rfl, .inl ⟨by decide, by decide⟩, _, _, rfl, rfl, _, _, rfl, rfl, .inr ⟨by omega, by omega⟩, _, _, rfl, rfl, ?_⟩
    have big : (st + (v + 3 * (c + 1)) * (2 * (c + 1) + 1)).natAbs < 2 ^ 1000 := by
     have a1 : 0 ≤ v + 3 * (c + 1) := by omega
     have a2 : v + 3 * (c + 1) ≤ 2 ^ 61 := by omega
     have a3 : 0 ≤ 2 * (c + 1) + 1 := by omega
     have a4 : 2 * (c + 1) + 1 ≤ 2 ^ 43 := by omega
     have a5 : (v + 3 * (c + 1)) * (2 * (c + 1) + 1) ≤ 2 ^ 61 * 2 ^ 43 := Int.mul_le_mul a2 a4 a3 (by decide)
     have a6 : 0 ≤ (v + 3 * (c + 1)) * (2 * (c + 1) + 1) := Int.mul_nonneg a1 a3
     generalize (v + 3 * (c + 1)) * (2 * (c + 1) + 1) = y at *
     have a7 : st + y < 2 ^ 105 := by unfold bigM at z8; omega
     have a8 : (st + y).natAbs < 2 ^ 105 := by omega
     exact Nat.lt_of_lt_of_le a8 (by decide)
    refine ⟨_, _, rfl, rfl, ⟨by decide, by decide, big⟩, _, _, rfl, rfl, (by show (0 : Int) < 618970019642690137449562111; decide), ?_⟩
    dsimp only
    generalize (st + (v + 3 * (c + 1)) * (2 * (c + 1) + 1)) ^ (7 : Int).toNat = y
    refine ⟨_, rfl, b, _, 3, 3, rfl, rfl, f1, rfl, ?_⟩
    dsimp only
    have y0 := Int.emod_nonneg y (show (618970019642690137449562111 : Int) ≠ 0 by decide)
    have y1 := Int.emod_lt_of_pos y (show (0 : Int) < 618970019642690137449562111 by decide)
    generalize y % 618970019642690137449562111 = u at *
    have k1 : (upd H3 b (.lst ([V.ref g, V.ref l, V.int (c + 1), V.int st].set 3 (V.int u)))) b = some (.lst [V.ref g, V.ref l, V.int (c + 1), V.int u]) := zab
    refine ⟨_, rfl, b, _, 3, _, rfl, rfl, SqL.of k1, rfl, _, _, rfl, rfl, ⟨by decide, by decide⟩, _, rfl, _, _, rfl, rfl, hm, ?_⟩
    refine q _ _ (Int.emod_nonneg _ (by omega)) (Int.emod_lt_of_pos _ hm) ⟨⟨[], ls, c + 1, u, k1, ?_, ?_, z1, z2, z3, z4, c1, by omega, y0, y1⟩, B1.gl⟩ ?_
    · rw [zak (Ne.symm B1.bg)]; exact f2
    · rw [zak (Ne.symm B1.bl)]; exact f3
    · intro a o h1 h2 h3
      rw [zak h2]
      exact S3 a o h1 h2 h3
theorem zfc (F : Fun K "_law_number" "_law_number" zb4 f fd) (G_law_draw : Γ26 P w K mg base) : FnOk P w K mg base CX0 2 f fd ["bag"] (zeR) := by
 refine F.ok sc_law_number (fun vs H Q E h => ?_) (fun cdv A outer s H vs Q E hr h => ?_)
 · obtain ⟨b, g, l, n, rfl, Bg, hn, q⟩ := h
   rfl
 obtain ⟨b, g, l, n, rfl, Bg, hn, q⟩ := h
 refine ⟨_, (zad (zaw (i := 1) sc_law_number.nd rfl (Or.inl rfl) (zar G_law_draw (hr.mono (by decide)) rfl (zaa (pv 0) (zaa zaf zac))))
  (zad (zaF (zas zb0 (pv 1) zaf (zau _)) (zag (zal (zaA zch (zar G_law_draw (hr.mono (by decide)) rfl (zaa (pv 0) (zaa zaf zac))) zaf))) zap)
  (zad (zaF (zas zb0 (pv 1) zaf (zau _)) (zag (zal (zaA zch (zar G_law_draw (hr.mono (by decide)) rfl (zaa (pv 0) (zaa zaf zac))) zaf))) zap)
  (zad (zaF (zas zb0 (pv 1) zaf (zau _)) (zag (zal (zaA zez (zaE zaJ (za6 (zaa zaf (zaa (zmJ zlP zaf) zac))) (zar G_law_draw (hr.mono (by decide)) rfl (zaa (pv 0) (zaa zaf zac))) (fun _ _ => rfl)) (zaA zch (zaA zch (zaA zbG zaf zaf) zaf) (zar G_law_draw (hr.mono (by decide)) rfl (zaa (pv 0) (zaa zaf zac))))))) zap)
  (zad (zaw (i := 2) sc_law_number.nd rfl (Or.inl rfl) (zar G_law_draw (hr.mono (by decide)) rfl (zaa (pv 0) (zaa (zaA zbG zaf zaf) zac))))
  (zag (zal (zcp (zas zb0 (pv 1) zaf (zau _)) (pv 2) (zaA zch zaf (pv 2)))))))))), ?_⟩
 refine ⟨_, rfl, b, g, l, n, 5, rfl, Bg, by omega, by decide, by decide, fun c H1 c0 c1 B1 S1 => ?_⟩
 refine ⟨_, rfl, rfl, _, rfl, ite2 (fun _ => ?_) (fun _ => ?_)⟩
 · exact ⟨_, rfl, b, g, l, _, 9, rfl, B1, by omega, by decide, by decide, fun r H2 r0 r1 B2 S2 => ⟨_, _, rfl, rfl, q _ _ (by show -1000000000000000 < r - 4; omega) (by show r - 4 < 1000000000000000; omega) (B2.mono (by omega)) (S1.trans S2)⟩⟩
 refine ⟨_, rfl, rfl, _, rfl, ite2 (fun _ => ?_) (fun _ => ?_)⟩
 · exact ⟨_, rfl, b, g, l, _, 2000, rfl, B1, by omega, by decide, by decide, fun r H2 r0 r1 B2 S2 => ⟨_, _, rfl, rfl, q _ _ (by show -1000000000000000 < r - 1000; omega) (by show r - 1000 < 1000000000000000; omega) (B2.mono (by omega)) (S1.trans S2)⟩⟩
 refine ⟨_, rfl, rfl, _, rfl, ite2 (fun _ => ?_) (fun _ => ?_)⟩
 · refine ⟨_, rfl, zq2, fun p hp => ?_⟩
   have s1 := zae hp (.lst [V.int 1, V.int (-1)])
   obtain ⟨pb, pg, _⟩ := B1.free hp
   refine ⟨_, rfl, b, g, l, _, 2, rfl, B1.same s1, by omega, by decide, by decide, fun r H2 r0 r1 B2 S2 => ?_⟩
   have hr' : r = 0 ∨ r = 1 := by omega
   obtain ⟨v, hv, v0, v1⟩ : ∃ v, atI [V.int 1, V.int (-1)] r = some (.int v) ∧ -1 ≤ v ∧ v ≤ 1 ∧ (v = 1 ∨ v = -1) := by
    rcases hr' with rfl | rfl
    · exact ⟨1, rfl, by decide, by decide, .inl rfl⟩
    · exact ⟨-1, rfl, by decide, by decide, .inr rfl⟩
   refine ⟨p, _, _, _, rfl, rfl, SqL.of (S2 p _ zab pb pg), hv, _, _, rfl, rfl, pw10 (by decide) (by decide), _, _, rfl, rfl, _, rfl, b, g, l, _, 3, rfl, B2, by omega, by decide, by decide, fun r3 H3 r30 r31 B3 S3 => ?_⟩
   refine ⟨_, _, rfl, rfl, _, _, rfl, rfl, .inl ⟨by omega, by omega⟩, q _ _ ?_ ?_ (B3.mono (by omega)) ((S1.trans (s1.sameB.trans S2)).trans S3)⟩
   all_goals
    rw [e15]
    rcases v1.2 with rfl | rfl
    all_goals (unfold T15; omega)
 refine ⟨_, rfl, _, _, rfl, rfl, pw10 (by decide) (by decide), b, g, l, _, _, rfl, B1, by omega, by decide, by decide, fun r H2 r0 r1 B2 S2 => ?_⟩
 have r1 : r < T15 := by rw [← e15]; exact r1
 refine ⟨_, rfl, rfl, _, rfl, ite2 (fun _ => ⟨_, rfl, q _ _ (by unfold T15; omega) r1 (B2.mono (by omega)) (S1.trans S2)⟩) (fun _ => ⟨_, rfl, _, _, rfl, rfl, q _ _ (by unfold T15 at *; omega) (by unfold T15 at *; omega) (B2.mono (by omega)) (S1.trans S2)⟩)⟩
theorem zg4 (F : Fun K "_law_held" "_law_held" zcO f fd)  : FnOk P w K mg base CX0 1 f fd ["number"] (ziZ) := by
 refine F.ok zgN (fun vs H Q E h => ?_) (fun cdv A outer s H vs Q E hr h => ?_)
 · obtain ⟨i, rfl, q⟩ := h
   rfl
 obtain ⟨i, rfl, q⟩ := h
 refine ⟨_, (zag (zal (zat (zgn rfl) rfl B.max_ zkb (zaa (zaA zch zaf (zaA zbG zaf zaf)) (zaa (zat (zgm rfl) rfl B.min_ zka (zaa (zaA zch (zaA zbG zaf zaf) zaf) (zaa (pv 0) zac))) zac))))), ?_⟩
 exact ⟨_, _, rfl, rfl, pw10 (by decide) (by decide), _, _, rfl, rfl, _, _, rfl, rfl, pw10 (by decide) (by decide), _, _, rfl, rfl, _, rfl, _, _, rfl, _, _, rfl, q⟩
theorem zg3 (F : Fun K "_law_span" "_law_span" zcN f fd) (G_law_draw : Γ26 P w K mg base) (G_law_number : Γ27 P w K mg base) (G_law_held : Γ28 P w K mg base) : FnOk P w K mg base CX0 3 f fd ["bag"] (ziW) := by
 refine F.ok sc_law_span (fun vs H Q E h => ?_) (fun cdv A outer s H vs Q E hr h => ?_)
 · obtain ⟨b, g, l, n, rfl, Bg, hn, q⟩ := h
   rfl
 obtain ⟨b, g, l, n, rfl, Bg, hn, q⟩ := h
 refine ⟨_, (zad (zaw (i := 1) sc_law_span.nd rfl (Or.inl rfl) (zar G_law_draw (hr.mono (by decide)) rfl (zaa (pv 0) (zaa zaf zac))))
  (zad (zaw (i := 2) sc_law_span.nd rfl (Or.inl rfl) (zar G_law_number (hr.mono (by decide)) rfl (zaa (pv 0) zac)))
  (zad (zaF (zas zb0 (pv 1) zaf (zau _)) (zag (zal (zay (zaa za5 (zaa za5 zac))))) zap)
  (zad (zaF (zas zb0 (pv 1) zaf (zau _)) (zag (zal (zay (zaa za5 (zaa (pv 2) zac))))) zap)
  (zad (zaF (zas zb0 (pv 1) zaf (zau _)) (zag (zal (zay (zaa (pv 2) (zaa za5 zac))))) zap)
  (zad (zaF (zas zb0 (pv 1) zaf (zau _)) (zag (zal (zay (zaa (pv 2) (zaa (pv 2) zac))))) zap)
  (zad (zaF (zas zjn (pv 1) zaf (zau _)) (zag (zal (zay (zaa (pv 2) (zaa (zar G_law_held (hr.mono (by decide)) rfl (zaa (zaA zbM (zaA zbM (pv 2) zaf) (zar G_law_draw (hr.mono (by decide)) rfl (zaa (pv 0) (zaa zaf zac)))) zac)) zac))))) zap)
  (zad (zaw (i := 3) sc_law_span.nd rfl (Or.inl rfl) (zar G_law_number (hr.mono (by decide)) rfl (zaa (pv 0) zac)))
  (zag (zal (zay (zaa (zat (zgm rfl) rfl B.min_ zka (zaa (pv 2) (zaa (pv 3) zac))) (zaa (zat (zgn rfl) rfl B.max_ zkb (zaa (pv 2) (zaa (pv 3) zac))) zac))))))))))))), ?_⟩
 have fin : ∀ (lo hi : Option Int) (H2 : Hp), Bag H2 b g l (n + 8) → SameB b g H H2 → Good lo hi → ∀ t, H2 t = none → Q (.ref t) (upd H2 t (.tup [eV lo, eV hi])) := fun lo hi H2 B2 S2 G2 t ht =>
  q _ lo hi _ ⟨t, rfl, zab⟩ G2 (B2.same (zae ht _)) (S2.trans (zae ht _).sameB)
 have none_in : inT none := fun i z => by cases z
 refine ⟨_, rfl, b, g, l, n, 7, rfl, Bg, by omega, by decide, by decide, fun c H1 c0 c1 B1 S1 => ?_⟩
 refine ⟨_, rfl, b, g, l, _, rfl, B1, by omega, fun x H2 x0 x1 B2 S2 => ?_⟩
 have S3 := S1.trans S2
 have B3 : Bag H2 b g l (n + 8) := B2.mono (by omega)
 have x_in : inT (some x) := fun i z => by injection z with z; subst z; exact ⟨x0, x1⟩
 refine ⟨_, rfl, rfl, _, rfl, ite2 (fun _ => ⟨zq2, fin none none _ B3 S3 ⟨rfl, none_in, none_in⟩⟩) (fun _ => ?_)⟩
 refine ⟨_, rfl, rfl, _, rfl, ite2 (fun _ => ⟨_, rfl, zq2, fin none (some x) _ B3 S3 ⟨rfl, none_in, x_in⟩⟩) (fun _ => ?_)⟩
 refine ⟨_, rfl, rfl, _, rfl, ite2 (fun _ => ⟨_, rfl, zq2, fin (some x) none _ B3 S3 ⟨rfl, x_in, none_in⟩⟩) (fun _ => ?_)⟩
 refine ⟨_, rfl, rfl, _, rfl, ite2 (fun _ => ⟨_, rfl, _, rfl, zq2, fin (some x) (some x) _ B3 S3 ⟨decide_eq_true (Int.le_refl x), x_in, x_in⟩⟩) (fun _ => ?_)⟩
 refine ⟨_, rfl, _, _, rfl, rfl, _, rfl, ite2 (fun _ => ?_) (fun _ => ?_)⟩
 · refine ⟨_, rfl, _, rfl, _, _, rfl, rfl, _, rfl, b, g, l, _, 12, rfl, B2, by omega, by decide, by decide, fun r H4 r0 r1 B4 S4 => ?_⟩
   refine ⟨_, _, rfl, rfl, _, rfl, zq2, ?_⟩
   have hh := zh3 (x + 1 + r)
   refine fin (some x) (some (zho (x + 1 + r))) _ (B4.mono (by omega)) (S3.trans S4) ⟨decide_eq_true ?_, x_in, fun i z => ?_⟩
   · unfold T15 at *; omega
   · injection z with z; subst z; unfold T15 at *; omega
 · refine ⟨_, rfl, b, g, l, _, rfl, B2, by omega, fun y H4 y0 y1 B4 S4 => ?_⟩
   refine ⟨_, rfl, _, rfl, _, _, rfl, _, rfl, _, rfl, _, _, rfl, zq2, ?_⟩
   refine fin (some (if y < x then y else x)) (some (if y > x then y else x)) _ (B4.mono (by omega)) (S3.trans S4) ⟨decide_eq_true ?_, fun i z => ?_, fun i z => ?_⟩
   · split <;> split <;> omega
   · injection z with z; subst z; split <;> omega
   · injection z with z; subst z; split <;> omega
theorem zfT (F : Fun K "_law_whole" "_law_whole" zcl f fd)  : FnOk P w K mg base CX0 1 f fd ["found"] (zdm K) := by
 refine F.ok zfG (fun vs H Q E h => ?_) (fun cdv A outer s H vs Q E hr h => ?_)
 · obtain ⟨v, t, rfl, hty, q⟩ := h
   rfl
 obtain ⟨v, t, rfl, hty, q⟩ := h
 refine ⟨_, (zag (zal (zcG (zat (zaG (n := "")) rfl B.isinstance_ zaz (zaa (pv 0) (zaa (zbF (v := .ty "int") rfl B.int_ zh9 rfl) zac))) (zbK (zk2 (zat (zaG (n := "")) rfl B.isinstance_ zaz (zaa (pv 0) (zaa (zbF (v := .ty "bool") rfl B.bool_ zkc rfl) zac)))))))), ?_⟩
 cases hty
 all_goals first
  | exact ⟨_, rfl, _, "int", "int", true, rfl, .int _, rfl, _, rfl, iteT ⟨_, rfl, _, "int", "bool", false, rfl, .int _, rfl, _, rfl, q⟩⟩
  | exact ⟨_, rfl, _, "bool", "int", true, rfl, .bl _, rfl, _, rfl, iteT ⟨_, rfl, _, "bool", "bool", true, rfl, .bl _, rfl, _, rfl, q⟩⟩
  | exact ⟨_, rfl, _, _, "int", false, rfl, (by first | exact .non | exact .str _ | exact .flt _ | (exact .lst (by assumption)) | (exact .frz (by assumption)) | (exact .tup (by assumption)) | (exact .dK (by assumption)) | (exact .dT (by assumption))), rfl, _, rfl, iteF q⟩
theorem zjq (F : Fun K "_law_in" "_law_in" zdJ f fd)  : FnOk P w K mg base CX0 1 f fd ["span", "number"] (spIn) := by
 refine F.ok zi6 (fun vs H Q E h => ?_) (fun cdv A outer s H vs Q E hr h => ?_)
 · obtain ⟨v, lo, hi, k, rfl, S1, q⟩ := h
   rfl
 obtain ⟨v, lo, hi, k, rfl, S1, q⟩ := h
 refine ⟨_, (zad (zaF (PW.pt (zbJ (zaK (zaT (zaE za8 (pv 0) zaf (fun _ _ => rfl)))) (zbk (zas zjn (pv 1) (zaE za8 (pv 0) zaf (fun _ _ => rfl)) (zau _))))) (zag (zal zbQ)) zap)
  (zag (zal (zfN (zcF (zbL (zaE za8 (pv 0) zaf (fun _ _ => rfl)))) (zbK (zbq zg0 (pv 1) (zaE za8 (pv 0) zaf (fun _ _ => rfl)) (zau _))))))), ?_⟩
 obtain ⟨a, rfl, e1⟩ := S1
 refine ⟨_, rfl, a, _, 0, _, rfl, rfl, SqT.of e1, rfl, _, rfl, ?_⟩
 cases lo with
 | none =>
  refine iteF (iteF ⟨_, rfl, a, _, 1, _, rfl, rfl, SqT.of e1, rfl, _, rfl, ?_⟩)
  cases hi with
  | none => exact iteT q
  | some h => exact iteF ⟨_, rfl, _, rfl, a, _, 1, _, rfl, rfl, SqT.of e1, rfl, _, _, rfl, rfl, q⟩
 | some l =>
  refine iteT ⟨_, rfl, _, rfl, a, _, 0, _, rfl, rfl, SqT.of e1, rfl, _, _, rfl, rfl, _, rfl, ?_⟩
  refine ite2 (fun h => ?_) (fun h => ?_)
  · have h : k < l := of_decide_eq_true h
    have z : inB (some l) hi k = false := by
     simp only [inB, loB]
     rw [decide_eq_false (by omega)]
     rfl
    rw [z] at q
    exact q
  · have h : ¬ k < l := fun z => h (decide_eq_true z)
    have z : inB (some l) hi k = hiB hi k := by
     simp only [inB, loB]
     rw [decide_eq_true (by omega)]
     exact Bool.true_and _
    rw [z] at q
    refine ⟨_, rfl, a, _, 1, _, rfl, rfl, SqT.of e1, rfl, _, rfl, ?_⟩
    cases hi with
    | none => exact iteT q
    | some h => exact iteF ⟨_, rfl, _, rfl, a, _, 1, _, rfl, rfl, SqT.of e1, rfl, _, _, rfl, rfl, q⟩
theorem zfX (F : Fun K "_law_field" "_law_field" zbp f fd) (G_law_draw : Γ26 P w K mg base) : FnOk P w K mg base CX0 2 f fd ["bag"] (zdo) := by
 refine F.ok sc_law_field (fun vs H Q E h => ?_) (fun cdv A outer s H vs Q E hr h => ?_)
 · obtain ⟨b, g, l, n, rfl, Bg, hn, q⟩ := h
   rfl
 obtain ⟨b, g, l, n, rfl, Bg, hn, q⟩ := h
 refine ⟨_, (zad (zaw (i := 1) sc_law_field.nd rfl (Or.inl rfl) (zar G_law_draw (hr.mono (by decide)) rfl (zaa (pv 0) (zaa zaf zac))))
  (zad (zaw (i := 2) sc_law_field.nd rfl (Or.inr rfl) zey)
  (zad (zaF (zas zb0 (pv 1) zaf (zau _)) (zag (zal (zdq PySem.F.plainAttrs_str PySem.F.slot_str_join PySem.F.type_str_join zjx zey (zaa (zcD (N' := ["k", "bag", "some"]) (js := [none, some 0, some 2]) rfl (zbZ (N := ["bag", "choice", "some"]) (outer := zah zbp) (by decide +kernel)) (zcC rfl B.range_ (zaa (zaA zbM zaf (zar G_law_draw (hr.mono (by decide)) rfl (zaa (pv 0) (zaa zaf zac)))) zac)) (fun _ _ _ _ _ => (zai (i := 0) (show List.Nodup (["k", "bag", "some"] : List Str) by decide +kernel) rfl (Or.inl rfl))) (fun _ _ _ _ _ => zaM) (fun _ _ _ _ _ => (zaE zk5 (pv 2) (zar G_law_draw (hr.mono (by decide)) rfl (zaa (pv 1) (zaa zaf zac))) (fun _ _ => rfl)))) zac)))) zap)
  (zag (zal (zdq PySem.F.plainAttrs_str PySem.F.slot_str_join PySem.F.type_str_join zjx zey (zaa (zcD (N' := ["k", "bag", "some"]) (js := [none, some 0, some 2]) rfl (zbZ (N := ["bag", "choice", "some"]) (outer := zah zbp) (by decide +kernel)) (zcC rfl B.range_ (zaa (zaA zbM zaf (zar G_law_draw (hr.mono (by decide)) rfl (zaa (pv 0) (zaa zaf zac)))) zac)) (fun _ _ _ _ _ => (zai (i := 0) (show List.Nodup (["k", "bag", "some"] : List Str) by decide +kernel) rfl (Or.inl rfl))) (fun _ _ _ _ _ => zaM) (fun _ _ _ _ _ => (zaE zk5 (pv 2) (zaA zez (zar G_law_draw (hr.mono (by decide)) rfl (zaa (pv 1) (zaa zaf zac))) zaf) (fun _ _ => rfl)))) zac))))))), ?_⟩
 refine ⟨_, rfl, b, g, l, n, 3, rfl, Bg, by omega, by decide, by decide, fun c0 H1 c1 c2 B1 S1 => ?_⟩
 refine ⟨_, rfl, rfl, _, rfl, ite2 (fun _ => ?_) (fun _ => ?_)⟩
 · refine ⟨rfl, _, rfl, b, g, l, _, 8, rfl, B1, by omega, by decide, by decide, fun r H2 r0 r1 B2 S2 => ?_⟩
   refine ⟨_, _, rfl, rfl, _, rfl, by omega, by omega, fun p hp => ?_⟩
   obtain ⟨pb, pg, pl⟩ := B2.free hp
   have s3 := zae hp (.lst [])
   have S12 := S1.trans S2
   refine zfn (n := (1 + r).toNat) (fun i σ' ys H' => (∃ v, σ' = [v, some (.ref b), some (.str "abcdefghijklmnopqrstuvwxyz")]) ∧ SameB b g H H' ∧ Bag H' b g l (n + 2 + i) ∧ H' p = some (.lst ys) ∧ ∃ cs : List Nat, ys = (cs.map fun c => (⟨#[c]⟩ : Str)).map V.str ∧ cs.length = i ∧ ∀ c ∈ cs, zbR c = true) ?_ ?_ ?_ ?_
   · exact ⟨⟨none, rfl⟩, S12.trans s3.sameB, (B2.same s3).mono (by omega), zab, [], rfl, rfl, fun c hc => by simp at hc⟩
   · rintro i σ' ys H' hi ⟨_, _, _, h1, cs, rfl, h2, _⟩
     exact ⟨h1, by rw [List.length_map, List.length_map, h2]; exact zao (by omega)⟩
   · rintro i σ' ys H4 N hi ⟨⟨v, rfl⟩, S4, B4, h1, cs, rfl, h2, h3⟩ hN
     refine ⟨_, rfl, _, rfl, b, g, l, _, 26, rfl, B4, by omega, by decide, by decide, fun k H5 k0 k1 B5 S5 => ?_⟩
     obtain ⟨c, hc, ok⟩ := zmt k0 k1
     have h5 := S5 _ _ h1 pb pg
     refine ⟨_, _, c, rfl, rfl, (by show 26 ≤ sizeLine; decide), hc, h5, hN _ _ _ ⟨⟨_, rfl⟩, ?_, ?_, zab, cs ++ [c], ?_, ?_, ?_⟩⟩
     · have np : H p = none := S12.none hp pb pg
       exact (S4.trans S5).off np
     · exact (B5.off pb pg pl).mono (by omega)
     · rw [List.map_append, List.map_append]; rfl
     · rw [List.length_append, h2]; rfl
     · intro c' hc'
       rcases List.mem_append.mp hc' with z | z
       · exact h3 c' z
       · rw [List.mem_singleton.mp z]; exact ok
   · rintro σ' ys H4 ⟨_, S4, B4, h1, cs, rfl, h2, h3⟩
     refine ⟨_, _, _, rfl, rfl, SqL.of h1, zjN cs (by omega), q _ _ (zeI (by omega) (by omega) h3) (B4.mono (by omega)) S4⟩
 · refine ⟨rfl, _, rfl, b, g, l, _, 4, rfl, B1, by omega, by decide, by decide, fun r H2 r0 r1 B2 S2 => ?_⟩
   refine ⟨_, _, rfl, rfl, _, rfl, by omega, by omega, fun p hp => ?_⟩
   obtain ⟨pb, pg, pl⟩ := B2.free hp
   have s3 := zae hp (.lst [])
   have S12 := S1.trans S2
   refine zfn (n := (1 + r).toNat) (fun i σ' ys H' => (∃ v, σ' = [v, some (.ref b), some (.str "abcdefghijklmnopqrstuvwxyz")]) ∧ SameB b g H H' ∧ Bag H' b g l (n + 2 + i) ∧ H' p = some (.lst ys) ∧ ∃ cs : List Nat, ys = (cs.map fun c => (⟨#[c]⟩ : Str)).map V.str ∧ cs.length = i ∧ ∀ c ∈ cs, zbR c = true) ?_ ?_ ?_ ?_
   · exact ⟨⟨none, rfl⟩, S12.trans s3.sameB, (B2.same s3).mono (by omega), zab, [], rfl, rfl, fun c hc => by simp at hc⟩
   · rintro i σ' ys H' hi ⟨_, _, _, h1, cs, rfl, h2, _⟩
     exact ⟨h1, by rw [List.length_map, List.length_map, h2]; exact zao (by omega)⟩
   · rintro i σ' ys H4 N hi ⟨⟨v, rfl⟩, S4, B4, h1, cs, rfl, h2, h3⟩ hN
     refine ⟨_, rfl, _, rfl, b, g, l, _, 2, rfl, B4, by omega, by decide, by decide, fun k H5 k0 k1 B5 S5 => ?_⟩
     obtain ⟨c, hc, ok⟩ := zmt (r := k * 25) (by omega) (by omega)
     refine ⟨_, _, rfl, rfl, .inl ⟨by omega, by omega⟩, ?_⟩
     have h5 := S5 _ _ h1 pb pg
     refine ⟨_, _, c, rfl, rfl, (by show 26 ≤ sizeLine; decide), hc, h5, hN _ _ _ ⟨⟨_, rfl⟩, ?_, ?_, zab, cs ++ [c], ?_, ?_, ?_⟩⟩
     · have np : H p = none := S12.none hp pb pg
       exact (S4.trans S5).off np
     · exact (B5.off pb pg pl).mono (by omega)
     · rw [List.map_append, List.map_append]; rfl
     · rw [List.length_append, h2]; rfl
     · intro c' hc'
       rcases List.mem_append.mp hc' with z | z
       · exact h3 c' z
       · rw [List.mem_singleton.mp z]; exact ok
   · rintro σ' ys H4 ⟨_, S4, B4, h1, cs, rfl, h2, h3⟩
     refine ⟨_, _, _, rfl, rfl, SqL.of h1, zjN cs (by omega), q _ _ (zeI (by omega) (by omega) h3) (B4.mono (by omega)) S4⟩
theorem zfd (F : Fun K "_law_fields" "_law_fields" zbA f fd) (G_law_field : Γ32 P w K mg base) (G_law_draw : Γ26 P w K mg base) : FnOk P w K mg base CX0 3 f fd ["bag", "most"] (zc1) := by
 refine F.ok zeZ (fun vs H Q E h => ?_) (fun cdv A outer s H vs Q E hr h => ?_)
 · obtain ⟨b, g, l, n, most, rfl, Bg, hn, m0, m9, q⟩ := h
   rfl
 obtain ⟨b, g, l, n, most, rfl, Bg, hn, m0, m9, q⟩ := h
 refine ⟨_, (zag (zal (zio rfl (zcD (N' := ["k", "bag"]) (js := [none, some 0]) rfl (zbZ (N := ["bag", "most"]) (outer := zah zbA) (by decide +kernel)) (zcC rfl B.range_ (zaa (zar G_law_draw (hr.mono (by decide)) rfl (zaa (pv 0) (zaa (zaA zbM (pv 1) zaf) zac))) zac)) (fun _ _ _ _ _ => (zai (i := 0) (show List.Nodup (["k", "bag"] : List Str) by decide +kernel) rfl (Or.inl rfl))) (fun _ _ _ _ _ => zaM) (fun _ _ _ _ _ => (zar G_law_field (hr.mono (by decide)) rfl (zaa (pv 1) zac)))) rfl B.sorted_ rfl B.set_))), ?_⟩
 have big : most + 1 < 2 ^ 500 := by have : (10 : Int) < 2 ^ 500 := by decide
                                     omega
 refine ⟨_, rfl, _, rfl, _, _, rfl, rfl, b, g, l, n, _, rfl, Bg, by omega, by omega, big, fun r H1 r0 r1 B1 S1 => ?_⟩
 refine ⟨_, rfl, by omega, by omega, fun p hp => ?_⟩
 obtain ⟨pb, pg, pl⟩ := B1.free hp
 have np : H p = none := S1.none hp pb pg
 have s3 := zae hp (.lst [])
 refine zfn (n := r.toNat) (fun i σ' ys H' => (∃ v, σ' = [v, some (.ref b)]) ∧ SameB b g H H' ∧ Bag H' b g l (n + 1 + 12 * i) ∧ H' p = some (.lst ys) ∧ ∃ ts : List Str, ys = ts.map V.str ∧ ts.length = i ∧ ∀ t ∈ ts, FieldOk t) ?_ ?_ ?_ ?_
 · exact ⟨⟨none, rfl⟩, S1.trans s3.sameB, (B1.same s3).mono (by omega), zab, [], rfl, rfl, fun c hc => by simp at hc⟩
 · rintro i σ' ys H' hi ⟨_, _, _, h1, ts, rfl, h2, _⟩
   exact ⟨h1, by rw [List.length_map, h2]; exact zao (by omega)⟩
 · rintro i σ' ys H4 N hi ⟨⟨v, rfl⟩, S4, B4, h1, ts, rfl, h2, h3⟩ hN
   refine ⟨_, rfl, b, g, l, _, rfl, B4, by omega, fun x H5 ok B5 S5 => ?_⟩
   have h5 := S5 _ _ h1 pb pg
   refine ⟨h5, hN _ _ _ ⟨⟨_, rfl⟩, (S4.trans S5).off np, (B5.off pb pg pl).mono (by omega), zab, ts ++ [x], ?_, ?_, ?_⟩⟩
   · rw [List.map_append]; rfl
   · rw [List.length_append, h2]; rfl
   · intro c' hc'
     rcases List.mem_append.mp hc' with z | z
     · exact h3 c' z
     · rw [List.mem_singleton.mp z]; exact ok
 · rintro σ' ys H4 ⟨_, S4, B4, h1, ts, rfl, h2, h3⟩
   refine ⟨p, ts, rfl, SqL.of h1, by omega, fun z ms nd mem le so hz => ?_⟩
   obtain ⟨zb, zg, zl⟩ := B4.free hz
   have s5 := zae hz (.lst (ms.map V.str))
   exact q z ms _ (S4.none hz zb zg) zab (zc5 so nd) (fun f hf => h3 f ((mem f).mp hf)) (by omega) ((B4.same s5).mono (by omega)) (S4.trans s5.sameB)
theorem zfW (F : Fun K "_law_moved" "_law_moved" zcn f fd) (G_law_draw : Γ26 P w K mg base) (G_law_number : Γ27 P w K mg base) (G_law_held : Γ28 P w K mg base) : FnOk P w K mg base CX0 3 f fd ["bag", "span"] (zgE) := by
 refine F.ok sc_law_moved (fun vs H Q E h => ?_) (fun cdv A outer s H vs Q E hr h => ?_)
 · obtain ⟨b, g, l, n, w, lo0, hi0, rfl, Bg, Sp, hn, q⟩ := h
   rfl
 obtain ⟨b, g, l, n, w, lo0, hi0, rfl, Bg, Sp, hn, q⟩ := h
 refine ⟨_, (zad (zaw (i := 2) sc_law_moved.nd rfl (Or.inl rfl) (za6 zac))
  (zad (zbl PassesOwn.never rfl (zbX (pv 1)) (zai (i := 3) sc_law_moved.nd rfl (Or.inl rfl)) (zad (zaw (i := 4) sc_law_moved.nd rfl (Or.inl rfl) (zar G_law_draw (hr.mono (by decide)) rfl (zaa (pv 0) (zaa zaf zac))))
  (zag (zaF (PW.pt (zcz (zas zb0 (pv 4) zaf (zau _)) (zb7 (PW.pt (zbJ (zaK (zbL (pv 3))) (zbk (zas zis (pv 4) zaf (zau _)))))))) (zag (za2 (zdq PySem.F.plainAttrs_list PySem.F.slot_list_append PySem.F.type_list_append zbm (pv 2) (zaa za5 zac)))) (zag (zaF (PW.pt (zcz (zaK (zbL (pv 3))) (zb7 (zas zb0 (pv 4) zaf (zau _))))) (zag (za2 (zdq PySem.F.plainAttrs_list PySem.F.slot_list_append PySem.F.type_list_append zbm (pv 2) (zaa (zar G_law_number (hr.mono (by decide)) rfl (zaa (pv 0) zac)) zac)))) (zag (za2 (zdq PySem.F.plainAttrs_list PySem.F.slot_list_append PySem.F.type_list_append zbm (pv 2) (zaa (zar G_law_held (hr.mono (by decide)) rfl (zaa (zaA zch (zaA zbM (pv 3) (pv 4)) zaf) zac)) zac))))))))))
  (zad (zcB (pv 2) (zma rfl (zan (zai (i := 5) sc_law_moved.nd rfl (Or.inl rfl)) (zan (zai (i := 6) sc_law_moved.nd rfl (Or.inl rfl)) zaS))))
  (zad (zaF (PW.pt (zbJ (zaK (zaT (pv 5))) (zbJ (zaK (zaT (pv 6))) (zbk (zas zis (pv 5) (pv 6) (zau _)))))) (zag (zal (zay (zaa (pv 6) (zaa (pv 5) zac))))) zap)
  (zag (zal (zay (zaa (pv 5) (zaa (pv 6) zac))))))))), ?_⟩
 obtain ⟨a, rfl, ea⟩ := Sp
 refine ⟨sz0, fun e he => ?_⟩
 have s1 := zae he (.lst [])
 obtain ⟨eb, eg, _⟩ := Bg.free he
 have none_in : inT none := fun i z => by cases z
 refine ⟨_, rfl, a, rfl, ⟨_, SqT.of (s1 _ _ ea)⟩, zc3 (K := K) (a := a) (xs := [eV lo0, eV hi0]) (fun i σ H' => ∃ (os : List (Option Int)) (x3 x4 : Option V), σ = [some (.ref b), some (.ref a), some (.ref e), x3, x4, none, none] ∧ Bag H' b g l (n + 4 * (i : Int)) ∧ SameB b g H H' ∧ H' e = some (.lst (os.map eV)) ∧ os.length = i ∧ ∀ o ∈ os, inT o)
  ⟨[], none, none, rfl, (Bg.same s1).mono (by omega), s1.sameB, zab, rfl, fun _ z => nomatch z⟩ (fun i σ H' _ ⟨_, _, _, _, _, s2, _⟩ => SqT.of (s2.tup Bg ea)) ?_ ?_⟩
 · rintro i x σ H' hx ⟨os, x3, x4, rfl, B1, S1, ee, eo, ob⟩
   have hi2 : i < 2 := (List.getElem?_eq_some_iff.mp hx).1
   obtain ⟨o0, rfl⟩ : ∃ o0, x = eV o0 := by
    match i, hx with
    | 0, hx => exact ⟨lo0, (Option.some.inj hx).symm⟩
    | 1, hx => exact ⟨hi0, (Option.some.inj hx).symm⟩
   refine ⟨_, rfl, b, g, l, _, 5, rfl, B1, by omega, by decide, by decide, fun st H2 r0 r1 B2 S2 => ?_⟩
   have e2 := S2 e _ ee eb eg
   have lt : (os.map eV).length < sizeLine := by rw [List.length_map]; exact zao (by omega)
   have fin : ∀ (o' : Option Int) (H3 : Hp), inT o' → Bag H3 b g l (n + 4 * (i : Int) + 4) → SameB b g H H3 → H3 e = some (.lst (os.map eV)) →
    ∃ (os' : List (Option Int)) (y3 y4 : Option V), [some (V.ref b), some (V.ref a), some (V.ref e), some (eV o0), some (V.int st), none, none] = [some (.ref b), some (.ref a), some (.ref e), y3, y4, none, none] ∧ Bag (upd H3 e (.lst (os.map eV ++ [eV o']))) b g l (n + 4 * ((i + 1 : Nat) : Int)) ∧ SameB b g H (upd H3 e (.lst (os.map eV ++ [eV o']))) ∧ (upd H3 e (.lst (os.map eV ++ [eV o']))) e = some (.lst (os'.map eV)) ∧ os'.length = i + 1 ∧ ∀ o ∈ os', inT o := fun o' H3 h1 h2 h3 h4 => by
    refine ⟨os ++ [o'], _, _, rfl, ?_, ?_, ?_, ?_, ?_⟩
    · obtain ⟨⟨gs, ls, c, st', k1, k2, k3, k4, k5, k6, k7, k8, k9, k10⟩, gl⟩ := h2
      have le : l ≠ e := fun z => by rw [z, h4] at k3; injection k3 with k3; injection k3 with k3; cases k5' : ls with
       | nil => rw [k5'] at k5; exact absurd k5 (by decide)
       | cons y ys =>
        obtain ⟨gs0, ls0, c0, st0, m1, m2, m3, _⟩ := Bg.ex
        have := zav m3 he
        exact this z
      exact ⟨⟨gs, ls, c, st', by rw [zak (Ne.symm eb)]; exact k1, by rw [zak (Ne.symm eg)]; exact k2, by rw [zak le]; exact k3, k4, k5, k6, k7, k8, by omega, k10⟩, gl⟩
    · intro a' o h5 h6 h7
      have : a' ≠ e := fun z => by rw [z, he] at h5; cases h5
      rw [zak this]
      exact h3 a' o h5 h6 h7
    · rw [zab, List.map_append]; rfl
    · rw [List.length_append, eo]; rfl
    · intro o ho
      rcases List.mem_append.mp ho with z | z
      · exact ob o z
      · rw [List.mem_singleton.mp z]; exact h1
   have S3 := S1.trans S2
   have B3 : Bag H2 b g l (n + 4 * (i : Int) + 4) := B2.mono (by omega)
   refine ⟨_, rfl, rfl, _, rfl, ?_⟩
   refine ite2 (fun _ => ?_) (fun _ => ?_)
   · exact iteT ⟨_, rfl, .inl ⟨rfl, _, SqL.of e2⟩, e, _, _, rfl, rfl, e2, lt, fin none H2 none_in B3 S3 e2⟩
   refine ⟨_, rfl, _, rfl, ?_⟩
   cases o0 with
   | none =>
    refine iteT ⟨_, rfl, _, _, rfl, rfl, _, rfl, ite2 (fun _ => ?_) (fun _ => ?_)⟩
    · exact ⟨_, rfl, .inl ⟨rfl, _, SqL.of e2⟩, e, _, _, rfl, rfl, e2, lt, fin none H2 none_in B3 S3 e2⟩
    · refine ⟨_, rfl, _, rfl, iteT (iteT ⟨_, rfl, .inl ⟨rfl, _, SqL.of e2⟩, _, rfl, b, g, l, _, rfl, B2, by omega, fun x H4 x0 x1 B4 S4 => ?_⟩)⟩
      exact ⟨e, _, _, rfl, rfl, S4 e _ e2 eb eg, lt, fin (some x) H4 (fun i z => by injection z with z; subst z; exact ⟨x0, x1⟩) (B4.mono (by omega)) (S3.trans S4) (S4 e _ e2 eb eg)⟩
   | some i0 =>
    refine iteF (iteF ⟨_, rfl, _, rfl, iteF ⟨_, rfl, rfl, _, rfl, ite2 (fun _ => ?_) (fun _ => ?_)⟩⟩)
    · refine ⟨_, rfl, .inl ⟨rfl, _, SqL.of e2⟩, _, rfl, b, g, l, _, rfl, B2, by omega, fun x H4 x0 x1 B4 S4 => ?_⟩
      exact ⟨e, _, _, rfl, rfl, S4 e _ e2 eb eg, lt, fin (some x) H4 (fun i z => by injection z with z; subst z; exact ⟨x0, x1⟩) (B4.mono (by omega)) (S3.trans S4) (S4 e _ e2 eb eg)⟩
    · have hh := zh3 (i0 + st - 1)
      exact ⟨_, rfl, .inl ⟨rfl, _, SqL.of e2⟩, _, rfl, _, rfl, _, _, rfl, rfl, _, _, rfl, rfl, _, rfl, e, _, _, rfl, rfl, e2, lt, fin (some (zho (i0 + st - 1))) H2 (fun i z => by injection z with z; subst z; unfold T15 at *; omega) B3 S3 e2⟩
 · rintro σ H' ⟨os, x3, x4, rfl, B1, S1, ee, eo, ob⟩
   match os, eo with
   | [o1, o2], _ =>
    have i1 := ob o1 (by simp)
    have i2 := ob o2 (by simp)
    refine ⟨_, rfl, e, _, rfl, SqL.of ee, rfl, _, _, rfl, _, _, rfl, rfl, ?_⟩
    have fin : ∀ (lo hi : Option Int), leO lo hi = true → inT lo → inT hi → ∀ t, H' t = none → Q (.ref t) (upd H' t (.tup [eV lo, eV hi])) := fun lo hi h1 h2 h3 t ht =>
     q _ lo hi _ ⟨t, rfl, zab⟩ ⟨h1, h2, h3⟩ ((B1.same (zae ht _)).mono (by show n + 4 * ((2 : Nat) : Int) ≤ n + 8; omega)) (S1.trans (zae ht _).sameB)
    refine ⟨_, rfl, _, rfl, ?_⟩
    cases o1 with
    | none => exact iteF (iteF ⟨_, rfl, _, rfl, zq2, fin none o2 (by cases o2 <;> rfl) i1 i2⟩)
    | some x =>
     refine iteT ⟨_, rfl, _, rfl, ?_⟩
     cases o2 with
     | none => exact iteF (iteF ⟨_, rfl, _, rfl, zq2, fin (some x) none rfl i1 i2⟩)
     | some y =>
      refine iteT ⟨_, rfl, _, rfl, _, _, rfl, rfl, _, rfl, ite2 (fun h => ?_) (fun h => ?_)⟩
      · exact ⟨_, rfl, _, rfl, zq2, fin (some y) (some x) (decide_eq_true (by have h := of_decide_eq_true h; omega)) i2 i1⟩
      · exact ⟨_, rfl, _, rfl, zq2, fin (some x) (some y) (decide_eq_true (by have h : ¬ y < x := fun z => h (decide_eq_true z); omega)) i1 i2⟩
theorem zg2 (F : Fun K "_law_wish" "_law_wish" zcM f fd) (G_law_span : Γ29 P w K mg base) (G_law_draw : Γ26 P w K mg base) : FnOk P w K mg base CX0 4 f fd ["bag", "fields"] (zdV) := by
 refine F.ok sc_law_wish (fun vs H Q E h => ?_) (fun cdv A outer s H vs Q E hr h => ?_)
 · obtain ⟨b, g, l, fl, n, fs, rfl, Bg, hn, FA, q⟩ := h
   rfl
 obtain ⟨b, g, l, fl, n, fs, rfl, Bg, hn, FA, q⟩ := h
 refine ⟨_, (zad (zaw (i := 2) sc_law_wish.nd rfl (Or.inl rfl) (za6 zac))
  (zad (zbl PassesOwn.never rfl (zaR (pv 1)) (zai (i := 3) sc_law_wish.nd rfl (Or.inl rfl)) (zad (zaw (i := 4) sc_law_wish.nd rfl (Or.inl rfl) (zbq zis (zar G_law_draw (hr.mono (by decide)) rfl (zaa (pv 0) (zaa zaf zac))) zaf (zau _)))
  (zad (zaw (i := 5) sc_law_wish.nd rfl (Or.inl rfl) (zar G_law_span (hr.mono (by decide)) rfl (zaa (pv 0) zac)))
  (zag (zaF (zaQ (pv 4)) (zag (za2 (zdq PySem.F.plainAttrs_list PySem.F.slot_list_append PySem.F.type_list_append zbm (pv 2) (zaa (zay (zaa (pv 3) (zaa (zaE za8 (pv 5) zaf (fun _ _ => rfl)) (zaa (zaE za8 (pv 5) zaf (fun _ _ => rfl)) zac)))) zac)))) zap)))))
  (zag (zal (za7 zaO rfl B.tuple_ zbb (zaa (pv 2) zac)))))), ?_⟩
 refine ⟨sz0, fun r hr' => ?_⟩
 obtain ⟨rb, rg, rl⟩ := Bg.free hr'
 have s0 := zae hr' (.lst [])
 have FA0 := FA.sameB s0.sameB
 have rf : r ≠ fl := fun e => by rw [e, FA.at'] at hr'; cases hr'
 refine ⟨_, rfl, fl, rfl, ⟨_, SqL.of FA0.at'⟩, zbz (K := K) (a := fl) (xs := fs.map V.str) (fun i σ H' => (∃ y3 y4 y5, σ = [some (.ref b), some (.ref fl), some (.ref r), y3, y4, y5]) ∧ SameB b g H H' ∧ Bag H' b g l (n + 9 * i) ∧ FieldsAt H' b g fl fs ∧
  ∃ qs : List (Addr × WP), H' r = some (.lst (qs.map fun q => V.ref q.1)) ∧ (∀ q ∈ qs, H' q.1 = some (.tup [.str q.2.1, eV q.2.2.1, eV q.2.2.2]) ∧ Good q.2.2.1 q.2.2.2) ∧ (qs.map (·.2.1)).Sublist (fs.take i)) ?_ ?_ ?_ ?_⟩
 · exact ⟨⟨none, none, none, rfl⟩, s0.sameB, (Bg.same s0).mono (by omega), FA0, [], zab, fun q hq => by simp at hq, by simp⟩
 · rintro i σ H' _ ⟨_, _, _, F1, _⟩
   exact SqL.of F1.at'
 · rintro i x σ H1 hx ⟨⟨y3, y4, y5, rfl⟩, S1, B1, F1, qs, e1, a1, u1⟩
   rw [List.getElem?_map] at hx
   cases ef : fs[i]? with
   | none => rw [ef] at hx; cases hx
   | some f' =>
    rw [ef] at hx
    obtain rfl : V.str f' = x := Option.some.inj hx
    have li : i < 9 := by have := (List.getElem?_eq_some_iff.mp ef).1; have := FA.len; omega
    refine ⟨_, rfl, b, g, l, _, 4, rfl, B1, by omega, by decide, by decide, fun c H2 c0 c1 B2 S2 => ?_⟩
    refine ⟨_, _, rfl, rfl, ?_⟩
    refine ⟨_, rfl, b, g, l, _, rfl, B2, by omega, fun v lo hi H3 sp G3 B3 S3 => ?_⟩
    have S13 := S2.trans S3
    have S03 := S1.trans S13
    have e3 := S13 _ _ e1 rb rg
    have F3 := F1.sameB S13
    have a3 : ∀ q ∈ qs, H3 q.1 = some (.tup [.str q.2.1, eV q.2.2.1, eV q.2.2.2]) ∧ Good q.2.2.1 q.2.2.2 := fun q hq => ⟨S3.tup B2 (S2.tup B1 (a1 q hq).1), (a1 q hq).2⟩
    have u2 : (qs.map (·.2.1)).Sublist (fs.take (i + 1)) := u1.trans (List.take_sublist_take_left (by omega))
    refine ⟨_, rfl, _, rfl, ite2 (fun _ => ?_) (fun _ => ?_)⟩
    · obtain ⟨sa, rfl, es⟩ := sp
      refine ⟨_, rfl, .inl ⟨rfl, _, SqL.of e3⟩, _, rfl, _, rfl, sa, _, 0, _, rfl, rfl, SqT.of es, rfl, _, rfl, sa, _, 1, _, rfl, rfl, SqT.of es, rfl, zq3, fun t ht => ?_⟩
      have st := zae ht (.tup [V.str f', eV lo, eV hi])
      have e4 := st _ _ e3
      refine ⟨r, _, _, rfl, rfl, e4, (by rw [List.length_map]; have := u1.length_le; simp at this; exact zao (by omega)), ?_⟩
      have tl := zaY (o := .lst (qs.map (fun q => V.ref q.1) ++ [V.ref t])) e4
      have nr : H r = none := hr'
      refine ⟨⟨_, _, _, rfl⟩, (S03.trans st.sameB).off nr, ((B3.same st).off rb rg rl).mono (by omega), ?_, qs ++ [(t, f', lo, hi)], ?_, ?_, ?_⟩
      · have F4 := F3.sameB st.sameB
        exact ⟨by rw [zak rf.symm]; exact F4.at', F4.nb, F4.ng, F4.len, F4.ok, F4.asc⟩
      · rw [zab, List.map_append]; rfl
      · intro q hq
        rcases List.mem_append.mp hq with z | z
        · exact ⟨tl _ _ (st _ _ (a3 q z).1), (a3 q z).2⟩
        · rw [List.mem_singleton.mp z]
          exact ⟨tl _ _ zab, G3⟩
      · rw [List.map_append, zaq ef]
        exact u1.append (List.Sublist.refl _)
    · exact ⟨⟨_, _, _, rfl⟩, S03, B3.mono (by omega), F3, qs, e3, a3, u2⟩
 · rintro σ H1 ⟨⟨y3, y4, y5, rfl⟩, S1, B1, F1, qs, e1, a1, u1⟩
   rw [show fs.take (fs.map V.str).length = fs from List.take_of_length_le (by simp)] at u1
   have ll : qs.length ≤ 9 := by have h1 := u1.length_le; have h2 := FA.len; rw [List.length_map] at h1; omega
   refine ⟨_, rfl, r, _, rfl, .inl ⟨SqL.of e1, fun t ht => ?_⟩⟩
   have st := zae ht (.tup (qs.map fun q => V.ref q.1))
   refine q t (qs.map (·.2)) _ ⟨qs, rfl, zab, fun q hq => st _ _ (a1 q hq).1⟩ ⟨by rw [List.length_map]; omega, fun p hp => ?_, ?_⟩ ((B1.same st).mono (by rw [List.length_map]; have := FA.len; omega)) (S1.trans st.sameB)
   · obtain ⟨q', hq', rfl⟩ := List.mem_map.mp hp
     exact ⟨FA.ok _ (u1.subset (List.mem_map_of_mem (f := fun (x : Addr × WP) => x.2.1) hq')), (a1 q' hq').2⟩
   · rw [List.map_map]
     exact FA.asc.sublist u1
theorem zff (F : Fun K "_law_beside" "_law_beside" zb5 f fd) (G_law_draw : Γ26 P w K mg base) (G_law_span : Γ29 P w K mg base) (G_law_moved : Γ34 P w K mg base) : FnOk P w K mg base CX0 4 f fd ["bag", "wish", "fields"] (zdZ) := by
 refine F.ok sc_law_beside (fun vs H Q E h => ?_) (fun cdv A outer s H vs Q E hr h => ?_)
 · obtain ⟨b, g, l, a, fl, n, w1, fs, rfl, Bg, hn, hw, wd, FA, q⟩ := h
   rfl
 obtain ⟨b, g, l, a, fl, n, w1, fs, rfl, Bg, hn, hw, wd, FA, q⟩ := h
 refine ⟨_, (zad (zaw (i := 3) sc_law_beside.nd rfl (Or.inl rfl) zhN)
  (zad (zbl PassesOwn.never rfl (zbX (pv 1)) (zca rfl (zan (zai (i := 4) sc_law_beside.nd rfl (Or.inl rfl)) (zan (zai (i := 5) sc_law_beside.nd rfl (Or.inl rfl)) (zan (zai (i := 6) sc_law_beside.nd rfl (Or.inl rfl)) zaS)))) (zag (zgW (zci hr) (pv 3) (pv 4) (zay (zaa (pv 5) (zaa (pv 6) zac))) rfl)))
  (zad (zaw (i := 7) sc_law_beside.nd rfl (Or.inl rfl) (za6 zac))
  (zad (zbl PassesOwn.never rfl (zaR (pv 2)) (zai (i := 4) sc_law_beside.nd rfl (Or.inl rfl)) (zad (zaw (i := 8) sc_law_beside.nd rfl (Or.inl rfl) (zar G_law_draw (hr.mono (by decide)) rfl (zaa (pv 0) (zaa zaf zac))))
  (zad (zaw (i := 9) sc_law_beside.nd rfl (Or.inl rfl) (zcp (zaK (zhP (zci hr) (pv 4) (pv 3)) (by with_unfolding_all rfl)) (zcE (zci hr) (pv 3) (pv 4) (fun _ _ => rfl)) (zar G_law_span (hr.mono (by decide)) rfl (zaa (pv 0) zac))))
  (zad (zaF (PW.pt (zbJ (zaK (zhP (zci hr) (pv 4) (pv 3)) (by with_unfolding_all rfl)) (zbk (zas zb0 (pv 8) zaf (zau _))))) (zag (zaw (i := 9) sc_law_beside.nd rfl (Or.inl rfl) (zar G_law_moved (hr.mono (by decide)) rfl (zaa (pv 0) (zaa (pv 9) zac))))) zap)
  (zad (zaF (PW.pt (zbJ (zaK (zhP (zci hr) (pv 4) (pv 3)) (by with_unfolding_all rfl)) (zbk (zas zb0 (pv 8) zaf (zau _))))) (zag (zaw (i := 9) sc_law_beside.nd rfl (Or.inl rfl) (zar G_law_span (hr.mono (by decide)) rfl (zaa (pv 0) zac)))) zap)
  (zag (zaF (PW.pt (zcz (PW.pt (zbJ (zaK (zhP (zci hr) (pv 4) (pv 3)) (by with_unfolding_all rfl)) (zbk (zas zir (pv 8) zaf (zau _))))) (zb7 (PW.pt (zbJ (zaK (zd8 (zci hr) (pv 4) (pv 3)) (by with_unfolding_all rfl)) (zbk (zas zjn (pv 8) zaf (zau _)))))))) (zag (za2 (zdq PySem.F.plainAttrs_list PySem.F.slot_list_append PySem.F.type_list_append zbm (pv 7) (zaa (zay (zaa (pv 4) (zaa (zaE za8 (pv 9) zaf (fun _ _ => rfl)) (zaa (zaE za8 (pv 9) zaf (fun _ _ => rfl)) zac)))) zac)))) zap)))))))
  (zag (zal (za7 zaO rfl B.tuple_ zbb (zaa (pv 7) zac)))))))), ?_⟩
 intro d hd
 obtain ⟨db, dg, dl⟩ := Bg.free hd
 have s0 := zae hd (.dK [])
 have wok := wd.wok
 have hw0 := hw
 obtain ⟨ps, rfl, hA, hP⟩ := hw
 have ll : ps.length ≤ 100 := by have := wok.len; rw [List.length_map] at this; exact this
 refine ⟨_, rfl, a, rfl, ⟨_, SqT.of (s0 _ _ hA)⟩, zc3 (K := K) (a := a) (xs := ps.map fun (p : Addr × WP) => V.ref p.1) (fun i σ H' => (∃ y4 y5 y6, σ = [some (.ref b), some (.ref a), some (.ref fl), some (.ref d), y4, y5, y6, none, none, none]) ∧ Same H H' ∧ ∃ kvs : List (Key × V), H' d = some (.dK kvs) ∧ kvs.length ≤ i ∧ ∀ f : Str, match zaj ((ps.map (·.2)).take i) f with
  | none => valV kvs (.inr f) = none
  | some s => ∃ t, valV kvs (.inr f) = some (.ref t) ∧ H' t = some (.tup [eV s.1, eV s.2])) ⟨⟨none, none, none, rfl⟩, s0, [], zab, Nat.zero_le _, fun f => rfl⟩ (fun i σ H' _ ⟨_, s, _⟩ => SqT.of (s _ _ hA)) ?_ ?_⟩
 · rintro i x σ H' hx ⟨⟨y4, y5, y6, rfl⟩, s, kvs, h1, h2, h3⟩
   rw [List.getElem?_map] at hx
   cases e1 : ps[i]? with
   | none => rw [e1] at hx; cases hx
   | some P1 =>
    rw [e1] at hx
    obtain rfl : V.ref P1.1 = x := Option.some.inj hx
    have hm := List.mem_of_getElem? e1
    have li := (List.getElem?_eq_some_iff.mp e1).1
    refine ⟨P1.1, _, rfl, SqT.of (s _ _ (hP P1 hm)), rfl, _, _, rfl, _, _, rfl, _, _, rfl, rfl, ?_⟩
    refine ⟨_, rfl, _, rfl, zq2, fun u hu => ?_⟩
    have su := zae hu (.tup [eV P1.2.2.1, eV P1.2.2.2])
    have eu : (upd H' u (.tup [eV P1.2.2.1, eV P1.2.2.2])) u = some (.tup [eV P1.2.2.1, eV P1.2.2.2]) := zab
    have h1' := su _ _ h1
    generalize upd H' u (.tup [eV P1.2.2.1, eV P1.2.2.2]) = H2 at *
    have du : u ≠ d := zdc eu h1' (by intro z; cases z)
    refine ⟨_, rfl, _, rfl, d, _, rfl, DPut.k (k := Sum.inr P1.2.1) h1' (zao (by omega)), ⟨_, _, _, rfl⟩, za1 (s.trans su) hd, _, zab, ?_, fun f => ?_⟩
    · have := zbr kvs (Sum.inr P1.2.1 : Key) (V.ref u)
      omega
    · have ew : (ps.map (·.2))[i]? = some P1.2 := by rw [List.getElem?_map, e1]; rfl
      have fr := wok.fresh ew
      rw [zaq ew, zbV _ _ _ fr, zdH]
      by_cases hf : f = P1.2.1
      · subst hf
        rw [if_pos rfl, if_pos rfl]
        exact ⟨u, rfl, by rw [zak du]; exact eu⟩
      · rw [if_neg hf, if_neg (fun z => hf (by injection z))]
        have := h3 f
        cases hs : zaj ((ps.map (·.2)).take i) f with
        | none => rw [hs] at this; exact this
        | some sp =>
         rw [hs] at this
         obtain ⟨t, t1, t2⟩ := this
         exact ⟨t, t1, by rw [zak (zdc (su _ _ t2) h1' (by intro z; cases z))]; exact su _ _ t2⟩
 · rintro σ H0 ⟨⟨y4, y5, y6, rfl⟩, sH0, kvs, h1, h2, h3⟩
   have et : (ps.map (·.2)).take (ps.map fun (p : Addr × WP) => V.ref p.1).length = ps.map (·.2) := List.take_of_length_le (by simp)
   rw [et] at h3
   have D0 : DictSp H0 d (ps.map (·.2)) := ⟨kvs, h1, by simpa using h2, h3⟩
   generalize hW : ps.map (·.2) = W at *
   refine ⟨sz0, fun r hr' => ?_⟩
   have B0 := Bg.same sH0
   obtain ⟨rb, rg, rl⟩ := B0.free hr'
   have sr := zae hr' (.lst [])
   have nr : H r = none := zhc sH0 hr'
   have FA0 := FA.sameB (sH0.trans sr).sameB
   have rf : r ≠ fl := fun e => by have := sH0 _ _ FA.at'; rw [← e, hr'] at this; cases this
   refine ⟨_, rfl, fl, rfl, ⟨_, SqL.of FA0.at'⟩, zbz (K := K) (a := fl) (xs := fs.map V.str) (fun i σ H' => (∃ y4 y5 y6 y8 y9, σ = [some (.ref b), some (.ref a), some (.ref fl), some (.ref d), y4, y5, y6, some (.ref r), y8, y9]) ∧ SameB b g H H' ∧ Bag H' b g l (n + 30 * i) ∧ FieldsAt H' b g fl fs ∧ DictSp H' d W ∧
    ∃ qs : List (Addr × WP), H' r = some (.lst (qs.map fun q => V.ref q.1)) ∧ (∀ q ∈ qs, H' q.1 = some (.tup [.str q.2.1, eV q.2.2.1, eV q.2.2.2]) ∧ Good q.2.2.1 q.2.2.2) ∧ (qs.map (·.2.1)).Sublist (fs.take i)) ?_ ?_ ?_ ?_⟩
   · exact ⟨⟨_, _, _, _, _, rfl⟩, (sH0.trans sr).sameB, (B0.same sr).mono (by omega), FA0, D0.same sr, [], zab, fun q hq => by simp at hq, by simp⟩
   · rintro i σ H' _ ⟨_, _, _, F1, _⟩
     exact SqL.of F1.at'
   · rintro i x σ H1 hx ⟨⟨y4, y5, y6, y8, y9, rfl⟩, S1, B1, F1, D1, qs, e1, a1, u1⟩
     rw [List.getElem?_map] at hx
     cases ef : fs[i]? with
     | none => rw [ef] at hx; cases hx
     | some f' =>
      rw [ef] at hx
      obtain rfl : V.str f' = x := Option.some.inj hx
      have li : i < 9 := by have := (List.getElem?_eq_some_iff.mp ef).1; have := FA.len; omega
      have u2 : (qs.map (·.2.1)).Sublist (fs.take (i + 1)) := u1.trans (List.take_sublist_take_left (by omega))
      refine ⟨_, rfl, b, g, l, _, 8, rfl, B1, by omega, by decide, by decide, fun c H2 c0 c1 B2 S2 => ?_⟩
      have D2 := D1.sameB B1 db dg S2
      obtain ⟨kv2, k21, k22, k23⟩ := id D2
      have kf2 := k23 f'
      refine ⟨_, rfl, _, rfl, d, _, rfl, DGet.k (k := Sum.inr f') k21, _, rfl, ?_⟩
      cases hs : zaj W f' with
      | some sp0 =>
       rw [hs] at kf2
       obtain ⟨t2, y1, y2⟩ := kf2
       have G0 : Good sp0.1 sp0.2 := by
        obtain ⟨p, hp, _, rfl⟩ := zaI hs
        exact (wd.ok p hp).2
       have gd2 : DGet H2 d (.str f') (some (.ref t2)) := by
        have := DGet.k (k := Sum.inr f') k21
        rw [y1] at this
        exact this
       rw [y1]
       refine iteT ⟨_, rfl, _, rfl, d, _, rfl, gd2, ?_⟩
       refine ⟨_, rfl, _, rfl, d, _, rfl, gd2, _, rfl, iteT ⟨_, rfl, rfl, _, rfl, ite2 (fun h5 => ?_) (fun h5 => ?_)⟩⟩
       · refine ⟨_, rfl, _, rfl, b, g, l, _, _, sp0.1, sp0.2, rfl, B2, ⟨t2, rfl, y2⟩, by omega, fun v lo hi H3 sp G3 B3 S3 => ?_⟩
         have S13 := S2.trans S3
         have e3 := S13 _ _ e1 rb rg
         have F3 := F1.sameB S13
         have D3 := D1.sameB B1 db dg S13
         have S03 := S1.trans S13
         have a3 : ∀ q ∈ qs, H3 q.1 = some (.tup [.str q.2.1, eV q.2.2.1, eV q.2.2.2]) ∧ Good q.2.2.1 q.2.2.2 := fun q hq => ⟨S13.tup B1 (a1 q hq).1, (a1 q hq).2⟩
         obtain ⟨kv3, k31, k32, k33⟩ := id D3
         have kf3 := k33 f'
         rw [hs] at kf3
         refine ⟨_, rfl, _, rfl, d, _, rfl, DGet.k (k := Sum.inr f') k31, _, rfl, ?_⟩
         obtain ⟨t3', w1, w2⟩ := kf3
         rw [w1]
         have kf3 := k33 f'
         rw [hs] at kf3
         refine iteT ⟨_, rfl, rfl, _, rfl, ite2 (fun h6 => absurd (h5 : decide _ = true) (by have := of_decide_eq_true h6; injection this with this; subst this; decide)) (fun _ => ?_)⟩
         obtain ⟨t3, z1, z2⟩ := kf3
         refine ⟨_, rfl, _, rfl, d, _, rfl, DGet.k (k := Sum.inr f') k31, _, rfl, ?_⟩
         rw [z1]
         refine iteT ⟨_, rfl, rfl, _, rfl, ite2 (fun _ => ?_) (fun _ => ⟨_, rfl, _, rfl, d, _, rfl, DGet.k (k := Sum.inr f') k31, _, rfl, ?_⟩)⟩
         · obtain ⟨sa, rfl, es⟩ := sp
           refine ⟨_, rfl, .inl ⟨rfl, _, SqL.of e3⟩, _, rfl, _, rfl, sa, _, 0, _, rfl, rfl, SqT.of es, rfl, _, rfl, sa, _, 1, _, rfl, rfl, SqT.of es, rfl, zq3, fun t ht => ?_⟩
           have st := zae ht (.tup [V.str f', eV lo, eV hi])
           have e4 := st _ _ e3
           refine ⟨r, _, _, rfl, rfl, e4, (by rw [List.length_map]; have := u1.length_le; simp at this; exact zao (by omega)), ?_⟩
           have tl := zaY (o := .lst (qs.map (fun q => V.ref q.1) ++ [V.ref t])) e4
           refine ⟨⟨_, _, _, _, _, rfl⟩, (S03.trans st.sameB).off nr, ((B3.same st).off rb rg rl).mono (by omega), ?_, (D3.same st).off e4, qs ++ [(t, f', lo, hi)], ?_, ?_, ?_⟩
           · have F4 := F3.sameB st.sameB
             exact ⟨by rw [zak rf.symm]; exact F4.at', F4.nb, F4.ng, F4.len, F4.ok, F4.asc⟩
           · rw [zab, List.map_append]; rfl
           · intro q hq
             rcases List.mem_append.mp hq with z | z
             · exact ⟨tl _ _ (st _ _ (a3 q z).1), (a3 q z).2⟩
             · rw [List.mem_singleton.mp z]
               exact ⟨tl _ _ zab, G3⟩
           · rw [List.map_append, zaq ef]
             exact u1.append (List.Sublist.refl _)
         · rw [z1]
           exact iteF ⟨⟨_, _, _, _, _, rfl⟩, S03, B3.mono (by omega), F3, D3, qs, e3, a3, u2⟩
       · refine ⟨_, rfl, _, rfl, d, _, rfl, gd2, _, rfl, iteT ⟨_, rfl, rfl, _, rfl, ite2 (fun h6 => ?_) (fun h6 => ?_)⟩⟩
         · refine ⟨_, rfl, b, g, l, _, rfl, B2, by omega, fun v lo hi H3 sp G3 B3 S3 => ?_⟩
           have S13 := S2.trans S3
           have e3 := S13 _ _ e1 rb rg
           have F3 := F1.sameB S13
           have D3 := D1.sameB B1 db dg S13
           have S03 := S1.trans S13
           have a3 : ∀ q ∈ qs, H3 q.1 = some (.tup [.str q.2.1, eV q.2.2.1, eV q.2.2.2]) ∧ Good q.2.2.1 q.2.2.2 := fun q hq => ⟨S13.tup B1 (a1 q hq).1, (a1 q hq).2⟩
           obtain ⟨kv3, k31, k32, k33⟩ := id D3
           have kf3 := k33 f'
           rw [hs] at kf3
           obtain ⟨t3, z1, z2⟩ := kf3
           refine ⟨_, rfl, _, rfl, d, _, rfl, DGet.k (k := Sum.inr f') k31, _, rfl, ?_⟩
           rw [z1]
           refine iteT ⟨_, rfl, rfl, _, rfl, ite2 (fun _ => ?_) (fun _ => ⟨_, rfl, _, rfl, d, _, rfl, DGet.k (k := Sum.inr f') k31, _, rfl, ?_⟩)⟩
           · obtain ⟨sa, rfl, es⟩ := sp
             refine ⟨_, rfl, .inl ⟨rfl, _, SqL.of e3⟩, _, rfl, _, rfl, sa, _, 0, _, rfl, rfl, SqT.of es, rfl, _, rfl, sa, _, 1, _, rfl, rfl, SqT.of es, rfl, zq3, fun t ht => ?_⟩
             have st := zae ht (.tup [V.str f', eV lo, eV hi])
             have e4 := st _ _ e3
             refine ⟨r, _, _, rfl, rfl, e4, (by rw [List.length_map]; have := u1.length_le; simp at this; exact zao (by omega)), ?_⟩
             have tl := zaY (o := .lst (qs.map (fun q => V.ref q.1) ++ [V.ref t])) e4
             refine ⟨⟨_, _, _, _, _, rfl⟩, (S03.trans st.sameB).off nr, ((B3.same st).off rb rg rl).mono (by omega), ?_, (D3.same st).off e4, qs ++ [(t, f', lo, hi)], ?_, ?_, ?_⟩
             · have F4 := F3.sameB st.sameB
               exact ⟨by rw [zak rf.symm]; exact F4.at', F4.nb, F4.ng, F4.len, F4.ok, F4.asc⟩
             · rw [zab, List.map_append]; rfl
             · intro q hq
               rcases List.mem_append.mp hq with z | z
               · exact ⟨tl _ _ (st _ _ (a3 q z).1), (a3 q z).2⟩
               · rw [List.mem_singleton.mp z]
                 exact ⟨tl _ _ zab, G3⟩
             · rw [List.map_append, zaq ef]
               exact u1.append (List.Sublist.refl _)
           · rw [z1]
             exact iteF ⟨⟨_, _, _, _, _, rfl⟩, S03, B3.mono (by omega), F3, D3, qs, e3, a3, u2⟩
         · have B3 := B2
           have S13 := S2
           have sp : SpanAt H2 (.ref t2) sp0.1 sp0.2 := ⟨t2, rfl, y2⟩
           obtain ⟨lo, elo⟩ : ∃ lo, sp0.1 = lo := ⟨_, rfl⟩
           obtain ⟨hi, ehi⟩ : ∃ hi, sp0.2 = hi := ⟨_, rfl⟩
           rw [elo, ehi] at sp G0
           have G3 := G0
           have e3 := S13 _ _ e1 rb rg
           have F3 := F1.sameB S13
           have D3 := D1.sameB B1 db dg S13
           have S03 := S1.trans S13
           have a3 : ∀ q ∈ qs, H2 q.1 = some (.tup [.str q.2.1, eV q.2.2.1, eV q.2.2.2]) ∧ Good q.2.2.1 q.2.2.2 := fun q hq => ⟨S13.tup B1 (a1 q hq).1, (a1 q hq).2⟩
           obtain ⟨kv3, k31, k32, k33⟩ := id D3
           have kf3 := k33 f'
           rw [hs] at kf3
           obtain ⟨t3, z1, z2⟩ := kf3
           refine ⟨_, rfl, _, rfl, d, _, rfl, DGet.k (k := Sum.inr f') k31, _, rfl, ?_⟩
           rw [z1]
           refine iteT ⟨_, rfl, rfl, _, rfl, ite2 (fun _ => ?_) (fun _ => ⟨_, rfl, _, rfl, d, _, rfl, DGet.k (k := Sum.inr f') k31, _, rfl, ?_⟩)⟩
           · obtain ⟨sa, hsa, es⟩ := sp
             obtain rfl : t2 = sa := by injection hsa
             refine ⟨_, rfl, .inl ⟨rfl, _, SqL.of e3⟩, _, rfl, _, rfl, t2, _, 0, _, rfl, rfl, SqT.of es, rfl, _, rfl, t2, _, 1, _, rfl, rfl, SqT.of es, rfl, zq3, fun t ht => ?_⟩
             have st := zae ht (.tup [V.str f', eV lo, eV hi])
             have e4 := st _ _ e3
             refine ⟨r, _, _, rfl, rfl, e4, (by rw [List.length_map]; have := u1.length_le; simp at this; exact zao (by omega)), ?_⟩
             have tl := zaY (o := .lst (qs.map (fun q => V.ref q.1) ++ [V.ref t])) e4
             refine ⟨⟨_, _, _, _, _, rfl⟩, (S03.trans st.sameB).off nr, ((B3.same st).off rb rg rl).mono (by omega), ?_, (D3.same st).off e4, qs ++ [(t, f', lo, hi)], ?_, ?_, ?_⟩
             · have F4 := F3.sameB st.sameB
               exact ⟨by rw [zak rf.symm]; exact F4.at', F4.nb, F4.ng, F4.len, F4.ok, F4.asc⟩
             · rw [zab, List.map_append]; rfl
             · intro q hq
               rcases List.mem_append.mp hq with z | z
               · exact ⟨tl _ _ (st _ _ (a3 q z).1), (a3 q z).2⟩
               · rw [List.mem_singleton.mp z]
                 exact ⟨tl _ _ zab, G3⟩
             · rw [List.map_append, zaq ef]
               exact u1.append (List.Sublist.refl _)
           · rw [z1]
             exact iteF ⟨⟨_, _, _, _, _, rfl⟩, S03, B3.mono (by omega), F3, D3, qs, e3, a3, u2⟩
      | none =>
       rw [hs] at kf2
       rw [kf2]
       refine iteF ⟨_, rfl, b, g, l, _, rfl, B2, by omega, fun v lo hi H3 sp G3 B3 S3 => ?_⟩
       have S13 := S2.trans S3
       have e3 := S13 _ _ e1 rb rg
       have F3 := F1.sameB S13
       have D3 := D1.sameB B1 db dg S13
       have S03 := S1.trans S13
       have a3 : ∀ q ∈ qs, H3 q.1 = some (.tup [.str q.2.1, eV q.2.2.1, eV q.2.2.2]) ∧ Good q.2.2.1 q.2.2.2 := fun q hq => ⟨S13.tup B1 (a1 q hq).1, (a1 q hq).2⟩
       obtain ⟨kv3, k31, k32, k33⟩ := id D3
       have kf3 := k33 f'
       rw [hs] at kf3
       have no : ∀ (Q' : VK), Q' (.bl false) H3 → True := fun _ _ => trivial
       have gd3 : DGet H3 d (.str f') none := by
        have := DGet.k (k := Sum.inr f') k31
        rw [kf3] at this
        exact this
       refine ⟨_, rfl, _, rfl, d, _, rfl, gd3, _, rfl, iteF ?_⟩
       refine ⟨_, rfl, _, rfl, d, _, rfl, gd3, _, rfl, iteF ?_⟩
       refine ⟨_, rfl, _, rfl, d, _, rfl, gd3, _, rfl, iteF ?_⟩
       refine ⟨_, rfl, _, rfl, d, _, rfl, gd3, _, rfl, iteT ⟨_, rfl, _, _, rfl, rfl, _, rfl, ite2 (fun _ => ?_) (fun _ => ?_)⟩⟩
       · obtain ⟨sa, rfl, es⟩ := sp
         refine ⟨_, rfl, .inl ⟨rfl, _, SqL.of e3⟩, _, rfl, _, rfl, sa, _, 0, _, rfl, rfl, SqT.of es, rfl, _, rfl, sa, _, 1, _, rfl, rfl, SqT.of es, rfl, zq3, fun t ht => ?_⟩
         have st := zae ht (.tup [V.str f', eV lo, eV hi])
         have e4 := st _ _ e3
         refine ⟨r, _, _, rfl, rfl, e4, (by rw [List.length_map]; have := u1.length_le; simp at this; exact zao (by omega)), ?_⟩
         have tl := zaY (o := .lst (qs.map (fun q => V.ref q.1) ++ [V.ref t])) e4
         refine ⟨⟨_, _, _, _, _, rfl⟩, (S03.trans st.sameB).off nr, ((B3.same st).off rb rg rl).mono (by omega), ?_, (D3.same st).off e4, qs ++ [(t, f', lo, hi)], ?_, ?_, ?_⟩
         · have F4 := F3.sameB st.sameB
           exact ⟨by rw [zak rf.symm]; exact F4.at', F4.nb, F4.ng, F4.len, F4.ok, F4.asc⟩
         · rw [zab, List.map_append]; rfl
         · intro q hq
           rcases List.mem_append.mp hq with z | z
           · exact ⟨tl _ _ (st _ _ (a3 q z).1), (a3 q z).2⟩
           · rw [List.mem_singleton.mp z]
             exact ⟨tl _ _ zab, G3⟩
         · rw [List.map_append, zaq ef]
           exact u1.append (List.Sublist.refl _)
       · exact ⟨⟨_, _, _, _, _, rfl⟩, S03, B3.mono (by omega), F3, D3, qs, e3, a3, u2⟩
   · rintro σ H1 ⟨⟨y4, y5, y6, y8, y9, rfl⟩, S1, B1, F1, D1, qs, e1, a1, u1⟩
     rw [show fs.take (fs.map V.str).length = fs from List.take_of_length_le (by simp)] at u1
     have ll : qs.length ≤ 9 := by have h1 := u1.length_le; have h2 := FA.len; rw [List.length_map] at h1; omega
     refine ⟨_, rfl, r, _, rfl, .inl ⟨SqL.of e1, fun t ht => ?_⟩⟩
     have st := zae ht (.tup (qs.map fun q => V.ref q.1))
     refine q t (qs.map (·.2)) _ ⟨qs, rfl, zab, fun q hq => st _ _ (a1 q hq).1⟩ ⟨by rw [List.length_map]; omega, fun p hp => ?_, ?_⟩ ((B1.same st).mono (by rw [List.length_map]; have := FA.len; omega)) (S1.trans st.sameB)
     · obtain ⟨q', hq', rfl⟩ := List.mem_map.mp hp
       exact ⟨FA.ok _ (u1.subset (List.mem_map_of_mem (f := fun (x : Addr × WP) => x.2.1) hq')), (a1 q' hq').2⟩
     · rw [List.map_map]
       exact FA.asc.sublist u1
theorem ziu (F : Fun K "_law_two" "_law_two" zc6 f fd) (G_law_draw : Γ26 P w K mg base) (G_law_fields : Γ33 P w K mg base) (G_law_wish : Γ35 P w K mg base) (G_law_beside : Γ36 P w K mg base) : FnOk P w K mg base CX0 5 f fd ["bag"] (ziV) := by
 refine F.ok sc_law_two (fun vs H Q E h => ?_) (fun cdv A outer s H vs Q E hr h => ?_)
 · obtain ⟨b, g, l, n, rfl, Bg, hn, q⟩ := h
   rfl
 obtain ⟨b, g, l, n, rfl, Bg, hn, q⟩ := h
 refine ⟨_, (zad (zaw (i := 1) sc_law_two.nd rfl (Or.inl rfl) (zar G_law_draw (hr.mono (by decide)) rfl (zaa (pv 0) (zaa zaf zac))))
  (zad (zaw (i := 2) sc_law_two.nd rfl (Or.inl rfl) (zar G_law_fields (hr.mono (by decide)) rfl (zaa (pv 0) (zaa zaf zac))))
  (zad (zaw (i := 3) sc_law_two.nd rfl (Or.inl rfl) (zar G_law_wish (hr.mono (by decide)) rfl (zaa (pv 0) (zaa (pv 2) zac))))
  (zad (zaF (zas zb0 (pv 1) zaf (zau _)) (zag (zal (zay (zaa (pv 3) (zaa (zar G_law_wish (hr.mono (by decide)) rfl (zaa (pv 0) (zaa (zar G_law_fields (hr.mono (by decide)) rfl (zaa (pv 0) (zaa zaf zac))) zac))) zac))))) zap)
  (zag (zal (zay (zaa (pv 3) (zaa (zcp (zas zb0 (pv 1) zaf (zau _)) (zar G_law_wish (hr.mono (by decide)) rfl (zaa (pv 0) (zaa (pv 2) zac))) (zar G_law_beside (hr.mono (by decide)) rfl (zaa (pv 0) (zaa (pv 3) (zaa (pv 2) zac))))) zac))))))))), ?_⟩
 refine ⟨_, rfl, b, g, l, n, 5, rfl, Bg, by omega, by decide, by decide, fun c H1 c0 c1 B1 S1 => ?_⟩
 refine ⟨_, rfl, b, g, l, _, 6, rfl, B1, by omega, by decide, by decide, fun fl fs H2 nf ef asc fok fln B2 S2 => ?_⟩
 obtain ⟨fb, fg, _⟩ := B1.free nf
 have FA : FieldsAt H2 b g fl fs := ⟨ef, fb, fg, by omega, fok, asc⟩
 refine ⟨_, rfl, _, rfl, b, g, l, fl, _, fs, rfl, B2, by omega, FA, fun o1 w1 H3 W3 D3 B3 S3 => ?_⟩
 have FA3 := FA.sameB S3
 have S03 := S1.trans (S2.trans S3)
 have fin : ∀ (o2 : Addr) (w2 : List WP) (H4 : Hp), WishAt H4 o2 w2 → WDrawn w2 → Bag H4 b g l (n + 900) → SameB b g H3 H4 → ∀ t, H4 t = none → Q (.ref t) (upd H4 t (.tup [.ref o1, .ref o2])) := fun o2 w2 H4 W4 D4 B4 S4 t ht => by
  have st := zae ht (.tup [.ref o1, .ref o2])
  exact q t o1 o2 w1 w2 _ zab ((W3.sameB B3 S4).same st) (W4.same st) D3 D4 ((B4.same st).mono (by omega)) ((S03.trans S4).trans st.sameB)
 refine ⟨_, rfl, rfl, _, rfl, ite2 (fun _ => ?_) (fun _ => ?_)⟩
 · refine ⟨_, rfl, _, rfl, _, rfl, b, g, l, _, 6, rfl, B3, by omega, by decide, by decide, fun fl2 fs2 H4 nf2 ef2 asc2 fok2 fln2 B4 S4 => ?_⟩
   obtain ⟨fb2, fg2, _⟩ := B3.free nf2
   refine ⟨b, g, l, fl2, _, fs2, rfl, B4, by omega, ⟨ef2, fb2, fg2, by omega, fok2, asc2⟩, fun o2 w2 H5 W5 D5 B5 S5 => ?_⟩
   exact ⟨zq2, fin o2 w2 H5 W5 D5 (B5.mono (by omega)) (S4.trans S5)⟩
 · refine ⟨_, rfl, _, rfl, rfl, _, rfl, ite2 (fun _ => ?_) (fun _ => ?_)⟩
   · exact ⟨_, rfl, _, rfl, b, g, l, fl, _, fs, rfl, B3, by omega, FA3, fun o2 w2 H5 W5 D5 B5 S5 => ⟨zq2, fin o2 w2 H5 W5 D5 (B5.mono (by omega)) S5⟩⟩
   · exact ⟨_, rfl, _, rfl, _, rfl, b, g, l, o1, fl, _, w1, fs, rfl, B3, by omega, W3, D3, FA3, fun o2 w2 H5 W5 D5 B5 S5 => ⟨zq2, fin o2 w2 H5 W5 D5 (B5.mono (by omega)) S5⟩⟩
theorem zeq (F : Fun K "_law_span_of" "_law_span_of" zbj f fd)  : FnOk P w K mg base CX0 1 f fd ["wish", "field"] (zeN) := by
 refine F.ok sc_law_span_of (fun vs H Q E h => ?_) (fun cdv A outer s H vs Q E hr h => ?_)
 · obtain ⟨a, w', f', rfl, hw, wok, q⟩ := h
   rfl
 obtain ⟨a, w', f', rfl, hw, wok, q⟩ := h
 refine ⟨_, (zad (zc9 (N' := ["name", "low", "high", "field"]) (js := [none, none, none, some 1]) (i := 2) sc_law_span_of.nd rfl (Or.inl rfl) rfl (zbZ (N := ["wish", "field", "found"]) (outer := zah zbj) (by decide +kernel)) (zbX (pv 0)) (fun _ _ _ _ _ => (ze8 K rfl (n := 3) rfl (zan (zai (i := 0) (show List.Nodup (["name", "low", "high", "field"] : List Str) by decide +kernel) rfl (Or.inl rfl)) (zan (zai (i := 1) (show List.Nodup (["name", "low", "high", "field"] : List Str) by decide +kernel) rfl (Or.inl rfl)) (zan (zai (i := 2) (show List.Nodup (["name", "low", "high", "field"] : List Str) by decide +kernel) rfl (Or.inl rfl)) zaS))))) (fun _ _ _ _ _ => zb9 (zas zb0 (pv 0) (pv 3) (zau _))) (fun _ _ _ _ _ => (zay (zaa (pv 1) (zaa (pv 2) zac)))))
  (zag (zal (zcp (zas (zfP (zby hr)) (pv 2) (za6 zac) (zau _)) (zaE zaJ (pv 2) zaf (fun _ _ => rfl)) (zay (zaa za5 (zaa za5 zac))))))), ?_⟩
 obtain ⟨ps, rfl, hA, hP⟩ := hw
 have ll : ps.length ≤ 100 := by have := wok.len; rw [List.length_map] at this; exact this
 refine ⟨_, rfl, a, rfl, ⟨_, SqT.of hA⟩, fun p hp => ?_⟩
 refine zf5 (xs := ps.map fun p => V.ref p.1) (fun j σ' ys H2 => (∃ v1 v2 v3, σ' = [v1, v2, v3, some (.str f')]) ∧ Same H H2 ∧ H2 p = some (.lst ys) ∧ ys.length ≤ j ∧ match zaj ((ps.map (·.2)).take j) f' with
  | none => ys = []
  | some s => ∃ t, ys = [.ref t] ∧ H2 t = some (.tup [eV s.1, eV s.2])) ⟨⟨none, none, none, rfl⟩, zae hp _, zab, Nat.le_refl _, rfl⟩ ?_ ?_ ?_
 · rintro j σ' ys H2 hj ⟨_, s2, h1, h2, _⟩
   rw [List.length_map] at hj
   exact ⟨s2.seqT (SqT.of hA), h1, zao (by omega)⟩
 · rintro j y σ' ys H2 N hy ⟨⟨v1, v2, v3, rfl⟩, s2, h1, h2, h3⟩ hN
   rw [List.getElem?_map] at hy
   cases e2 : ps[j]? with
   | none => rw [e2] at hy; cases hy
   | some P2 =>
    rw [e2] at hy
    obtain rfl : V.ref P2.1 = y := Option.some.inj hy
    have hm2 := List.mem_of_getElem? e2
    have ep : (ps.map (·.2))[j]? = some P2.2 := by rw [List.getElem?_map, e2]; rfl
    have fr := wok.fresh ep
    refine ⟨P2.1, _, rfl, SqT.of (s2 _ _ (hP P2 hm2)), rfl, _, _, rfl, _, _, rfl, _, _, rfl, rfl, ?_⟩
    refine ⟨_, rfl, _, rfl, rfl, _, rfl, ite2 (fun hx => ?_) (fun hx => ?_)⟩
    · have hx' : f' = P2.2.1 := (V.str.inj (by simpa using hx)).symm
      rw [hx', fr] at h3
      subst h3
      refine ⟨_, rfl, _, rfl, zq2, fun t ht => ?_⟩
      have st := zae ht (.tup [eV P2.2.2.1, eV P2.2.2.2])
      refine ⟨st _ _ h1, hN _ _ _ ⟨⟨_, _, _, rfl⟩, za1 (s2.trans st) hp, zab, by simp, ?_⟩⟩
      rw [zaq ep, zbV _ _ _ fr, if_pos hx']
      refine ⟨t, rfl, ?_⟩
      have : t ≠ p := fun z => by rw [z, h1] at ht; cases ht
      rw [zak this, zab]
    · have hx' : f' ≠ P2.2.1 := fun z => hx (by rw [z]; simp)
      refine hN _ _ _ ⟨⟨_, _, _, rfl⟩, s2, h1, by omega, ?_⟩
      rw [zaq ep, zbV _ _ _ fr, if_neg hx']
      exact h3
 · rintro σ' ys H2 ⟨_, s2, h1, h2, h3⟩
   have et : (ps.map (·.2)).take (ps.map fun p => V.ref p.1).length = ps.map (·.2) := List.take_of_length_le (by simp)
   rw [et] at h3
   refine ⟨_, rfl, sz0, fun z hz => ?_⟩
   have s3 := zae hz (.lst [])
   cases hs : zaj (ps.map (·.2)) f' with
   | none =>
    rw [hs] at h3
    subst h3
    refine zky (ns := []) (SqL.of (s3 _ _ h1)) (SqL.of zab) ⟨_, rfl, iteF ⟨zq2, fun t ht => ?_⟩⟩
    have st := zae ht (.tup [V.non, V.non])
    have eo : zam (ps.map (·.2)) f' = (none, none) := by unfold zam; rw [hs]; rfl
    exact q _ _ (s2.trans (s3.trans st)) (by rw [eo]; exact ⟨t, rfl, zab⟩)
   | some sp =>
    rw [hs] at h3
    obtain ⟨t, rfl, e3⟩ := h3
    have eo : zam (ps.map (·.2)) f' = sp := by unfold zam; rw [hs]; rfl
    refine zmM (SqL.of (s3 _ _ h1)) (SqT.of (s3 _ _ e3)) (SqL.of zab) ⟨_, rfl, iteT ⟨_, rfl, p, _, 0, _, rfl, rfl, SqL.of (s3 _ _ h1), at0, ?_⟩⟩
    exact q _ _ (s2.trans s3) (by rw [eo]; exact ⟨t, rfl, s3 _ _ e3⟩)
theorem zfa (F : Fun K "_law_points" "_law_points" zb3 f fd)  : FnOk P w K mg base CX0 1 f fd ["spans"] (zeQ K) := by
 refine F.ok sc_law_points (fun vs H Q E h => ?_) (fun cdv A outer s H vs Q E hr h => ?_)
 · obtain ⟨a, ss, rfl, hS, hT, h8, q⟩ := h
   rfl
 obtain ⟨a, ss, rfl, hS, hT, h8, q⟩ := h
 refine ⟨_, (zad (zaw (i := 1) sc_law_points.nd rfl (Or.inl rfl) (za6 (zaa zaf (zaa (zaA zbG zaf zaf) (zaa (zaA zch zaf (zaA zbG zaf zaf)) zac)))))
  (zad (zbl PassesOwn.never rfl (zaR (pv 0)) (zai (i := 2) sc_law_points.nd rfl (Or.inl rfl)) (zag (zbl PassesOwn.never rfl (zbX (pv 2)) (zai (i := 3) sc_law_points.nd rfl (Or.inl rfl)) (zag (zaF (zaK (zaT (pv 3))) (zag (zaw (i := 1) sc_law_points.nd rfl (Or.inl rfl) (zaA zhR (pv 1) (za6 (zaa (zaA zch (pv 3) zaf) (zaa (pv 3) (zaa (zaA zbM (pv 3) zaf) zac))))))) zap)))))
  (zag (zal (pv 1))))), ?_⟩
 refine ⟨_, _, rfl, rfl, pw10 (by decide) (by decide), _, _, rfl, rfl, pw10 (by decide) (by decide), _, _, rfl, rfl, zq3, fun p0 hp0 => ?_⟩
 have s0 := zae hp0 (.lst (pts0.map V.int))
 refine ⟨_, rfl, a, rfl, ⟨_, s0.seq hS⟩, zbz (K := K) (a := a) (xs := ss.map fun s => V.ref s.1) (fun i σ H' => ∃ (pa : Addr) (x2 x3 : Option V), σ = [some (.ref a), some (.ref pa), x2, x3] ∧ Same H H' ∧ H' pa = some (.lst ((zcA ((ss.take i).map (·.2))).map V.int)))
  ⟨p0, none, none, rfl, s0, zab⟩ (fun i σ H' _ ⟨_, _, _, _, s, _⟩ => s.seq hS) ?_ ?_⟩
 · rintro i x σ H1 hx ⟨pa, x2, x3, rfl, s1, e1⟩
   rw [List.getElem?_map] at hx
   cases hs' : ss[i]? with
   | none => rw [hs'] at hx; cases hx
   | some sp =>
    rw [hs'] at hx
    obtain rfl : V.ref sp.1 = x := Option.some.inj hx
    have hm : sp ∈ ss := List.mem_of_getElem? hs'
    have et := hT sp hm
    have il : i < ss.length := (List.getElem?_eq_some_iff.mp hs').1
    have e4 := zaq hs'
    refine ⟨_, rfl, sp.1, rfl, ⟨_, SqT.of (s1 _ _ et)⟩, zc3 (K := K) (a := sp.1) (xs := [eV sp.2.1, eV sp.2.2]) (fun j σ H' => ∃ (pb : Addr) (y3 : Option V), σ = [some (.ref a), some (.ref pb), some (.ref sp.1), y3] ∧ Same H H' ∧ H' pb = some (.lst ((zcA ((ss.take i).map (·.2)) ++ ([sp.2.1, sp.2.2].take j).flatMap near).map V.int)))
     ⟨pa, x3, rfl, s1, by rw [e1]; simp⟩ (fun j σ H' _ ⟨_, _, _, s, _⟩ => SqT.of (s _ _ et)) ?_ ?_⟩
    · rintro j y σ H2 hy ⟨pb, y3, rfl, s2, e2⟩
      have j2 : j < 2 := (List.getElem?_eq_some_iff.mp hy).1
      obtain ⟨o, rfl, ho⟩ : ∃ o, y = eV o ∧ [sp.2.1, sp.2.2][j]? = some o := by
       match j, hy with
       | 0, hy => exact ⟨_, (Option.some.inj hy).symm, rfl⟩
       | 1, hy => exact ⟨_, (Option.some.inj hy).symm, rfl⟩
      have e3 := zaq ho
      refine ⟨_, rfl, _, rfl, ?_⟩
      cases o with
      | none =>
       refine iteF ⟨pb, _, rfl, s2, ?_⟩
       rw [e2, e3, List.flatMap_append]
       simp [near]
      | some v =>
       refine iteT ⟨_, rfl, _, rfl, _, _, rfl, rfl, _, rfl, _, rfl, _, _, rfl, rfl, zq3, fun p hp => ?_⟩
       have s3 := zae hp (.lst [V.int (v - 1), V.int v, V.int (v + 1)])
       refine ⟨pb, p, _, _, rfl, rfl, s3 _ _ e2, zab, ?_, fun t ht => ?_⟩
       · have k1 := zgV ((ss.take i).map (·.2))
         have k2 : (([sp.2.1, sp.2.2].take j).flatMap near).length ≤ 6 := by
          match j, j2 with
          | 0, _ => simp
          | 1, _ => simp only [List.take_succ_cons, List.take_zero, List.flatMap_cons, List.flatMap_nil, List.append_nil]; have := zfi sp.2.1; omega
         rw [List.length_map, List.length_append]
         rw [List.length_map, List.length_take] at k1
         simp only [List.length_cons, List.length_nil]
         exact zgK (by omega)
       · refine ⟨t, _, rfl, s2.trans (s3.trans (zae ht _)), ?_⟩
         rw [zab, e3, List.flatMap_append, ← List.append_assoc, List.map_append (l₂ := List.flatMap near [some v])]
         rfl
    · rintro σ H2 ⟨pb, y3, rfl, s2, e2⟩
      refine ⟨pb, _, _, rfl, s2, ?_⟩
      rw [e2, e4, List.map_append]
      simp [zcA, List.flatMap_append]
 · rintro σ H1 ⟨pa, x2, x3, rfl, s1, e1⟩
   refine ⟨_, rfl, q pa H1 s1 ?_⟩
   rw [e1, List.length_map, List.take_length]
theorem zfU (F : Fun K "_law_wants" "_law_wants" zcm f fd) (G_law_in : Γ31 P w K mg base) : FnOk P w K mg base CX0 2 f fd ["wish", "piece"] (zgA) := by
 refine F.ok sc_law_wants (fun vs H Q E h => ?_) (fun cdv A outer s H vs Q E hr h => ?_)
 · obtain ⟨a, b, w', p, rfl, hw, hp, pok, q⟩ := h
   rfl
 obtain ⟨a, b, w', p, rfl, hw, hp, pok, q⟩ := h
 refine ⟨_, (zad (zaw (i := 2) sc_law_wants.nd rfl (Or.inl rfl) (za7 (ziJ rfl) rfl B.dict_ zlI (zaa (pv 1) zac)))
  (zad (zbl PassesOwn.never rfl (zbX (pv 0)) (zca rfl (zan (zai (i := 3) sc_law_wants.nd rfl (Or.inl rfl)) (zan (zai (i := 4) sc_law_wants.nd rfl (Or.inl rfl)) (zan (zai (i := 5) sc_law_wants.nd rfl (Or.inl rfl)) zaS)))) (zag (zaF (PW.pt (zcz (zaK (zd8 (zci hr) (pv 3) (pv 2)) (by with_unfolding_all rfl)) (zb7 (zaX (zaQ (zar G_law_in (hr.mono (by decide)) rfl (zaa (zay (zaa (pv 4) (zaa (pv 5) zac))) (zaa (zcE (zci hr) (pv 2) (pv 3) (fun _ _ => rfl)) zac)))))))) (zag (zal zbQ)) zap)))
  (zag (zal zbQ)))), ?_⟩
 obtain ⟨ps, rfl, hA, hP⟩ := hp
 have ll : ps.length ≤ 100 := by have := pok.len; rw [List.length_map] at this; exact this
 refine ⟨_, rfl, b, zd5 ps, rfl, ?_, ?_, fun d hd => ?_⟩
 · unfold zd5; rw [List.map_map]; exact hA
 · intro r hr'
   unfold zd5 at hr'
   obtain ⟨P1, hm, rfl⟩ := List.mem_map.mp hr'
   exact hP P1 hm
 have s1 := zae hd (.dK ((zd5 ps).foldl (fun acc p => putK acc p.2.1 p.2.2) []))
 have h1 : (upd H d (.dK ((zd5 ps).foldl (fun acc p => putK acc p.2.1 p.2.2) []))) d = some (.dK ((zd5 ps).foldl (fun acc p => putK acc p.2.1 p.2.2) [])) := zab
 have h3 : ∀ f : Str, valV ((zd5 ps).foldl (fun acc p => putK acc p.2.1 p.2.2) []) (.inr f : Key) = (zbC (ps.map (·.2)) f).map V.int := zhp ps pok
 generalize (zd5 ps).foldl (fun acc p => putK acc p.2.1 p.2.2) [] = kvs at *
 generalize upd H d (.dK kvs) = H1 at *
 obtain ⟨ws, rfl, hB, hW⟩ := hw.same s1
 refine ⟨_, rfl, a, rfl, ⟨_, SqT.of hB⟩, zc3 (K := K) (a := a) (xs := ws.map fun p => V.ref p.1) (fun i σ H' => (∃ y3 y4 y5, σ = [some (.ref a), some (.ref b), some (.ref d), y3, y4, y5]) ∧ Same H1 H' ∧ zcr ((ws.map (·.2)).take i) (ps.map (·.2)) = true) ⟨⟨none, none, none, rfl⟩, Same.refl _, rfl⟩ (fun i σ H' _ ⟨_, s, _⟩ => s.seqT (SqT.of hB)) ?_ ?_⟩
 · rintro i x σ H' hx ⟨⟨y2, y3, y4, rfl⟩, s, hr'⟩
   rw [List.getElem?_map] at hx
   cases e1 : ws[i]? with
   | none => rw [e1] at hx; cases hx
   | some P1 =>
    rw [e1] at hx
    obtain rfl : V.ref P1.1 = x := Option.some.inj hx
    have hm := List.mem_of_getElem? e1
    have ew : (ws.map (·.2))[i]? = some P1.2 := by rw [List.getElem?_map, e1]; rfl
    have k1 := s _ _ h1
    have kf := h3 P1.2.1
    refine ⟨P1.1, _, rfl, SqT.of (s _ _ (hW P1 hm)), rfl, _, _, rfl, _, _, rfl, _, _, rfl, rfl, ?_⟩
    have out : zdx (ps.map (·.2)) P1.2 = false → zcr (ws.map (·.2)) (ps.map (·.2)) = false := fun h => zij (List.mem_map_of_mem hm) h
    refine ⟨_, rfl, _, rfl, d, _, rfl, DGet.k (k := Sum.inr P1.2.1) k1, _, rfl, ?_⟩
    cases hs : zbC (ps.map (·.2)) P1.2.1 with
    | none =>
     rw [hs] at kf
     rw [kf]
     refine iteT ?_
     have o1 := out (zgx hs)
     rw [o1] at q
     exact q _ (s1.trans s)
    | some n =>
     rw [hs] at kf
     rw [kf]
     refine iteF ⟨_, rfl, _, rfl, zq2, fun u hu => ?_⟩
     have su := zae hu (.tup [eV P1.2.2.1, eV P1.2.2.2])
     have gd : DGet (upd H' u (.tup [eV P1.2.2.1, eV P1.2.2.2])) d (.str P1.2.1) (some (.int n)) := by
      have := DGet.k (k := Sum.inr P1.2.1) (su _ _ k1)
      rw [kf] at this
      exact this
     refine ⟨_, rfl, _, rfl, d, _, rfl, gd, .ref u, P1.2.2.1, P1.2.2.2, n, rfl, ⟨u, rfl, zab⟩, _, rfl, ?_⟩
     cases hb : inB P1.2.2.1 P1.2.2.2 n with
     | false =>
      refine iteT ?_
      have o1 := out ((zcW hs).trans hb)
      rw [o1] at q
      exact q _ (s1.trans (s.trans su))
     | true =>
      refine iteF ⟨⟨_, _, _, rfl⟩, s.trans su, ?_⟩
      rw [zaq ew]
      unfold zcr at *
      rw [List.all_append, hr', Bool.true_and, List.all_cons, List.all_nil, zcW hs, hb]
      rfl
 · rintro σ H' ⟨_, s, hr'⟩
   rw [show (ws.map (·.2)).take (ws.map fun p => V.ref p.1).length = ws.map (·.2) from List.take_of_length_le (by simp)] at hr'
   rw [hr'] at q
   exact q _ (s1.trans s)
theorem zed (F : Fun K "_law_is_field" "_law_is_field" za3 f fd)  : FnOk P w K mg base CX0 1 f fd ["thing"] (zcx) := by
 refine F.ok zd2 (fun vs H Q E h => ?_) (fun cdv A outer s H vs Q E hr h => ?_)
 · obtain ⟨x, rfl, F1, q⟩ := h
   rfl
 obtain ⟨x, rfl, F1, q⟩ := h
 refine ⟨_, (zad (zaF (PW.pt (zcz (zaX (zaQ (zat (zaG (n := "")) rfl B.isinstance_ zaz (zaa (pv 0) (zaa (zbF (v := .ty "str") rfl B.str_ zk8 rfl) zac))))) (zcz (zas zjn (zat zcH rfl B.len_ zdh (zaa (pv 0) zac)) zaf (zau _)) (zb7 (zas zis (zat zcH rfl B.len_ zdh (zaa (pv 0) zac)) zaf (zau _)))))) (zag (zal zbQ)) zap)
  (zag (zal (zbq (zjp (zby hr)) (zcD (N' := ["sign"]) (js := [none]) rfl (zbZ (N := ["thing"]) (outer := zah za3) (by decide +kernel)) (zk1 (pv 0)) (fun _ _ _ _ _ => (zai (i := 0) (show List.Nodup (["sign"] : List Str) by decide +kernel) rfl (Or.inl rfl))) (fun _ _ _ _ _ => zb9 (zas zfO (pv 0) zey (by with_unfolding_all rfl))) (fun _ _ _ _ _ => (pv 0))) (za6 zac) (zau _))))), ?_⟩
 have l1 := F1.one
 have l8 := F1.eight
 refine ⟨_, rfl, _, "str", "str", true, rfl, .str x, rfl, _, rfl, iteF ⟨_, rfl, x, rfl, zgK (by omega), _, _, rfl, rfl, _, rfl, ite2 (fun h => absurd (of_decide_eq_true h) (by omega)) (fun _ => ⟨_, rfl, x, rfl, zgK (by omega), _, _, rfl, rfl, _, rfl, ite2 (fun h => absurd (of_decide_eq_true h) (by omega)) (fun _ => ?_)⟩)⟩⟩
 refine ⟨_, rfl, x, rfl, fun p hp => ?_⟩
 have s0 := zae hp (.lst [])
 refine zk4 (xs := L2.signs x) (fun i σ' ys H' => (∃ v, σ' = [v]) ∧ Same H H' ∧ H' p = some (.lst ys) ∧ ys = []) ⟨⟨none, rfl⟩, s0, zab, rfl⟩ ?_ ?_ ?_
 · rintro i σ' ys H' hi ⟨_, _, h1, h2⟩
   exact ⟨h1, by rw [h2]; exact zao (by simp)⟩
 · rintro i y σ' ys H' N hy ⟨⟨v, rfl⟩, s, h1, h2⟩ hN
   unfold L2.signs at hy
   rw [List.getElem?_map] at hy
   cases hc : x.cps.toList[i]? with
   | none => rw [hc] at hy; cases hy
   | some c =>
    rw [hc] at hy
    obtain rfl : V.str ⟨#[c]⟩ = y := Option.some.inj hy
    have ok := F1.all c (List.mem_of_getElem? hc)
    refine ⟨_, rfl, _, _, rfl, rfl, _, rfl, ?_⟩
    rw [zmX ok]
    exact iteF (hN _ _ _ ⟨⟨_, rfl⟩, s, h1, h2⟩)
 · rintro σ' ys H' ⟨_, s, h1, rfl⟩
   refine ⟨sz0, fun z hz => ?_⟩
   have s3 := zae hz (.lst [])
   exact zmT (ns := []) (SqL.of (s3 _ _ h1)) (SqL.of zab) (q _ (s.trans s3))
theorem zer (F : Fun K "_law_is_span" "_law_is_span" zbO f fd) (G_law_whole : Γ30 P w K mg base) : FnOk P w K mg base CX0 2 f fd ["low", "high"] (zc0) := by
 refine F.ok sc_law_is_span (fun vs H Q E h => ?_) (fun cdv A outer s H vs Q E hr h => ?_)
 · obtain ⟨lo, hi, rfl, hle, q⟩ := h
   rfl
 obtain ⟨lo, hi, rfl, hle, q⟩ := h
 refine ⟨_, (zad (zbl PassesOwn.never rfl (zaR (za6 (zaa (pv 0) (zaa (pv 1) zac)))) (zai (i := 2) sc_law_is_span.nd rfl (Or.inl rfl)) (zag (zaF (PW.pt (zbJ (zaK (zaT (pv 2))) (zbk (zaX (zaQ (zar G_law_whole (hr.mono (by decide)) rfl (zaa (pv 2) zac))))))) (zag (zal zbQ)) zap)))
  (zag (zal (zfN (zcF (zbL (pv 0))) (zfN (zcF (zbL (pv 1))) (zbK (zbq zg0 (pv 0) (pv 1) (zau _)))))))), ?_⟩
 refine ⟨_, rfl, _, rfl, zq2, fun l hl => ?_⟩
 have s0 := zae hl (.lst [eV lo, eV hi])
 have el : (upd H l (.lst [eV lo, eV hi])) l = some (.lst [eV lo, eV hi]) := zab
 generalize upd H l (.lst [eV lo, eV hi]) = H0 at *
 refine ⟨l, rfl, ⟨_, SqL.of el⟩, zbz (K := K) (a := l) (xs := [eV lo, eV hi]) (fun i σ H' => (∃ y, σ = [some (eV lo), some (eV hi), y]) ∧ Same H0 H') ⟨⟨none, rfl⟩, Same.refl _⟩ (fun i σ H' _ ⟨_, z⟩ => SqL.of (z _ _ el)) ?_ ?_⟩
 · rintro i x σ H1 hx ⟨⟨y, rfl⟩, s1⟩
   obtain ⟨o, rfl⟩ : ∃ o, x = eV o := by
    match i, hx with
    | 0, hx => exact ⟨lo, (Option.some.inj hx).symm⟩
    | 1, hx => exact ⟨hi, (Option.some.inj hx).symm⟩
    | k + 2, hx => simp at hx
   cases o with
   | none => exact ⟨_, rfl, _, rfl, iteF ⟨⟨_, rfl⟩, s1⟩⟩
   | some k => exact ⟨_, rfl, _, rfl, iteT ⟨_, rfl, .int k, "int", rfl, .int k, _, rfl, iteF ⟨⟨_, rfl⟩, s1⟩⟩⟩
 · rintro σ H1 ⟨⟨y, rfl⟩, s1⟩
   have t1 := s0.trans s1
   cases lo with
   | none => exact ⟨_, rfl, _, rfl, iteT (q _ t1)⟩
   | some l' =>
    cases hi with
    | none => exact ⟨_, rfl, _, rfl, iteF ⟨_, rfl, _, rfl, iteT (q _ t1)⟩⟩
    | some h' =>
     refine ⟨_, rfl, _, rfl, iteF ⟨_, rfl, _, rfl, iteF ⟨_, rfl, _, rfl, _, _, rfl, rfl, ?_⟩⟩⟩
     show Q (.bl (decide (l' ≤ h'))) H1
     rw [show decide (l' ≤ h') = true from hle]
     exact q _ t1
theorem zes (F : Fun K "_law_is_made" "_law_is_made" zbP f fd) (G_law_is_field : Γ41 P w K mg base) (G_law_is_span : Γ42 P w K mg base) (G_law_whole : Γ30 P w K mg base) : FnOk P w K mg base CX0 3 f fd ["thing", "size"] (zgF) := by
 refine F.ok sc_law_is_made (fun vs H Q E h => ?_) (fun cdv A outer s H vs Q E hr h => ?_)
 · obtain ⟨a, p, rfl, hp, pok, q⟩ := h
   rfl
 obtain ⟨a, p, rfl, hp, pok, q⟩ := h
 refine ⟨_, (zad (zaF (zaX (zaQ (zat (zaG (n := "")) rfl B.isinstance_ zaz (zaa (pv 0) (zaa (zbF (v := .ty "tuple") rfl B.tuple_ zbb rfl) zac))))) (zag (zal zbQ)) zap)
  (zad (zbl PassesOwn.never rfl (zcC rfl B.range_ (zaa (zat zbe rfl B.len_ zdh (zaa (pv 0) zac)) zac)) (zai (i := 2) sc_law_is_made.nd rfl (Or.inl rfl)) (zad (zaw (i := 3) sc_law_is_made.nd rfl (Or.inl rfl) (zaE za8 (pv 0) (pv 2) (fun _ _ => rfl)))
  (zad (zaF (PW.pt (zcz (zaX (zaQ (zat (zaG (n := "")) rfl B.isinstance_ zaz (zaa (pv 3) (zaa (zbF (v := .ty "tuple") rfl B.tuple_ zbb rfl) zac))))) (zcz (zas zir (zat zbe rfl B.len_ zdh (zaa (pv 3) zac)) (pv 1) (zau _)) (zb7 (zaX (zaQ (zar G_law_is_field (hr.mono (by decide)) rfl (zaa (zaE za8 (pv 3) zaf (fun _ _ => rfl)) zac)))))))) (zag (zal zbQ)) zap)
  (zad (zaF (PW.pt (zbJ (zas zis (pv 2) zaf (zau _)) (zbk (zaX (zas zfQ (zaE za8 (zaE za8 (pv 0) (zaA zch (pv 2) zaf) (fun _ _ => rfl)) zaf (fun _ _ => rfl)) (zaE za8 (pv 3) zaf (fun _ _ => rfl)) (zau _)))))) (zag (zal zbQ)) zap)
  (zag (zaF (PW.pt (zcz (PW.pt (zbJ (zas zb0 (pv 1) zaf (zau _)) (zbk (zaX (zaQ (zar G_law_is_span (hr.mono (by decide)) rfl (zaa (zaE za8 (pv 3) zaf (fun _ _ => rfl)) (zaa (zaE za8 (pv 3) zaf (fun _ _ => rfl)) zac)))))))) (zb7 (PW.pt (zbJ (zas zb0 (pv 1) zaf (zau _)) (zbk (zaX (zaQ (zar G_law_whole (hr.mono (by decide)) rfl (zaa (zaE za8 (pv 3) zaf (fun _ _ => rfl)) zac)))))))))) (zag (zal zbQ)) zap))))))
  (zag (zal zbQ)))), ?_⟩
 obtain ⟨ps, rfl, hA, hP⟩ := hp
 have ll : ps.length ≤ 100 := by have := pok.len; rw [List.length_map] at this; exact this
 refine ⟨_, rfl, _, "tuple", "tuple", true, rfl, .tup hA, rfl, _, rfl, iteF ?_⟩
 refine ⟨_, rfl, a, _, rfl, .inr (SqT.of hA), _, rfl, (by rw [List.length_map]; omega), (by rw [List.length_map]; omega), zga (lo := 0) (n := (ps.map fun (p : Addr × WP) => V.ref p.1).length) (fun i σ H' => (∃ y2 y3, σ = [some (.ref a), some (.int 3), y2, y3]) ∧ Same H H') ⟨⟨none, none, rfl⟩, Same.refl _⟩ ?_ ?_⟩
 · rintro i σ H' hi ⟨⟨y2, y3, rfl⟩, s⟩
   rw [List.length_map] at hi
   obtain ⟨P1, e1⟩ : ∃ P1, ps[i]? = some P1 := ⟨ps[i], by simp [hi]⟩
   have hm := List.mem_of_getElem? e1
   have hx : atI (ps.map fun p => V.ref p.1) (0 + (i : Int)) = some (.ref P1.1) := by
    rw [Int.zero_add]
    exact zdw (by rw [List.getElem?_map, e1]; rfl)
   have h1 := s _ _ (hP P1 hm)
   obtain ⟨fok, fle⟩ := pok.ok P1.2 (List.mem_map_of_mem hm)
   refine ⟨_, rfl, _, rfl, a, _, _, _, rfl, rfl, SqT.of (s _ _ hA), hx, ?_⟩
   refine ⟨_, rfl, _, "tuple", "tuple", true, rfl, .tup h1, rfl, _, rfl, iteF ⟨_, rfl, P1.1, _, rfl, .inr (SqT.of h1), _, rfl, rfl, _, rfl, ite2 (fun h => absurd h (by simp)) (fun _ => ⟨_, rfl, P1.1, _, 0, _, rfl, rfl, SqT.of h1, rfl, P1.2.1, rfl, fok, fun H1 s1 => ⟨_, rfl, iteF ?_⟩⟩)⟩⟩
   have t1 := s.trans s1
   have g1 := s1 _ _ h1
   have last : ∀ (D : Ends), D.nx [some (.ref a), some (.int 3), some (.int (0 + (i : Int))), some (.ref P1.1)] H1 → D.nx [some (.ref a), some (.int 3), some (.int (0 + (i : Int))), some (.ref P1.1)] H1 := fun _ z => z
   refine ⟨_, rfl, _, _, rfl, rfl, _, rfl, ite2 (fun h => ?_) (fun h => ?_)⟩
   · have i0 : 0 < i := by have := of_decide_eq_true h; omega
     obtain ⟨P0, e0⟩ : ∃ P0, ps[i - 1]? = some P0 := ⟨ps[i - 1]'(by omega), List.getElem?_eq_getElem (by omega)⟩
     have hm0 := List.mem_of_getElem? e0
     have hx0 : atI (ps.map fun p => V.ref p.1) (0 + (i : Int) - 1) = some (.ref P0.1) := by
      rw [show 0 + (i : Int) - 1 = ((i - 1 : Nat) : Int) by omega]
      exact zdw (by rw [List.getElem?_map, e0]; rfl)
     have lt : ltF P0.2.1 P1.2.1 := by
      have := List.pairwise_iff_getElem.mp pok.asc (i - 1) i (by simp; omega) (by simp; omega) (by omega)
      simp only [List.getElem_map] at this
      rw [(List.getElem?_eq_some_iff.mp e0).2, (List.getElem?_eq_some_iff.mp e1).2] at this
      exact this
     refine ⟨_, rfl, _, rfl, _, _, rfl, rfl, a, _, _, _, rfl, rfl, SqT.of (t1 _ _ hA), hx0, P0.1, _, 0, _, rfl, rfl, SqT.of (t1 _ _ (hP P0 hm0)), rfl, _, rfl, P1.1, _, 0, _, rfl, rfl, SqT.of g1, rfl, _, _, rfl, rfl, _, rfl, ?_⟩
     rw [decide_eq_true (show P0.2.1.cps.toList < P1.2.1.cps.toList from lt)]
     refine iteF ?_
     refine ⟨_, rfl, rfl, _, rfl, ite2 (fun _ => ?_) (fun h => absurd (by decide) h)⟩
     refine ⟨_, rfl, P1.1, _, 1, _, rfl, rfl, SqT.of g1, rfl, _, rfl, P1.1, _, 2, _, rfl, rfl, SqT.of g1, rfl, P1.2.2.1, P1.2.2.2, rfl, fle, fun H2 s2 => ⟨_, rfl, iteF ?_⟩⟩
     exact ⟨_, rfl, rfl, _, rfl, ite2 (fun h => absurd h (by decide)) (fun _ => ⟨⟨_, _, rfl⟩, t1.trans s2⟩)⟩
   · refine ⟨_, rfl, rfl, _, rfl, ite2 (fun _ => ?_) (fun h => absurd (by decide) h)⟩
     refine ⟨_, rfl, P1.1, _, 1, _, rfl, rfl, SqT.of g1, rfl, _, rfl, P1.1, _, 2, _, rfl, rfl, SqT.of g1, rfl, P1.2.2.1, P1.2.2.2, rfl, fle, fun H2 s2 => ⟨_, rfl, iteF ?_⟩⟩
     exact ⟨_, rfl, rfl, _, rfl, ite2 (fun h => absurd h (by decide)) (fun _ => ⟨⟨_, _, rfl⟩, t1.trans s2⟩)⟩
 · rintro σ H' ⟨_, s⟩
   exact q _ s
theorem zfe (F : Fun K "_law_common" "_law_common" zaV f fd) (G_law_span_of : Γ38 P w K mg base) (G_law_points : Γ39 P w K mg base) (G_law_in : Γ31 P w K mg base) : FnOk P w K mg base CX0 2 f fd ["one", "other"] (zeU) := by
 refine F.ok sc_law_common (fun vs H Q E h => ?_) (fun cdv A outer s H vs Q E hr h => ?_)
 · obtain ⟨a, b, w1, w2, rfl, hw1, hw2, ok1, ok2, hl, q⟩ := h
   rfl
 obtain ⟨a, b, w1, w2, rfl, hw1, hw2, ok1, ok2, hl, q⟩ := h
 refine ⟨_, (zad (zaw (i := 2) sc_law_common.nd rfl (Or.inl rfl) zhN)
  (zad (zbl PassesOwn.never rfl (zaR (zat zgk rfl B.sorted_ zbD (zaa (zaA zhR (zcD (N' := ["part"]) (js := [none]) rfl (zbZ (N := ["one", "other", "numbers", "field", "spans", "some"]) (outer := zah zaV) (by decide +kernel)) (zbX (pv 0)) (fun _ _ _ _ _ => (zai (i := 0) (show List.Nodup (["part"] : List Str) by decide +kernel) rfl (Or.inl rfl))) (fun _ _ _ _ _ => zaM) (fun _ _ _ _ _ => (zaE (zdt K rfl) (pv 0) zaf (fun _ _ => rfl)))) (zcD (N' := ["part"]) (js := [none]) rfl (zbZ (N := ["one", "other", "numbers", "field", "spans", "some"]) (outer := zah zaV) (by decide +kernel)) (zbX (pv 1)) (fun _ _ _ _ _ => (zai (i := 0) (show List.Nodup (["part"] : List Str) by decide +kernel) rfl (Or.inl rfl))) (fun _ _ _ _ _ => zaM) (fun _ _ _ _ _ => (zaE (zdt K rfl) (pv 0) zaf (fun _ _ => rfl))))) zac))) (zai (i := 3) sc_law_common.nd rfl (Or.inl rfl)) (zad (zaw (i := 4) sc_law_common.nd rfl (Or.inr rfl) (za6 (zaa (zar G_law_span_of (hr.mono (by decide)) rfl (zaa (pv 0) (zaa (pv 3) zac))) (zaa (zar G_law_span_of (hr.mono (by decide)) rfl (zaa (pv 1) (zaa (pv 3) zac))) zac))))
  (zad (zc9 (N' := ["k", "spans"]) (js := [none, some 4]) (i := 5) sc_law_common.nd rfl (Or.inl rfl) rfl (zbZ (N := ["one", "other", "numbers", "field", "spans", "some"]) (outer := zah zaV) (by decide +kernel)) (zaR (zar G_law_points (hr.mono (by decide)) rfl (zaa (pv 4) zac))) (fun _ _ _ _ _ => (zai (i := 0) (show List.Nodup (["k", "spans"] : List Str) by decide +kernel) rfl (Or.inl rfl))) (fun _ _ _ _ _ => zb9 (PW.pt (zbJ (zaQ (zar G_law_in (hr.mono (by decide)) rfl (zaa (zaE (zh1 K rfl) (pv 1) zaf (fun _ _ => rfl)) (zaa (pv 0) zac)))) (zbk (zaQ (zar G_law_in (hr.mono (by decide)) rfl (zaa (zaE (zh1 K rfl) (pv 1) zaf (fun _ _ => rfl)) (zaa (pv 0) zac)))))))) (fun _ _ _ _ _ => (pv 0)))
  (zag (zgW (zci hr) (pv 2) (pv 3) (zcp (zas (zfP (zby hr)) (pv 5) (za6 zac) (zau _)) (zaE zaJ (pv 5) zaf (fun _ _ => rfl)) za5) rfl)))))
  (zag (zal (pv 2))))), ?_⟩
 intro d hd
 have s0 := zae hd (.dK [])
 have d0 : (upd H d (.dK [])) d = some (.dK []) := zab
 generalize upd H d (.dK []) = H0 at *
 have hw1' := hw1
 have hw2' := hw2
 obtain ⟨ps, rfl, hA, hP⟩ := hw1
 obtain ⟨qs, rfl, hB, hR⟩ := hw2
 have l1 := ok1.len
 have l2 := ok2.len
 rw [List.length_map] at l1 l2
 refine ⟨_, rfl, a, rfl, ⟨_, SqT.of (s0 _ _ hA)⟩, fun p hp => ?_⟩
 refine zf6 ps (s0 _ _ hA) l1 hp rfl (fun x hx H' R s' hr => ⟨_, rfl, x.1, _, 0, _, rfl, rfl, SqT.of (s' _ _ (s0 _ _ (hP x hx))), rfl, hr⟩) fun H1 s1 e1 => ?_
 have t1 := s0.trans s1
 refine ⟨_, rfl, b, rfl, ⟨_, SqT.of (t1 _ _ hB)⟩, fun p2 hp2 => ?_⟩
 refine zf6 qs (t1 _ _ hB) l2 hp2 rfl (fun x hx H' R s' hr => ⟨_, rfl, x.1, _, 0, _, rfl, rfl, SqT.of (s' _ _ (t1 _ _ (hR x hx))), rfl, hr⟩) fun H2 s2 e2 => ?_
 have t2 := t1.trans s2
 have lc : (((ps.map (·.2)).map (·.1)).map V.str ++ ((qs.map (·.2)).map (·.1)).map V.str).length ≤ 40 := by simp at hl ⊢; omega
 refine ⟨p, p2, _, _, rfl, rfl, s2 _ _ e1, e2, by rw [← List.length_append]; exact zgK (by omega), fun r hr' => ?_⟩
 have s3 := zae hr' (.lst (((ps.map (·.2)).map (·.1)).map V.str ++ ((qs.map (·.2)).map (·.1)).map V.str))
 refine ⟨r, (ps.map (·.2)).map (·.1) ++ (qs.map (·.2)).map (·.1), rfl, SqL.of (by rw [zab, List.map_append]), by simp at hl ⊢; omega, fun z ms mp mso hz => ?_⟩
 have s4 := zae hz (.lst (ms.map V.str))
 have lms : ms.length ≤ 40 := by have := mp.length_eq; simp at this hl; omega
 have lms2 : ms.length = ps.length + qs.length := by have := mp.length_eq; simpa using this
 have ez : (upd (upd H2 r (.lst (((ps.map (·.2)).map (·.1)).map V.str ++ ((qs.map (·.2)).map (·.1)).map V.str))) z (.lst (ms.map V.str))) z = some (.lst (ms.map V.str)) := zab
 have t4 := s1.trans (s2.trans (s3.trans s4))
 generalize upd (upd H2 r (.lst (((ps.map (·.2)).map (·.1)).map V.str ++ ((qs.map (·.2)).map (·.1)).map V.str))) z (.lst (ms.map V.str)) = H4 at *
 have d4 := t4 _ _ d0
 have zd : z ≠ d := zdc ez d4 (by intro z; cases z)
 have u4 := s0.trans t4
 generalize hW1 : ps.map (·.2) = W1 at *
 generalize hW2 : qs.map (·.2) = W2 at *
 refine ⟨z, rfl, ⟨_, SqL.of ez⟩, zbz (K := K) (a := z) (xs := ms.map V.str) (fun i σ H' => (∃ y3 y4 y5, σ = [some (.ref a), some (.ref b), some (.ref d), y3, y4, y5]) ∧ (∀ c o, H4 c = some o → c ≠ d → H' c = some o) ∧ ∃ bs : List (Str × V), H' d = some (.dK (kvS bs)) ∧ (bs.map (·.1)).Nodup ∧ bs.length ≤ i ∧ (∀ f, f ∈ bs.map (·.1) ↔ f ∈ ms.take i) ∧ ∀ x ∈ bs, x.2 = eV (zdg (zam W1 x.1) (zam W2 x.1))) ?_ ?_ ?_ ?_⟩
 · exact ⟨⟨none, none, none, rfl⟩, fun c o h _ => h, [], d4, by simp, Nat.zero_le _, fun f => by simp, fun x hx => by simp at hx⟩
 · rintro i σ H' _ ⟨_, kp, _⟩
   exact SqL.of (kp _ _ ez zd)
 · rintro i x σ H5 hx ⟨⟨y3, y4, y5, rfl⟩, kp, bs, k1, k2, k3, k4, k5⟩
   rw [List.getElem?_map] at hx
   cases ef : ms[i]? with
   | none => rw [ef] at hx; cases hx
   | some f' =>
    rw [ef] at hx
    obtain rfl : V.str f' = x := Option.some.inj hx
    have li := (List.getElem?_eq_some_iff.mp ef).1
    have sH5 : Same H H5 := fun c o h => kp _ _ (u4 _ _ h) (fun e => by rw [e, hd] at h; cases h)
    refine ⟨_, rfl, _, rfl, a, W1, f', rfl, hw1'.same sH5, ok1, fun v1 H6 s6 sp1 => ?_⟩
    refine ⟨_, rfl, _, rfl, b, W2, f', rfl, hw2'.same (sH5.trans s6), ok2, fun v2 H7 s7 sp2 => ?_⟩
    obtain ⟨va, rfl, ev1⟩ := sp1.same s7
    obtain ⟨vb, rfl, ev2⟩ := sp2
    refine ⟨zq2, fun lx hlx => ?_⟩
    have sl := zae hlx (.lst [V.ref va, V.ref vb])
    have ex : (upd H7 lx (.lst [V.ref va, V.ref vb])) lx = some (.lst [V.ref va, V.ref vb]) := zab
    have ev1' := sl _ _ ev1
    have ev2' := sl _ _ ev2
    have s57 : Same H5 (upd H7 lx (.lst [V.ref va, V.ref vb])) := s6.trans (s7.trans sl)
    generalize upd H7 lx (.lst [V.ref va, V.ref vb]) = H8 at *
    refine ⟨_, rfl, lx, [(va, zam W1 f'), (vb, zam W2 f')], rfl, SqL.of ex, ?_, by simp, fun r9 H9 s9 e9 => ?_⟩
    · intro s hs
      simp only [List.mem_cons, List.not_mem_nil, or_false] at hs
      rcases hs with rfl | rfl
      · exact ev1'
      · exact ev2'
    have e9' : H9 r9 = some (.lst ((zcA [zam W1 f', zam W2 f']).map V.int)) := e9
    refine ⟨r9, rfl, ⟨_, SqL.of e9'⟩, fun p9 hp9 => ?_⟩
    refine zkF (cap := [some (.ref lx)]) (zcA [zam W1 f', zam W2 f']) (fun k => inB (zam W1 f').1 (zam W1 f').2 k && inB (zam W2 f').1 (zam W2 f').2 k) (by have := zgV [zam W1 f', zam W2 f']; simp at this; omega) (SqL.of e9') hp9 rfl ?_ ?_ ?_
    · intro m H' R s' hR
      have ex' := s' _ _ (s9 _ _ ex)
      have g1 := s' _ _ (s9 _ _ ev1')
      have g2 := s' _ _ (s9 _ _ ev2')
      refine ⟨_, rfl, lx, _, 0, _, rfl, rfl, SqL.of ex', at0, _, rfl, .ref va, (zam W1 f').1, (zam W1 f').2, m, rfl, ⟨va, rfl, g1⟩, _, rfl, ?_⟩
      have hR' := hR H' (Same.refl _)
      cases hb : inB (zam W1 f').1 (zam W1 f').2 m with
      | false =>
       rw [hb, Bool.false_and] at hR'
       exact iteF hR'
      | true =>
       rw [hb, Bool.true_and] at hR'
       exact iteT ⟨_, rfl, lx, _, 1, _, rfl, rfl, SqL.of ex', zdw (j := 1) rfl, _, rfl, .ref vb, (zam W2 f').1, (zam W2 f').2, m, rfl, ⟨vb, rfl, g2⟩, _, rfl, hR'⟩
    · exact fun m H' R s' hr' => ⟨_, rfl, hr'⟩
    intro H10 s10 e10
    have s510 := s57.trans (s9.trans s10)
    have k10 := s510 _ _ k1
    have hc : zdg (zam W1 f') (zam W2 f') = ((zcA [zam W1 f', zam W2 f']).filter fun k => inB (zam W1 f').1 (zam W1 f').2 k && inB (zam W2 f').1 (zam W2 f').2 k).head? := rfl
    generalize ((zcA [zam W1 f', zam W2 f']).filter fun k => inB (zam W1 f').1 (zam W1 f').2 k && inB (zam W2 f').1 (zam W2 f').2 k) = ns at *
    have fin : ∀ (H11 : Hp), Same H10 H11 → ∀ v, v = eV ns.head? → (∃ y3 y4 y5, ([some (.ref a), some (.ref b), some (.ref d), some (.str f'), some (.ref lx), some (.ref p9)] : L2.St) = [some (.ref a), some (.ref b), some (.ref d), y3, y4, y5]) ∧ (∀ c o, H4 c = some o → c ≠ d → (upd H11 d (.dK (putK (kvS bs) (Sum.inr f' : Key) v))) c = some o) ∧ ∃ bs' : List (Str × V), (upd H11 d (.dK (putK (kvS bs) (Sum.inr f' : Key) v))) d = some (.dK (kvS bs')) ∧ (bs'.map (·.1)).Nodup ∧ bs'.length ≤ i + 1 ∧ (∀ f, f ∈ bs'.map (·.1) ↔ f ∈ ms.take (i + 1)) ∧ ∀ x ∈ bs', x.2 = eV (zdg (zam W1 x.1) (zam W2 x.1)) := by
     intro H11 s11 v hv
     refine ⟨⟨_, _, _, rfl⟩, fun c o h cd => by rw [zak cd]; exact s11 _ _ (s510 _ _ (kp c o h cd)), putS bs f' v, by rw [zab, zdM], zew k2 _ _, ?_, fun f => ?_, ?_⟩
     · have := zhK bs f' v; omega
     · rw [zkp, k4 f, zaq ef, List.mem_append, List.mem_singleton]
     · rw [hv, ← hc]
       exact zko (g := fun f => eV (zdg (zam W1 f) (zam W2 f))) k5 f'
    refine ⟨_, rfl, sz0, fun z9 hz9 => ?_⟩
    have s11 := zae hz9 (.lst [])
    refine zky (ns := ns) (SqL.of (s11 _ _ e10)) (SqL.of zab) ⟨_, rfl, ?_⟩
    have k11 := s11 _ _ k10
    have lk : (kvS bs).length < sizeLine := zao (by unfold kvS; rw [List.length_map]; omega)
    cases hns : ns with
    | nil =>
     rw [hns] at fin
     exact iteF ⟨_, rfl, _, rfl, d, _, rfl, DPut.k (k := Sum.inr f') k11 lk, fin _ s11 _ rfl⟩
    | cons n0 nr =>
     have e11 := s11 _ _ e10
     rw [hns] at fin e11
     exact iteT ⟨_, rfl, p9, _, 0, _, rfl, rfl, SqL.of e11, at0, _, rfl, _, rfl, d, _, rfl, DPut.k (k := Sum.inr f') k11 lk, fin _ s11 _ rfl⟩
 · rintro σ H5 ⟨⟨y3, y4, y5, rfl⟩, kp, bs, k1, k2, k3, k4, k5⟩
   rw [show ms.take (ms.map V.str).length = ms from List.take_of_length_le (by simp)] at k4
   have sH5 : Same H H5 := fun c o h => kp _ _ (u4 _ _ h) (fun e => by rw [e, hd] at h; cases h)
   have mm : ∀ f, f ∈ bs.map (·.1) ↔ (f ∈ W1.map (·.1) ∨ f ∈ W2.map (·.1)) := fun f => by rw [k4 f, mp.mem_iff, List.mem_append]
   refine ⟨_, rfl, q d bs H5 sH5 hd k1 ⟨k2, fun f hf => ?_, ?_, mm, k5⟩⟩
   · rcases (mm f).mp hf with z | z
     · obtain ⟨x, hx, rfl⟩ := List.mem_map.mp z
       exact (ok1.ok x hx).1
     · obtain ⟨x, hx, rfl⟩ := List.mem_map.mp z
       exact (ok2.ok x hx).1
   · rw [List.length_map] at k3
     rw [← hW1, ← hW2, List.length_map, List.length_map]
     omega
theorem zfb (F : Fun K "_law_pieces" "_law_pieces" zaU f fd) (G_law_points : Γ39 P w K mg base) (G_law_span_of : Γ38 P w K mg base) : FnOk P w K mg base CX0 2 f fd ["numbers", "wishes"] (zdT) := by
 refine F.ok sc_law_pieces (fun vs H Q E h => ?_) (fun cdv A outer s H vs Q E hr h => ?_)
 · obtain ⟨d, wl, o, bs, ws, rfl, hd, nd, fok, lb, hW, lw, q⟩ := h
   rfl
 obtain ⟨d, wl, o, bs, ws, rfl, hd, nd, fok, lb, hW, lw, q⟩ := h
 refine ⟨_, (zad (zaw (i := 2) sc_law_pieces.nd rfl (Or.inl rfl) (za6 (zaa (za7 zaO rfl B.tuple_ zbb (zaa (zcD (N' := ["field", "numbers"]) (js := [none, some 0]) rfl (zbZ (N := ["numbers", "wishes", "pieces", "field", "rest", "number"]) (outer := zah zaU) (by decide +kernel)) (zaR (zat (zbS rfl) rfl B.sorted_ zbD (zaa (pv 0) zac))) (fun _ _ _ _ _ => (zai (i := 0) (show List.Nodup (["field", "numbers"] : List Str) by decide +kernel) rfl (Or.inl rfl))) (fun _ _ _ _ _ => zaM) (fun _ _ _ _ _ => (zay (zaa (pv 0) (zaa (zcE (zci hr) (pv 1) (pv 0) (fun _ _ => rfl)) zac))))) zac)) zac)))
  (zad (zbl PassesOwn.never rfl (zaR (zat (zbS rfl) rfl B.sorted_ zbD (zaa (pv 0) zac))) (zai (i := 3) sc_law_pieces.nd rfl (Or.inr rfl)) (zad (zc9 (N' := ["name", "numbers", "field"]) (js := [none, some 0, some 3]) (i := 4) sc_law_pieces.nd rfl (Or.inl rfl) rfl (zbZ (N := ["numbers", "wishes", "pieces", "field", "rest", "number"]) (outer := zah zaU) (by decide +kernel)) (zaR (zat (zbS rfl) rfl B.sorted_ zbD (zaa (pv 0) zac))) (fun _ _ _ _ _ => (zai (i := 0) (show List.Nodup (["name", "numbers", "field"] : List Str) by decide +kernel) rfl (Or.inl rfl))) (fun _ _ _ _ _ => zb9 (zas zir (pv 0) (pv 2) (zau _))) (fun _ _ _ _ _ => (zay (zaa (pv 0) (zaa (zcE (zci hr) (pv 1) (pv 0) (fun _ _ => rfl)) zac)))))
  (zad (za2 (zdq PySem.F.plainAttrs_list PySem.F.slot_list_append PySem.F.type_list_append zbm (pv 2) (zaa (za7 zaO rfl B.tuple_ zbb (zaa (pv 4) zac)) zac)))
  (zag (zbl PassesOwn.never rfl (zaR (zar G_law_points (hr.mono (by decide)) rfl (zaa (zcD (N' := ["wish", "field"]) (js := [none, some 3]) rfl (zbZ (N := ["numbers", "wishes", "pieces", "field", "rest", "number"]) (outer := zah zaU) (by decide +kernel)) (zaR (pv 1)) (fun _ _ _ _ _ => (zai (i := 0) (show List.Nodup (["wish", "field"] : List Str) by decide +kernel) rfl (Or.inl rfl))) (fun _ _ _ _ _ => zaM) (fun _ _ _ _ _ => (zar G_law_span_of (hr.mono (by decide)) rfl (zaa (pv 0) (zaa (pv 1) zac))))) zac))) (zai (i := 5) sc_law_pieces.nd rfl (Or.inl rfl)) (zag (za2 (zdq PySem.F.plainAttrs_list PySem.F.slot_list_append PySem.F.type_list_append zbm (pv 2) (zaa (za7 zaO rfl B.tuple_ zbb (zaa (zat zgj rfl B.sorted_ zbD (zaa (zaA zhR (pv 4) (za6 (zaa (zay (zaa (pv 3) (zaa (pv 5) zac))) zac))) zac)) zac)) zac)))))))))
  (zag (zal (pv 2))))), ?_⟩
 have hA := hW.at'
 have num : ∀ f, f ∈ bs.map (·.1) → zbC bs f = some ((zbC bs f).getD 0) := fun f hf => by
  obtain ⟨n, hn⟩ := zjv hf
  rw [hn]
  rfl
 refine ⟨_, rfl, d, kvP bs, bs.map (·.1), rfl, .inr ⟨o, hd⟩, zfo bs, (by rw [List.length_map]; omega), fun z ms mp mn mso hz => ?_⟩
 have sz := zae hz (.lst (ms.map V.str))
 have lms : ms.length ≤ 20 := by have := mp.length_eq; simp at this; omega
 have masc := zc5 mso mn
 have hmem : ∀ f ∈ ms, f ∈ bs.map (·.1) := fun f hf => mp.mem_iff.mp hf
 have hbase : ∃ base : List PP, base = ms.map fun f => (f, (zbC bs f).getD 0) := ⟨_, rfl⟩
 obtain ⟨base', ebase⟩ := hbase
 have bk : base'.map (·.1) = ms := by
  rw [ebase, List.map_map]
  exact List.map_id _
 have lbase : base'.length ≤ 20 := by rw [ebase, List.length_map]; exact lms
 have bnum : ∀ x ∈ base', zbC bs x.1 = some x.2 := fun x hx => by
  rw [ebase] at hx
  obtain ⟨f, hf, rfl⟩ := List.mem_map.mp hx
  exact num f (hmem f hf)
 have bok : ∀ x ∈ base', FieldOk x.1 := fun x hx => by
  have : x.1 ∈ ms := by rw [← bk]; exact List.mem_map_of_mem hx
  obtain ⟨y, hy, e⟩ := List.mem_map.mp (hmem _ this)
  rw [← e]
  exact fok y hy
 have pbase : POk base' := ⟨by omega, bok, by rw [bk]; exact masc⟩
 refine ⟨z, rfl, ⟨_, SqL.of zab⟩, fun p hp => ?_⟩
 refine zkE (cap := [some (.ref d)]) base' (by omega) (by rw [bk]; exact SqL.of zab) hp rfl ?_ ?_
 · intro x hx H' R s' hR
   exact ⟨_, rfl, _, rfl, _, rfl, d, _, rfl, zh5 (s' _ _ (sz _ _ hd)) (bnum x hx), zq2, hR⟩
 intro H2 qs s2 q1 q2 q3
 refine ⟨p, _, rfl, .inl ⟨SqL.of q2, fun t ht => ?_⟩⟩
 have st := zae ht (.tup (qs.map fun q => V.ref q.1))
 have et0 : (upd H2 t (.tup (qs.map fun q => V.ref q.1))) t = some (.tup (qs.map fun q => V.ref q.1)) := zab
 refine ⟨(by show 1 ≤ sizeLine; decide), fun l hl => ?_⟩
 have sl := zae hl (.lst [V.ref t])
 have s13 : Same H (upd (upd H2 t (.tup (qs.map fun q => V.ref q.1))) l (.lst [V.ref t])) := (sz.trans s2).trans (st.trans sl)
 have P0 : PieceAt (upd (upd H2 t (.tup (qs.map fun q => V.ref q.1))) l (.lst [V.ref t])) t base' := ⟨qs, q1, sl _ _ et0, fun q hq => sl _ _ (st _ _ (q3 q hq))⟩
 have el : (upd (upd H2 t (.tup (qs.map fun q => V.ref q.1))) l (.lst [V.ref t])) l = some (.lst [V.ref t]) := zab
 have nl : H l = none := zhc ((sz.trans s2).trans st) hl
 generalize upd (upd H2 t (.tup (qs.map fun q => V.ref q.1))) l (.lst [V.ref t]) = H3 at *
 refine ⟨_, rfl, d, kvP bs, bs.map (·.1), rfl, .inr ⟨o, s13 _ _ hd⟩, zfo bs, (by rw [List.length_map]; omega), fun z2 ms2 mp2 mn2 mso2 hz2 => ?_⟩
 obtain rfl := zfH (mp2.trans mp.symm) mn2 mso2 masc
 have sz2 := zae hz2 (.lst (ms2.map V.str))
 have ez2 : (upd H3 z2 (.lst (ms2.map V.str))) z2 = some (.lst (ms2.map V.str)) := zab
 have el4 := sz2 _ _ el
 have P4 := P0.same sz2
 have sH4 : Same H (upd H3 z2 (.lst (ms2.map V.str))) := s13.trans sz2
 have z2l : z2 ≠ l := fun e => by rw [e] at hz2; rw [hz2] at el; cases el
 generalize upd H3 z2 (.lst (ms2.map V.str)) = H4 at *
 have dl : d ≠ l := fun e => by rw [e, nl] at hd; cases hd
 refine ⟨z2, rfl, ⟨_, SqL.of ez2⟩, zbz (K := K) (a := z2) (xs := ms2.map V.str) (fun i σ H' => (∃ y3 y4 y5, σ = [some (.ref d), some (.ref wl), some (.ref l), y3, y4, y5]) ∧ (∀ c o, H4 c = some o → c ≠ l → H' c = some o) ∧ ∃ qs : List (Addr × List PP), H' l = some (.lst (qs.map fun q => V.ref q.1)) ∧ qs.length ≤ 1 + 30 * i ∧ ∀ q ∈ qs, PieceAt H' q.1 q.2 ∧ POk q.2) ?_ ?_ ?_ ?_⟩
 · refine ⟨⟨none, none, none, rfl⟩, fun c o h _ => h, [(t, base')], el4, Nat.le_refl _, fun q hq => ?_⟩
   rw [List.mem_singleton.mp hq]
   exact ⟨P4, pbase⟩
 · rintro i σ H' _ ⟨_, kp, _⟩
   exact SqL.of (kp _ _ ez2 z2l)
 · rintro i x σ H5 hx ⟨⟨y3, y4, y5, rfl⟩, kp, qs5, g1, g2, g3⟩
   rw [List.getElem?_map] at hx
   cases ef : ms2[i]? with
   | none => rw [ef] at hx; cases hx
   | some f' =>
    rw [ef] at hx
    obtain rfl : V.str f' = x := Option.some.inj hx
    have hf' := List.mem_of_getElem? ef
    have li := (List.getElem?_eq_some_iff.mp ef).1
    have fok' : FieldOk f' := by
     obtain ⟨y, hy, e⟩ := List.mem_map.mp (hmem _ hf')
     rw [← e]
     exact fok y hy
    have sH5 : Same H H5 := fun c o h => kp _ _ (sH4 _ _ h) (fun e => by rw [e, nl] at h; cases h)
    refine ⟨_, rfl, d, kvP bs, bs.map (·.1), rfl, .inr ⟨o, sH5 _ _ hd⟩, zfo bs, (by rw [List.length_map]; omega), fun z3 ms3 mp3 mn3 mso3 hz3 => ?_⟩
    obtain rfl := zfH (mp3.trans mp.symm) mn3 mso3 masc
    have sz3 := zae hz3 (.lst (ms3.map V.str))
    refine ⟨z3, rfl, ⟨_, SqL.of zab⟩, fun p3 hp3 => ?_⟩
    refine zjG (cap := [some (.ref d), some (.str f')]) base' (fun x => !decide (V.str x.1 = V.str f')) (by omega) (by rw [bk]; exact SqL.of zab) hp3 rfl ?_ ?_ ?_
    · intro x hx H' R s' hR
      exact ⟨_, rfl, _, rfl, rfl, _, rfl, hR⟩
    · intro x hx H' R s' hR
      exact ⟨_, rfl, _, rfl, _, rfl, d, _, rfl, zh5 (s' _ _ (sz3 _ _ (sH5 _ _ hd))) (bnum x hx), zq2, hR⟩
    intro H6 rs s6 r1 r2 r3
    have s56 := sz3.trans s6
    have rsub : (rs.map (·.2)).Sublist base' := by rw [r1]; exact List.filter_sublist
    have rlen : rs.length ≤ 20 := by have := rsub.length_le; rw [List.length_map] at this; omega
    have rne : ∀ x ∈ rs, x.2.1 ≠ f' := fun x hx e => by
     have : x.2 ∈ base'.filter (fun x => !decide (V.str x.1 = V.str f')) := by rw [← r1]; exact List.mem_map_of_mem hx
     have := (List.mem_filter.mp this).2
     rw [e] at this
     simp at this
    have prest : POk (rs.map (·.2)) := ⟨by rw [List.length_map]; omega, fun x hx => bok x (rsub.subset hx), pbase.asc.sublist (rsub.map _)⟩
    have g6 := s56 _ _ g1
    refine ⟨_, rfl, .inl ⟨rfl, _, SqL.of g6⟩, _, rfl, p3, _, rfl, .inl ⟨SqL.of r2, fun t6 ht6 => ?_⟩⟩
    have st6 := zae ht6 (.tup (rs.map fun q => V.ref q.1))
    have g7 := st6 _ _ g6
    have P7 : PieceAt (upd H6 t6 (.tup (rs.map fun q => V.ref q.1))) t6 (rs.map (·.2)) := ⟨rs, rfl, zab, fun q hq => st6 _ _ (r3 q hq)⟩
    have s57 := s56.trans st6
    have r27 := st6 _ _ r2
    have r37 : ∀ q ∈ rs, (upd H6 t6 (.tup (rs.map fun q => V.ref q.1))) q.1 = some (.tup [.str q.2.1, .int q.2.2]) := fun q hq => st6 _ _ (r3 q hq)
    have p3l : p3 ≠ l := fun e => by rw [e] at hp3; have := sz3 _ _ g1; rw [hp3] at this; cases this
    generalize upd H6 t6 (.tup (rs.map fun q => V.ref q.1)) = H7 at *
    refine ⟨l, _, _, rfl, rfl, g7, (by rw [List.length_map]; exact zao (by omega)), ?_⟩
    have tl := zaY (o := .lst (qs5.map (fun q => V.ref q.1) ++ [V.ref t6])) g7
    have kp8 : ∀ c o, H4 c = some o → c ≠ l → (upd H7 l (.lst (qs5.map (fun q => V.ref q.1) ++ [V.ref t6]))) c = some o := fun c o h cl => by rw [zak cl]; exact s57 _ _ (kp c o h cl)
    have g8 : (upd H7 l (.lst (qs5.map (fun q => V.ref q.1) ++ [V.ref t6]))) l = some (.lst ((qs5 ++ [(t6, rs.map (·.2))]).map fun q => V.ref q.1)) := by rw [zab, List.map_append]; rfl
    have all8 : ∀ q ∈ qs5 ++ [(t6, rs.map (·.2))], PieceAt (upd H7 l (.lst (qs5.map (fun q => V.ref q.1) ++ [V.ref t6]))) q.1 q.2 ∧ POk q.2 := by
     intro q hq
     rcases List.mem_append.mp hq with zz | zz
     · exact ⟨((g3 q zz).1.same s57).keep tl, (g3 q zz).2⟩
     · rw [List.mem_singleton.mp zz]
       exact ⟨P7.keep tl, prest⟩
    have r28 : (upd H7 l (.lst (qs5.map (fun q => V.ref q.1) ++ [V.ref t6]))) p3 = some (.lst (rs.map fun q => V.ref q.1)) := by rw [zak p3l]; exact r27
    have r38 : ∀ q ∈ rs, (upd H7 l (.lst (qs5.map (fun q => V.ref q.1) ++ [V.ref t6]))) q.1 = some (.tup [.str q.2.1, .int q.2.2]) := fun q hq => tl _ _ (r37 q hq)
    have l8 : (qs5 ++ [(t6, rs.map (·.2))]).length ≤ 2 + 30 * i := by rw [List.length_append]; simp; omega
    generalize qs5 ++ [(t6, rs.map (·.2))] = qs8 at *
    generalize upd H7 l (.lst (qs5.map (fun q => V.ref q.1) ++ [V.ref t6])) = H8 at *
    have sH8 : Same H H8 := fun c o h => kp8 _ _ (sH4 _ _ h) (fun e => by rw [e, nl] at h; cases h)
    have hW8 := hW.same sH8
    refine ⟨_, rfl, wl, rfl, ⟨_, SqL.of hW8.at'⟩, fun p8 hp8 => ?_⟩
    refine zkD (cap := [some (.str f')]) ws f' (by omega) (SqL.of hW8.at') hp8 rfl ?_ ?_
    · intro x hx H' R s' hR
      exact ⟨_, rfl, _, rfl, x.1, x.2, f', rfl, (hW8.ok x hx).1.same s', (hW8.ok x hx).2, fun v H'' s'' sp => hR v H'' s'' sp⟩
    intro H9 ss s9 ls9 e9 f9
    refine ⟨p8, ss, rfl, SqL.of e9, f9, by omega, fun r9 H10 s10 e10 => ?_⟩
    have s810 := s9.trans s10
    have g10 := s810 _ _ g8
    have r9l : r9 ≠ l := fun e => by
     rw [e, g10] at e10
     cases qs8 with
     | nil => cases e10
     | cons _ _ => cases e10
    have hz8 : p8 ≠ l := fun e => by rw [e] at hp8; rw [hp8] at g8; cases g8
    have lpt : (zcA (ss.map (·.2))).length ≤ 27 := by
     have := zgV (ss.map (·.2))
     rw [List.length_map] at this
     omega
    refine ⟨r9, rfl, ⟨_, SqL.of e10⟩, zbz (K := K) (a := r9) (xs := (zcA (ss.map (·.2))).map V.int) (fun j σ H' => (∃ y5, σ = [some (.ref d), some (.ref wl), some (.ref l), some (.str f'), some (.ref p3), y5]) ∧ (∀ c o, H10 c = some o → c ≠ l → H' c = some o) ∧ ∃ qs : List (Addr × List PP), H' l = some (.lst (qs.map fun q => V.ref q.1)) ∧ qs.length ≤ 2 + 30 * i + j ∧ ∀ q ∈ qs, PieceAt H' q.1 q.2 ∧ POk q.2) ?_ ?_ ?_ ?_⟩
    · exact ⟨⟨_, rfl⟩, fun c o h _ => h, qs8, g10, by omega, fun q hq => ⟨(all8 q hq).1.same s810, (all8 q hq).2⟩⟩
    · rintro j σ H' _ ⟨_, kp', _⟩
      exact SqL.of (kp' _ _ e10 r9l)
    · rintro j x σ H11 hx ⟨⟨y5', rfl⟩, kp11, qs11, h1, h2, h3⟩
      rw [List.getElem?_map] at hx
      cases eR : (zcA (ss.map (·.2)))[j]? with
      | none => rw [eR] at hx; cases hx
      | some m =>
       rw [eR] at hx
       obtain rfl : V.int m = x := Option.some.inj hx
       have lj := (List.getElem?_eq_some_iff.mp eR).1
       have r2b := kp11 _ _ (s810 _ _ r28) p3l
       have r3b : ∀ q ∈ rs, H11 q.1 = some (.tup [.str q.2.1, .int q.2.2]) := fun q hq => kp11 _ _ (s810 _ _ (r38 q hq)) (fun e => by have := r38 q hq; rw [e, g8] at this; cases this)
       refine ⟨_, rfl, .inl ⟨rfl, _, SqL.of h1⟩, _, rfl, _, rfl, _, rfl, zq2, fun ta hta => ?_⟩
       have sta := zae hta (.tup [V.str f', V.int m])
       have eta : (upd H11 ta (.tup [V.str f', V.int m])) ta = some (.tup [V.str f', V.int m]) := zab
       generalize upd H11 ta (.tup [V.str f', V.int m]) = H12 at *
       refine ⟨(by show 1 ≤ sizeLine; decide), fun la hla => ?_⟩
       have sla := zae hla (.lst [V.ref ta])
       have ela : (upd H12 la (.lst [V.ref ta])) la = some (.lst [V.ref ta]) := zab
       have s1113 := sta.trans sla
       have eta' := sla _ _ eta
       generalize upd H12 la (.lst [V.ref ta]) = H13 at *
       refine ⟨p3, la, _, _, rfl, rfl, s1113 _ _ r2b, ela, by rw [List.length_map]; exact zgK (by simp; omega), fun rc hrc => ?_⟩
       have src := zae hrc (.lst (rs.map (fun q => V.ref q.1) ++ [V.ref ta]))
       have erc : (upd H13 rc (.lst (rs.map (fun q => V.ref q.1) ++ [V.ref ta]))) rc = some (.lst ((rs ++ [(ta, f', m)]).map fun q => V.ref q.1)) := by rw [zab, List.map_append]; rfl
       have s1114 := s1113.trans src
       have tups14 : ∀ q ∈ rs ++ [(ta, f', m)], (upd H13 rc (.lst (rs.map (fun q => V.ref q.1) ++ [V.ref ta]))) q.1 = some (.tup [.str q.2.1, .int q.2.2]) := by
        intro q hq
        rcases List.mem_append.mp hq with zz | zz
        · exact s1114 _ _ (r3b q zz)
        · rw [List.mem_singleton.mp zz]
          exact src _ _ eta'
       generalize upd H13 rc (.lst (rs.map (fun q => V.ref q.1) ++ [V.ref ta])) = H14 at *
       have ndk : ((rs ++ [(ta, f', m)]).map (·.2.1)).Nodup := by
        rw [List.map_append]
        refine zhd ?_ ?_
        · have := zgu prest.asc
          rw [List.map_map] at this
          exact this
        · intro hmem'
          obtain ⟨y, hy, ey⟩ := List.mem_map.mp hmem'
          exact rne y hy ey
       refine ⟨rc, rs ++ [(ta, f', m)], rfl, SqL.of erc, tups14, (by rw [List.length_append]; simp; omega), ndk, fun rd ts tp ta2 hrd => ?_⟩
       have srd := zae hrd (.lst (ts.map fun q => V.ref q.1))
       have lts : ts.length ≤ 21 := by have := tp.length_eq; rw [List.length_append] at this; simp at this; omega
       refine ⟨rd, _, rfl, .inl ⟨SqL.of zab, fun t15 ht15 => ?_⟩⟩
       have st15 := zae ht15 (.tup (ts.map fun q => V.ref q.1))
       have s1115 := s1114.trans (srd.trans st15)
       have P15 : PieceAt (upd (upd H14 rd (.lst (ts.map fun q => V.ref q.1))) t15 (.tup (ts.map fun q => V.ref q.1))) t15 (ts.map (·.2)) := ⟨ts, rfl, zab, fun q hq => st15 _ _ (srd _ _ (tups14 q (tp.mem_iff.mp hq)))⟩
       have pts : POk (ts.map (·.2)) := by
        refine ⟨by rw [List.length_map]; omega, fun x hx => ?_, by rw [List.map_map]; exact ta2⟩
        obtain ⟨y, hy, rfl⟩ := List.mem_map.mp hx
        rcases List.mem_append.mp (tp.mem_iff.mp hy) with zz | zz
        · exact prest.ok y.2 (List.mem_map_of_mem zz)
        · rw [List.mem_singleton.mp zz]
          exact fok'
       have g15 := s1115 _ _ h1
       generalize upd (upd H14 rd (.lst (ts.map fun q => V.ref q.1))) t15 (.tup (ts.map fun q => V.ref q.1)) = H15 at *
       have tl15 := zaY (o := .lst (qs11.map (fun q => V.ref q.1) ++ [V.ref t15])) g15
       refine ⟨l, _, _, rfl, rfl, g15, (by rw [List.length_map]; exact zao (by omega)), ⟨_, rfl⟩, fun c o h cl => by rw [zak cl]; exact s1115 _ _ (kp11 c o h cl), qs11 ++ [(t15, ts.map (·.2))], ?_, ?_, ?_⟩
       · rw [zab, List.map_append]; rfl
       · rw [List.length_append]; simp; omega
       · intro q hq
         rcases List.mem_append.mp hq with zz | zz
         · exact ⟨((h3 q zz).1.same s1115).keep tl15, (h3 q zz).2⟩
         · rw [List.mem_singleton.mp zz]
           exact ⟨P15.keep tl15, pts⟩
    · rintro σ H11 ⟨⟨y5', rfl⟩, kp11, qs11, h1, h2, h3⟩
      rw [List.length_map] at h2
      exact ⟨⟨_, _, _, rfl⟩, fun c o h cl => kp11 _ _ (s810 _ _ (kp8 c o h cl)) cl, qs11, h1, by omega, h3⟩
 · rintro σ H5 ⟨⟨y3, y4, y5, rfl⟩, kp, qs5, g1, g2, g3⟩
   have sH5 : Same H H5 := fun c o h => kp _ _ (sH4 _ _ h) (fun e => by rw [e, nl] at h; cases h)
   exact ⟨_, rfl, q l qs5 H5 sH5 g1 g3⟩
theorem zfV (F : Fun K "_law_right" "_law_right" zbW f fd) (G_law_common : Γ44 P w K mg base) (G_law_pieces : Γ45 P w K mg base) (G_law_is_made : Γ43 P w K mg base) (G_law_wants : Γ40 P w K mg base) : FnOk P w K mg base CX0 4 f fd ["found", "one", "other"] (zeP) := by
 refine F.ok sc_law_right (fun vs H Q E h => ?_) (fun cdv A outer s H vs Q E hr h => ?_)
 · obtain ⟨v, a, b, w1, w2, m, rfl, tm, hw1, hw2, dr1, dr2, q⟩ := h
   rfl
 obtain ⟨v, a, b, w1, w2, m, rfl, tm, hw1, hw2, dr1, dr2, q⟩ := h
 refine ⟨_, (zad (zaw (i := 3) sc_law_right.nd rfl (Or.inr rfl) (zar G_law_common (hr.mono (by decide)) rfl (zaa (pv 1) (zaa (pv 2) zac))))
  (zad (zaF (zas zjo za5 (zcD (N' := ["field", "numbers"]) (js := [none, some 3]) rfl (zbZ (N := ["found", "one", "other", "numbers", "piece"]) (outer := zah zbW) (by decide +kernel)) (zlr (pv 3)) (fun _ _ _ _ _ => (zai (i := 0) (show List.Nodup (["field", "numbers"] : List Str) by decide +kernel) rfl (Or.inl rfl))) (fun _ _ _ _ _ => zaM) (fun _ _ _ _ _ => (zcE (zci hr) (pv 1) (pv 0) (fun _ _ => rfl)))) (by with_unfolding_all rfl)) (zag (zal (zcF (zbL (pv 0))))) zap)
  (zad (zaF (zaX (zaQ (zar G_law_is_made (hr.mono (by decide)) rfl (zaa (pv 0) (zaa zaf zac))))) (zag (zal zbQ)) zap)
  (zad (zbl PassesOwn.never rfl (zaR (zar G_law_pieces (hr.mono (by decide)) rfl (zaa (pv 3) (zaa (za6 (zaa (pv 1) (zaa (pv 2) (zaa (pv 0) zac)))) zac)))) (zai (i := 4) sc_law_right.nd rfl (Or.inl rfl)) (zag (zaF (zas zir (zar G_law_wants (hr.mono (by decide)) rfl (zaa (pv 0) (zaa (pv 4) zac))) (zcG (zar G_law_wants (hr.mono (by decide)) rfl (zaa (pv 1) (zaa (pv 4) zac))) (zbK (zar G_law_wants (hr.mono (by decide)) rfl (zaa (pv 2) (zaa (pv 4) zac))))) (zau _)) (zag (zal zbQ)) zap)))
  (zag (zal zbQ)))))), ?_⟩
 have ok1 := dr1.wok
 have ok2 := dr2.wok
 have l1 := dr1.len
 have l2 := dr2.len
 refine ⟨_, rfl, _, rfl, a, b, w1, w2, rfl, hw1, hw2, ok1, ok2, by omega, fun d bs H1 s1 nd1 e1 N => ?_⟩
 refine ⟨_, rfl, d, kvS bs, bs.map (·.1), rfl, e1, zh0 bs, fun o p hp => ?_⟩
 have sf : Same H (upd H1 d (.frz o (.dK (kvS bs)))) := za1 s1 nd1
 have ef : (upd H1 d (.frz o (.dK (kvS bs)))) d = some (.frz o (.dK (kvS bs))) := zab
 generalize upd H1 d (.frz o (.dK (kvS bs))) = H2 at *
 have s0 := zae hp (.lst [])
 refine zlz (o := o) (a := d) (kvs := kvS bs) (fs := bs.map (·.1)) (fun i σ' ys H' => (∃ v, σ' = [v, some (.ref d)]) ∧ Same H2 H' ∧ H' p = some (.lst ys) ∧ ys = (bs.take i).map (·.2)) ?_ ?_ ?_ ?_
 · exact ⟨⟨none, rfl⟩, s0, zab, rfl⟩
 · rintro i σ' ys H' hi ⟨_, s, h1, rfl⟩
   refine ⟨s _ _ ef, h1, ?_⟩
   rw [List.length_map, List.length_take]
   have := N.len
   exact zao (by omega)
 · rintro i f σ' ys H' N' hf ⟨⟨v', rfl⟩, s, h1, rfl⟩ hN
   rw [List.getElem?_map] at hf
   cases ex : bs[i]? with
   | none => rw [ex] at hf; cases hf
   | some x =>
    rw [ex] at hf
    obtain rfl : x.1 = f := Option.some.inj hf
    have gd : DGet H' d (.str x.1) (some x.2) := .inl ⟨kvS bs, Sum.inr x.1, .inr ⟨o, s _ _ ef⟩, rfl, by rw [zb2, zjV N.nd (List.mem_of_getElem? ex)]⟩
    refine ⟨_, rfl, _, rfl, d, _, rfl, gd, h1, hN _ _ _ ⟨⟨_, rfl⟩, za1 s hp, zab, ?_⟩⟩
    rw [zaq ex, List.map_append]
    rfl
 · rintro σ' ys H3 ⟨_, s3, h3, rfl⟩
   rw [show bs.take (bs.map (·.1)).length = bs from List.take_of_length_le (by simp)] at h3
   obtain ⟨i1, i2⟩ := zh2 (fun f => zdg (zam w1 f) (zam w2 f)) bs N.val
   refine ⟨p, _, rfl, .inl (SqL.of h3), rfl, i2, ?_⟩
   have na := zju ok1 ok2 N
   have t3 := sf.trans s3
   refine ⟨_, rfl, ?_⟩
   show (if inV V.non (bs.map (·.2)) = true then _ else _)
   rw [i1, na]
   cases m with
   | none =>
    obtain ⟨rfl, ap⟩ := tm
    rw [ap]
    exact iteT ⟨_, rfl, q _ t3⟩
   | some m =>
    obtain ⟨ap, im, r, rfl, hm⟩ := tm
    rw [ap]
    rw [ap] at na
    have okm := zjz ok1 ok2 (by omega) im ap
    refine iteF ⟨_, rfl, r, m, rfl, hm.same t3, okm, fun H4 s4 => ⟨_, rfl, iteF ?_⟩⟩
    have t4 := t3.trans s4
    obtain ⟨bp, ebp, kbp⟩ := zlB N na
    have ef4 := s4 _ _ (s3 _ _ ef)
    rw [ebp] at ef4
    have lbp : bp.length ≤ 20 := by
     have h1 := congrArg List.length kbp
     have h2 := N.len
     simp at h1
     omega
    refine ⟨_, rfl, _, rfl, _, rfl, _, rfl, zq3, fun wl hwl => ?_⟩
    have s5 := zae hwl (.lst [V.ref a, V.ref b, V.ref r])
    have t5 := t4.trans s5
    have W5 : WishesAt (upd H4 wl (.lst [V.ref a, V.ref b, V.ref r])) wl [(a, w1), (b, w2), (r, m)] := by
     refine ⟨zab, fun x hx => ?_, by simp⟩
     simp only [List.mem_cons, List.not_mem_nil, or_false] at hx
     rcases hx with rfl | rfl | rfl
     · exact ⟨hw1.same t5, ok1⟩
     · exact ⟨hw2.same t5, ok2⟩
     · exact ⟨hm.same t5, okm⟩
    refine ⟨d, wl, o, bp, _, rfl, s5 _ _ ef4, by rw [kbp]; exact N.nd, fun x hx => N.ok _ (by rw [← kbp]; exact List.mem_map_of_mem hx), lbp, W5, by simp, fun l qs H6 s6 g1 g2 => ?_⟩
    have t6 := t5.trans s6
    refine ⟨l, rfl, ⟨_, SqL.of g1⟩, zbz (K := K) (a := l) (xs := qs.map fun q => V.ref q.1) (fun i σ H' => (∃ y, σ = [some (.ref r), some (.ref a), some (.ref b), some (.ref d), y]) ∧ Same H6 H') ⟨⟨none, rfl⟩, Same.refl _⟩ (fun i σ H' _ ⟨_, z⟩ => SqL.of (z _ _ g1)) ?_ ?_⟩
    · rintro i x σ H7 hx ⟨⟨y, rfl⟩, s7⟩
      rw [List.getElem?_map] at hx
      cases eq1 : qs[i]? with
      | none => rw [eq1] at hx; cases hx
      | some q1 =>
       rw [eq1] at hx
       obtain rfl : V.ref q1.1 = x := Option.some.inj hx
       obtain ⟨pa, pk⟩ := g2 q1 (List.mem_of_getElem? eq1)
       have t7 := t6.trans s7
       have pa7 := pa.same s7
       have tk := ziQ ok1.asc ok2.asc im q1.2
       refine ⟨_, rfl, _, rfl, r, q1.1, m, q1.2, rfl, hm.same t7, pa7, pk, fun H8 s8 => ?_⟩
       refine ⟨_, rfl, _, rfl, a, q1.1, w1, q1.2, rfl, hw1.same (t7.trans s8), pa7.same s8, pk, fun H9 s9 => ⟨_, rfl, ?_⟩⟩
       rw [tk]
       cases hb : zcr w1 q1.2 with
       | false => exact iteF ⟨rfl, _, rfl, ite2 (fun h => absurd h (by simp)) fun _ => ⟨⟨_, rfl⟩, s7.trans (s8.trans s9)⟩⟩
       | true =>
        refine iteT ⟨_, rfl, _, rfl, b, q1.1, w2, q1.2, rfl, hw2.same (t7.trans (s8.trans s9)), pa7.same (s8.trans s9), pk, fun H10 s10 => ?_⟩
        exact ⟨rfl, _, rfl, ite2 (fun h => absurd h (by simp)) fun _ => ⟨⟨_, rfl⟩, s7.trans (s8.trans (s9.trans s10))⟩⟩
    · rintro σ H7 ⟨⟨y, rfl⟩, s7⟩
      exact q _ (t6.trans s7)
theorem zda (F : Fun K "_law_again_right" "_law_again_right" za0 f fd) (G_in_order : Γ17 P w K mg base) (G_covers : Γ21 P w K mg base) (G_wish_met : Γ23 P w K mg base) (G_parting_piece : Γ24 P w K mg base) : FnOk P w K mg base CX0 12 f fd ["met", "one"] (zeW) := by
 refine F.ok sc_law_again_right (fun vs H Q E h => ?_) (fun cdv A outer s H vs Q E hr h => ?_)
 · obtain ⟨v, a, w1, w2, m, rfl, tm, hw1, dr1, dr2, q⟩ := h
   rfl
 obtain ⟨v, a, w1, w2, m, rfl, tm, hw1, dr1, dr2, q⟩ := h
 refine ⟨_, (zad (zaF (zaK (zbL (pv 0))) (zag (zal zbQ)) zap)
  (zad (zaF (PW.pt (zcz (zaX (zaQ (zar G_covers (hr.mono (by decide)) rfl (zaa (pv 1) (zaa (pv 0) zac))))) (zcz (zas (zfP (zby hr)) (zar G_wish_met (hr.mono (by decide)) rfl (zaa (pv 0) (zaa (pv 1) zac))) (pv 0) (zau _)) (zb7 (zaK (zaT (zar G_parting_piece (hr.mono (by decide)) rfl (zaa (pv 0) (zaa (pv 1) zac))))))))) (zag (zal zbQ)) zap)
  (zad (zaw (i := 2) sc_law_again_right.nd rfl (Or.inl rfl) (zar G_in_order (hr.mono (by decide)) rfl (zaa (za6 (zaa (pv 0) (zaa (pv 1) (zaa (pv 0) zac)))) zac)))
  (zag (zal (zcG (zbq zb0 (zdq PySem.F.plainAttrs_list PySem.F.slot_list_count PySem.F.type_list_count (zhU (zby hr)) (pv 2) (zaa (pv 0) zac)) (zaA zbM zaf (za7 zgo rfl B.int_ zh9 (zaa (zbq (zjp (zby hr)) (pv 0) (pv 1) (zau _)) zac))) (zau _)) (zcG (zbq zb0 (zdq PySem.F.plainAttrs_list PySem.F.slot_list_count PySem.F.type_list_count (zhU (zby hr)) (pv 2) (zaa (pv 1) zac)) (zaA zbM zaf (zaA zez zaf (za7 zgo rfl B.int_ zh9 (zaa (zbq (zjp (zby hr)) (pv 0) (pv 1) (zau _)) zac)))) (zau _)) (zbK (zbq zb0 (zat zbe rfl B.len_ zdh (zaa (pv 2) zac)) zaf (zau _)))))))))), ?_⟩
 have ok1 := dr1.wok
 have ok2 := dr2.wok
 have l1 := dr1.len
 have l2 := dr2.len
 cases m with
 | none =>
  obtain ⟨rfl, _⟩ := tm
  exact ⟨_, rfl, _, rfl, iteT (q _ (Same.refl _))⟩
 | some m =>
  obtain ⟨ap, im, r, rfl, hm⟩ := tm
  have okm := zjz ok1 ok2 (by omega) im ap
  have lm := im.len
  have rm := zjb ok1.asc im
  refine ⟨_, rfl, _, rfl, iteF ?_⟩
  refine ⟨_, rfl, _, rfl, a, r, w1, m, rfl, hw1, hm, ok1, okm, fun H1 s1 => ⟨_, rfl, ?_⟩⟩
  rw [rm]
  refine iteF ?_
  refine ⟨_, rfl, _, rfl, r, a, m, w1, rfl, hm.same s1, hw1.same s1, okm, ok1, by omega, fun h => absurd h (by rw [zhy ok1 okm im]; simp), fun _ r2 m2 H2 im2 s2 hm2 => ?_⟩
  obtain rfl := zjA im im2
  have t2 := s1.trans s2
  refine ⟨_, rfl, dW m2, dW m2, ze5 hm2, ze5 (hm.same t2), by have := zfu m2; omega, ?_⟩
  rw [zc8]
  refine ⟨_, rfl, iteF ?_⟩
  refine ⟨_, rfl, _, rfl, r, a, m2, w1, rfl, hm.same t2, hw1.same t2, okm, ok1, fun _ H3 s3 => ?_, fun h => absurd h (by rw [rm]; simp)⟩
  have t3 := t2.trans s3
  refine ⟨_, rfl, iteF ?_⟩
  refine ⟨_, rfl, _, rfl, _, rfl, zq3, fun l hl => ?_⟩
  have s4 := zae hl (.lst [V.ref r, V.ref a, V.ref r])
  have t4 := t3.trans s4
  have W4 : WishesAt (upd H3 l (.lst [V.ref r, V.ref a, V.ref r])) l [(r, m2), (a, w1), (r, m2)] := by
   refine ⟨zab, fun x hx => ?_, by simp⟩
   simp only [List.mem_cons, List.not_mem_nil, or_false] at hx
   rcases hx with rfl | rfl | rfl
   · exact ⟨hm.same t4, okm⟩
   · exact ⟨hw1.same t4, ok1⟩
   · exact ⟨hm.same t4, okm⟩
  refine ⟨l, _, rfl, W4, fun rr qs H5 s5 pm _ e5 => ?_⟩
  have t5 := t4.trans s5
  have hm5 := hm.same t5
  have hw5 := hw1.same t5
  have W5 := W4.same s5
  have reps : ∀ p ∈ qs.map (fun x => (x.1, dW x.2)), Rep K H5 p.2 (.ref p.1) ∧ zaD p.2 ≤ 20 := by
   intro p hp
   obtain ⟨x, hx, rfl⟩ := List.mem_map.mp hp
   refine ⟨ze5 (W5.ok x (pm.mem_iff.mp hx)).1, Nat.le_trans (zfu _) (by decide)⟩
  have e5' : H5 rr = some (.lst ((qs.map (fun x => (x.1, dW x.2))).map fun p => V.ref p.1)) := by rw [e5, List.map_map]; rfl
  have cnt : ∀ d, (qs.map (fun x => (x.1, dW x.2))).countP (fun p => pyEq p.2 d) = ([(r, m2), (a, w1), (r, m2)].map (fun x => (x.1, dW x.2))).countP (fun p => pyEq p.2 d) := fun d => (pm.map _).countP_eq _
  have lq : qs.length = 3 := pm.length_eq
  have c1 : ((qs.map (fun x => (x.1, dW x.2))).countP fun p => pyEq p.2 (dW m2)) = 2 + (if decide (m2 = w1) = true then 1 else 0) := by
   rw [cnt]
   simp only [List.map_cons, List.map_nil, List.countP_cons, List.countP_nil, zhJ]
   by_cases h : m2 = w1
   · subst h; simp
   · have h' : ¬ w1 = m2 := fun z => h z.symm
     simp [h, h']
  have c2 : ((qs.map (fun x => (x.1, dW x.2))).countP fun p => pyEq p.2 (dW w1)) = 1 + 2 * (if decide (m2 = w1) = true then 1 else 0) := by
   rw [cnt]
   simp only [List.map_cons, List.map_nil, List.countP_cons, List.countP_nil, zhJ]
   by_cases h : m2 = w1
   · subst h; simp
   · simp [h]
  refine ⟨_, rfl, .inl ⟨rfl, _, SqL.of e5'⟩, _, rfl, rr, _, .ref r, dW m2, rfl, rfl, SqL.of e5', reps, ze5 hm5, ?_⟩
  refine ⟨_, rfl, _, rfl, dW m2, dW w1, ze5 hm5, ze5 hw5, Nat.lt_of_le_of_lt (zfu _) (by decide), .inr ⟨_, rfl, _, _, rfl, rfl, rfl, ?_⟩⟩
  rw [c1, zhJ]
  refine ⟨_, rfl, ?_⟩
  have d1 : decide (V.int ((2 + (if decide (m2 = w1) = true then 1 else 0) : Nat) : Int) = V.int (2 + (if decide (m2 = w1) = true then 1 else 0))) = true := by
   by_cases h : m2 = w1 <;> simp [h]
  rw [d1]
  refine iteT ?_
  refine ⟨_, rfl, .inl ⟨rfl, _, SqL.of e5'⟩, _, rfl, rr, _, .ref a, dW w1, rfl, rfl, SqL.of e5', reps, ze5 hw5, ?_⟩
  refine ⟨_, rfl, _, rfl, dW m2, dW w1, ze5 hm5, ze5 hw5, Nat.lt_of_le_of_lt (zfu _) (by decide), .inr ⟨_, rfl, _, _, rfl, rfl, .inl (by decide), _, _, rfl, rfl, rfl, ?_⟩⟩
  rw [c2, zhJ]
  refine ⟨_, rfl, ?_⟩
  have d2 : decide (V.int ((1 + 2 * (if decide (m2 = w1) = true then 1 else 0) : Nat) : Int) = V.int (1 + 2 * (if decide (m2 = w1) = true then 1 else 0))) = true := by
   by_cases h : m2 = w1 <;> simp [h]
  rw [d2]
  refine iteT ?_
  refine ⟨_, rfl, rr, _, rfl, .inl (SqL.of e5), rfl, ?_⟩
  rw [List.length_map, lq]
  exact q _ t5
theorem zmg (F : Fun K "law" "law" zgR f fd) (G_law_bag : Γ25 P w K mg base) (G_law_two : Γ37 P w K mg base) (G_wish_met : Γ23 P w K mg base) (G_law_right : Γ46 P w K mg base) (G_law_again_right : Γ47 P w K mg base) : FnOk P w K mg base CX0 13 f fd ["script"] (zkj K) := by
 refine F.ok sc_law (fun vs H Q E h => ?_) (fun cdv A outer s H vs Q E hr h => ?_)
 · obtain ⟨a, ns, rfl, hS, h63, q⟩ := h
   rfl
 obtain ⟨a, ns, rfl, hS, h63, q⟩ := h
 refine ⟨_, (zad (zaw (i := 1) sc_law.nd rfl (Or.inl rfl) (zar G_law_bag (hr.mono (by decide)) rfl (zaa (pv 0) zac)))
  (zad (zaw (i := 2) sc_law.nd rfl (Or.inl rfl) (zay (zaa (zay zac) (zaa (zay zac) zac))))
  (zad (zbl PassesOwn.never rfl (zcC rfl B.range_ (zaa zaf zac)) (zai (i := 3) sc_law.nd rfl (Or.inl rfl)) (zad (zcB (zar G_law_two (hr.mono (by decide)) rfl (zaa (pv 1) zac)) (zca rfl (zan (zai (i := 4) sc_law.nd rfl (Or.inl rfl)) (zan (zai (i := 5) sc_law.nd rfl (Or.inl rfl)) zaS))))
  (zad (zbl PassesOwn.never rfl (zaR (za6 (zaa (zay (zaa (pv 4) (zaa (pv 5) zac))) (zaa (pv 2) (zaa (zay (zaa (pv 5) (zaa (pv 4) zac))) (zaa (zay (zaa (pv 4) (zaa (pv 5) zac))) zac)))))) (zca rfl (zan (zai (i := 6) sc_law.nd rfl (Or.inl rfl)) (zan (zai (i := 7) sc_law.nd rfl (Or.inl rfl)) zaS))) (zad (zaw (i := 8) sc_law.nd rfl (Or.inl rfl) (zar G_wish_met (hr.mono (by decide)) rfl (zaa (pv 6) (zaa (pv 7) zac))))
  (zag (zaF (PW.pt (zcz (zaX (zaQ (zar G_law_right (hr.mono (by decide)) rfl (zaa (pv 8) (zaa (pv 6) (zaa (pv 7) zac)))))) (zb7 (zaX (zaQ (zar G_law_again_right (hr.mono (by decide)) rfl (zaa (pv 8) (zaa (pv 6) zac)))))))) (zag (zal zbQ)) zap))))
  (zag (zaw (i := 2) sc_law.nd rfl (Or.inl rfl) (zay (zaa (pv 5) (zaa (pv 4) zac))))))))
  (zag (zal zbQ))))), ?_⟩
 refine ⟨_, rfl, a, ns, rfl, hS, h63, fun b g l H1 B1 S1 nb ng => ?_⟩
 refine ⟨(by show 0 ≤ sizeLine; decide), fun t1 ht1 => ?_⟩
 have st1 := zae ht1 (.tup [])
 have et1 : (upd H1 t1 (.tup [])) t1 = some (.tup []) := zab
 generalize upd H1 t1 (.tup []) = H1a at *
 refine ⟨(by show 0 ≤ sizeLine; decide), fun t2 ht2 => ?_⟩
 have st2 := zae ht2 (.tup [])
 have et2 : (upd H1a t2 (.tup [])) t2 = some (.tup []) := zab
 have et1b := st2 _ _ et1
 generalize upd H1a t2 (.tup []) = H1b at *
 refine ⟨zq2, fun la0 hla0 => ?_⟩
 have st3 := zae hla0 (.tup [V.ref t1, V.ref t2])
 have el0 : (upd H1b la0 (.tup [V.ref t1, V.ref t2])) la0 = some (.tup [V.ref t1, V.ref t2]) := zab
 have B1c := B1.same (st1.trans (st2.trans st3))
 have W10 : WishAt (upd H1b la0 (.tup [V.ref t1, V.ref t2])) t1 [] := ⟨[], rfl, st3 _ _ et1b, fun p hp => by simp at hp⟩
 have W20 : WishAt (upd H1b la0 (.tup [V.ref t1, V.ref t2])) t2 [] := ⟨[], rfl, st3 _ _ et2, fun p hp => by simp at hp⟩
 have D0 : WDrawn [] := ⟨by simp, fun p hp => by simp at hp, by simp⟩
 generalize upd H1b la0 (.tup [V.ref t1, V.ref t2]) = H1c at *
 refine ⟨3, rfl, by decide, by decide, zga (n := 3) (fun i σ H' => (∃ la y3 y4 y5 y6 y7 y8, σ = [some (.ref a), some (.ref b), some (.ref la), y3, y4, y5, y6, y7, y8] ∧ ∃ x y v1 v2, H' la = some (.tup [.ref x, .ref y]) ∧ WishAt H' x v1 ∧ WishAt H' y v2 ∧ WDrawn v1 ∧ WDrawn v2) ∧ Bag H' b g l (1001 * (i : Int))) ?_ ?_ ?_⟩
 · exact ⟨⟨la0, none, none, none, none, none, none, rfl, t1, t2, [], [], el0, W10, W20, D0, D0⟩, B1c.mono (by decide)⟩
 · rintro i σ H2 hi ⟨⟨la, y3, y4, y5, y6, y7, y8, rfl, lx, ly, u1, u2, ela, L1, L2', E1, E2⟩, B2⟩
   refine ⟨_, rfl, b, g, l, _, rfl, B2, by omega, fun r p p2 w1 w2 H4 er W1 W2 d1 d2 B4 S4 => ?_⟩
   have ela4 := S4.tup B2 ela
   have L14 := L1.sameB B2 S4
   have L24 := L2'.sameB B2 S4
   refine ⟨r, _, rfl, SqT.of er, rfl, _, _, rfl, _, _, rfl, rfl, ?_⟩
   refine ⟨_, rfl, _, rfl, zq2, fun c1 hc1 => ?_⟩
   have s1 := zae hc1 (.tup [V.ref p, V.ref p2])
   have f1 : (upd H4 c1 (.tup [V.ref p, V.ref p2])) c1 = some (.tup [V.ref p, V.ref p2]) := zab
   generalize upd H4 c1 (.tup [V.ref p, V.ref p2]) = H5 at *
   refine ⟨_, rfl, _, rfl, _, rfl, zq2, fun c3 hc3 => ?_⟩
   have s3 := zae hc3 (.tup [V.ref p2, V.ref p])
   have f3 : (upd H5 c3 (.tup [V.ref p2, V.ref p])) c3 = some (.tup [V.ref p2, V.ref p]) := zab
   have f1b := s3 _ _ f1
   have t3 := s1.trans s3
   generalize upd H5 c3 (.tup [V.ref p2, V.ref p]) = H6 at *
   refine ⟨_, rfl, _, rfl, zq2, fun c4 hc4 => ?_⟩
   have s4 := zae hc4 (.tup [V.ref p, V.ref p2])
   have f4 : (upd H6 c4 (.tup [V.ref p, V.ref p2])) c4 = some (.tup [V.ref p, V.ref p2]) := zab
   have f1c := s4 _ _ f1b
   have f3c := s4 _ _ f3
   have t4 := t3.trans s4
   generalize upd H6 c4 (.tup [V.ref p, V.ref p2]) = H7 at *
   refine ⟨(by show 4 ≤ sizeLine; decide), fun ls hls => ?_⟩
   have s5 := zae hls (.lst [V.ref c1, V.ref la, V.ref c3, V.ref c4])
   have fl : (upd H7 ls (.lst [V.ref c1, V.ref la, V.ref c3, V.ref c4])) ls = some (.lst [V.ref c1, V.ref la, V.ref c3, V.ref c4]) := zab
   have f1d := s5 _ _ f1c
   have f3d := s5 _ _ f3c
   have f4d := s5 _ _ f4
   have t5 := t4.trans s5
   generalize upd H7 ls (.lst [V.ref c1, V.ref la, V.ref c3, V.ref c4]) = H8 at *
   have fla := t5 _ _ ela4
   refine ⟨ls, rfl, ⟨_, SqL.of fl⟩, zbz (K := K) (a := ls) (xs := [V.ref c1, V.ref la, V.ref c3, V.ref c4]) (fun j σ H' => (∃ y6 y7 y8, σ = [some (.ref a), some (.ref b), some (.ref la), some (.int (0 + (i : Int))), some (.ref p), some (.ref p2), y6, y7, y8]) ∧ Same H8 H') ⟨⟨_, _, _, rfl⟩, Same.refl _⟩ (fun j σ H' _ ⟨_, z⟩ => SqL.of (z _ _ fl)) ?_ ?_⟩
   · rintro j x σ H9 hx ⟨⟨y6', y7', y8', rfl⟩, s9⟩
     have t9 := t5.trans s9
     obtain ⟨u, o1, o2, v1, v2, rfl, eu, O1, O2, e1, e2⟩ : ∃ (u o1 o2 : Addr) (v1 v2 : List WP), x = .ref u ∧ H9 u = some (.tup [.ref o1, .ref o2]) ∧ WishAt H9 o1 v1 ∧ WishAt H9 o2 v2 ∧ WDrawn v1 ∧ WDrawn v2 := by
      have A1 := W1.same t9
      have A2 := W2.same t9
      match j, hx with
      | 0, hx => exact ⟨c1, p, p2, w1, w2, (Option.some.inj hx).symm, s9 _ _ f1d, A1, A2, d1, d2⟩
      | 1, hx => exact ⟨la, lx, ly, u1, u2, (Option.some.inj hx).symm, s9 _ _ fla, L14.same t9, L24.same t9, E1, E2⟩
      | 2, hx => exact ⟨c3, p2, p, w2, w1, (Option.some.inj hx).symm, s9 _ _ f3d, A2, A1, d2, d1⟩
      | 3, hx => exact ⟨c4, p, p2, w1, w2, (Option.some.inj hx).symm, s9 _ _ f4d, A1, A2, d1, d2⟩
      | k + 4, hx => simp at hx
     refine ⟨u, _, rfl, SqT.of eu, rfl, _, _, rfl, _, _, rfl, rfl, ?_⟩
     have l1 := e1.len
     have l2 := e2.len
     refine ⟨_, rfl, _, rfl, o1, o2, v1, v2, rfl, O1, O2, e1.wok, e2.wok, by omega, fun ap H10 s10 => ?_, fun ap mr m H10 im s10 hm => ?_⟩
     · have tm : ToldMet H10 .non v1 v2 none := ⟨rfl, ap⟩
       refine ⟨_, rfl, _, rfl, _, rfl, _, o1, o2, v1, v2, none, rfl, tm, O1.same s10, O2.same s10, e1, e2, fun H11 s11 => ⟨_, rfl, iteF ?_⟩⟩
       refine ⟨_, rfl, _, rfl, _, o1, v1, v2, none, rfl, tm, O1.same (s10.trans s11), e1, e2, fun H12 s12 => ⟨_, rfl, iteF ⟨⟨_, _, _, rfl⟩, s9.trans (s10.trans (s11.trans s12))⟩⟩⟩
     · have tm : ToldMet H10 (.ref mr) v1 v2 (some m) := ⟨ap, im, mr, rfl, hm⟩
       refine ⟨_, rfl, _, rfl, _, rfl, _, o1, o2, v1, v2, some m, rfl, tm, O1.same s10, O2.same s10, e1, e2, fun H11 s11 => ⟨_, rfl, iteF ?_⟩⟩
       refine ⟨_, rfl, _, rfl, _, o1, v1, v2, some m, rfl, tm.same s11, O1.same (s10.trans s11), e1, e2, fun H12 s12 => ⟨_, rfl, iteF ⟨⟨_, _, _, rfl⟩, s9.trans (s10.trans (s11.trans s12))⟩⟩⟩
   · rintro σ H9 ⟨⟨y6', y7', y8', rfl⟩, s9⟩
     have t9 := t5.trans s9
     refine ⟨_, rfl, _, rfl, zq2, fun lb hlb => ?_⟩
     have s10 := zae hlb (.tup [V.ref p2, V.ref p])
     have t10 := t9.trans s10
     exact ⟨⟨lb, _, _, _, _, _, _, rfl, p2, p, w2, w1, zab, W2.same t10, W1.same t10, d2, d1⟩, (B4.same t10).mono (by omega)⟩
 · rintro σ H2 ⟨_, B2⟩
   exact q H2
end
open PySem.W (nsIn mg_of mg_none_of fnOf keepIn codeIn)
abbrev dF (n : Str) (s : Stmt) := fnOf n n (zcq s) (zcb s) (zah s) .none
theorem bn1 {K : PySem.W.Frag} {x : Str} {st : Stmt} {f : Addr} {fd : FuncData} {p0 : Str} (F : Fun K x x st f fd) (h : ∀ (kV doc pm : Value) (an : Option Addr) (cdv ct u0 : Value), bindArgs (fnOf x x (zcq st) (zcb st) (zah st) .none kV doc pm an cdv ct) ⟨[u0], []⟩ = pure [(p0, u0)] := by intros; rfl) : Binds K fd [p0] [] :=
 F.binds fun kV doc pm an cdv ct us hl => match us, hl with | [u0], _ => h kV doc pm an cdv ct u0
theorem bn2 {K : PySem.W.Frag} {x : Str} {st : Stmt} {f : Addr} {fd : FuncData} {p0 p1 : Str} (F : Fun K x x st f fd) (h : ∀ (kV doc pm : Value) (an : Option Addr) (cdv ct u0 u1 : Value), bindArgs (fnOf x x (zcq st) (zcb st) (zah st) .none kV doc pm an cdv ct) ⟨[u0, u1], []⟩ = pure [(p0, u0), (p1, u1)] := by intros; rfl) : Binds K fd [p0, p1] [] :=
 F.binds fun kV doc pm an cdv ct us hl => match us, hl with | [u0, u1], _ => h kV doc pm an cdv ct u0 u1
theorem bn3 {K : PySem.W.Frag} {x : Str} {st : Stmt} {f : Addr} {fd : FuncData} {p0 p1 p2 : Str} (F : Fun K x x st f fd) (h : ∀ (kV doc pm : Value) (an : Option Addr) (cdv ct u0 u1 u2 : Value), bindArgs (fnOf x x (zcq st) (zcb st) (zah st) .none kV doc pm an cdv ct) ⟨[u0, u1, u2], []⟩ = pure [(p0, u0), (p1, u1), (p2, u2)] := by intros; rfl) : Binds K fd [p0, p1, p2] [] :=
 F.binds fun kV doc pm an cdv ct us hl => match us, hl with | [u0, u1, u2], _ => h kV doc pm an cdv ct u0 u1 u2
theorem all_mk {l : PySem.W.OpenLaw} {w : World} {K : PySem.W.Frag} {h : Heap} {mg : Str → Option Value} {fa f1 f2 f3 f4 f5 f6 f7 f8 f9 f10 f11 f12 f13 f14 f15 f16 f17 f18 f19 f20 f21 f22 f23 f24 f25 f26 f27 f28 f29 f30 f31 f32 f33 f34 f35 f36 f37 f38 f39 f40 f41 f42 f43 f44 f45 f46 f47 f48 f49 : Addr} (X : K.In h) (G : h.Ns mainGlobals mg) (hfa : mg "law" = some (.ref fa))
 {od1 od2 od3 od4 od5 od6 od7 od8 od9 od10 od11 od12 od13 od14 od15 od16 od17 od18 od19 od20 od21 od22 od23 od24 od25 od26 od27 od28 od29 od30 od31 od32 od33 od34 od35 od36 od37 od38 od39 od40 od41 od42 od43 od44 od45 od46 od47 od48 od49 an1 an2 an3 an4 an5 an6 an7 an8 an9 an10 an11 an12 an13 an14 an15 an16 an17 an18 an19 an20 an21 an22 an23 an24 an25 an26 an27 an28 an29 an30 an31 an32 an33 an34 an35 an36 an37 an38 an39 an40 an41 an42 an43 an44 an45 an46 an47 an48 an49 : Option Addr} {sl1 sl2 sl3 sl4 sl5 sl6 sl7 sl8 sl9 sl10 sl11 sl12 sl13 sl14 sl15 sl16 sl17 sl18 sl19 sl20 sl21 sl22 sl23 sl24 sl25 sl26 sl27 sl28 sl29 sl30 sl31 sl32 sl33 sl34 sl35 sl36 sl37 sl38 sl39 sl40 sl41 sl42 sl43 sl44 sl45 sl46 sl47 sl48 sl49 : Array (Option Value)} {oc1 oc2 oc3 oc4 oc5 oc6 oc7 oc8 oc9 oc10 oc11 oc12 oc13 oc14 oc15 oc16 oc17 oc18 oc19 oc20 oc21 oc22 oc23 oc24 oc25 oc26 oc27 oc28 oc29 oc30 oc31 oc32 oc33 oc34 oc35 oc36 oc37 oc38 oc39 oc40 oc41 oc42 oc43 oc44 oc45 oc46 oc47 oc48 oc49 kV1 kV2 kV3 kV4 kV5 kV6 kV7 kV8 kV9 kV10 kV11 kV12 kV13 kV14 kV15 kV16 kV17 kV18 kV19 kV20 kV21 kV22 kV23 kV24 kV25 kV26 kV27 kV28 kV29 kV30 kV31 kV32 kV33 kV34 kV35 kV36 kV37 kV38 kV39 kV40 kV41 kV42 kV43 kV44 kV45 kV46 kV47 kV48 kV49 dc1 dc2 dc3 dc4 dc5 dc6 dc7 dc8 dc9 dc10 dc11 dc12 dc13 dc14 dc15 dc16 dc17 dc18 dc19 dc20 dc21 dc22 dc23 dc24 dc25 dc26 dc27 dc28 dc29 dc30 dc31 dc32 dc33 dc34 dc35 dc36 dc37 dc38 dc39 dc40 dc41 dc42 dc43 dc44 dc45 dc46 dc47 dc48 dc49 pm1 pm2 pm3 pm4 pm5 pm6 pm7 pm8 pm9 pm10 pm11 pm12 pm13 pm14 pm15 pm16 pm17 pm18 pm19 pm20 pm21 pm22 pm23 pm24 pm25 pm26 pm27 pm28 pm29 pm30 pm31 pm32 pm33 pm34 pm35 pm36 pm37 pm38 pm39 pm40 pm41 pm42 pm43 pm44 pm45 pm46 pm47 pm48 pm49 cd1 cd2 cd3 cd4 cd5 cd6 cd7 cd8 cd9 cd10 cd11 cd12 cd13 cd14 cd15 cd16 cd17 cd18 cd19 cd20 cd21 cd22 cd23 cd24 cd25 cd26 cd27 cd28 cd29 cd30 cd31 cd32 cd33 cd34 cd35 cd36 cd37 cd38 cd39 cd40 cd41 cd42 cd43 cd44 cd45 cd46 cd47 cd48 cd49 ct1 ct2 ct3 ct4 ct5 ct6 ct7 ct8 ct9 ct10 ct11 ct12 ct13 ct14 ct15 ct16 ct17 ct18 ct19 ct20 ct21 ct22 ct23 ct24 ct25 ct26 ct27 ct28 ct29 ct30 ct31 ct32 ct33 ct34 ct35 ct36 ct37 ct38 ct39 ct40 ct41 ct42 ct43 ct44 ct45 ct46 ct47 ct48 ct49 : Value}
 (a1 : nsIn K mainGlobals "is_whole" = some (some (.ref f1))) (l1 : K.lookup f1 = some ⟨oc1, od1, .func (dF "is_whole" zcQ kV1 dc1 pm1 an1 cd1 ct1), sl1⟩) (c1 : codeIn K cd1 "is_whole" = true) (k1 : keepIn K (.ref f1) = true)
 (a2 : nsIn K mainGlobals "is_end" = some (some (.ref f2))) (l2 : K.lookup f2 = some ⟨oc2, od2, .func (dF "is_end" zdK kV2 dc2 pm2 an2 cd2 ct2), sl2⟩) (c2 : codeIn K cd2 "is_end" = true) (k2 : keepIn K (.ref f2) = true)
 (a3 : nsIn K mainGlobals "is_span" = some (some (.ref f3))) (l3 : K.lookup f3 = some ⟨oc3, od3, .func (dF "is_span" zc7 kV3 dc3 pm3 an3 cd3 ct3), sl3⟩) (c3 : codeIn K cd3 "is_span" = true) (k3 : keepIn K (.ref f3) = true)
 (a4 : nsIn K mainGlobals "span_reaches" = some (some (.ref f4))) (l4 : K.lookup f4 = some ⟨oc4, od4, .func (dF "span_reaches" zbt kV4 dc4 pm4 an4 cd4 ct4), sl4⟩) (c4 : codeIn K cd4 "span_reaches" = true) (k4 : keepIn K (.ref f4) = true)
 (a5 : nsIn K mainGlobals "span_shared" = some (some (.ref f5))) (l5 : K.lookup f5 = some ⟨oc5, od5, .func (dF "span_shared" zaZ kV5 dc5 pm5 an5 cd5 ct5), sl5⟩) (c5 : codeIn K cd5 "span_shared" = true) (k5 : keepIn K (.ref f5) = true)
 (a6 : nsIn K mainGlobals "number_of" = some (some (.ref f6))) (l6 : K.lookup f6 = some ⟨oc6, od6, .func (dF "number_of" zck kV6 dc6 pm6 an6 cd6 ct6), sl6⟩) (c6 : codeIn K cd6 "number_of" = true) (k6 : keepIn K (.ref f6) = true)
 (a7 : nsIn K mainGlobals "number_apart" = some (some (.ref f7))) (l7 : K.lookup f7 = some ⟨oc7, od7, .func (dF "number_apart" zbv kV7 dc7 pm7 an7 cd7 ct7), sl7⟩) (c7 : codeIn K cd7 "number_apart" = true) (k7 : keepIn K (.ref f7) = true)
 (a8 : nsIn K mainGlobals "is_field" = some (some (.ref f8))) (l8 : K.lookup f8 = some ⟨oc8, od8, .func (dF "is_field" zce kV8 dc8 pm8 an8 cd8 ct8), sl8⟩) (c8 : codeIn K cd8 "is_field" = true) (k8 : keepIn K (.ref f8) = true)
 (a9 : nsIn K mainGlobals "is_wish_part" = some (some (.ref f9))) (l9 : K.lookup f9 = some ⟨oc9, od9, .func (dF "is_wish_part" zbw kV9 dc9 pm9 an9 cd9 ct9), sl9⟩) (c9 : codeIn K cd9 "is_wish_part" = true) (k9 : keepIn K (.ref f9) = true)
 (a10 : nsIn K mainGlobals "fields_ascend" = some (some (.ref f10))) (l10 : K.lookup f10 = some ⟨oc10, od10, .func (dF "fields_ascend" zaW kV10 dc10 pm10 an10 cd10 ct10), sl10⟩) (c10 : codeIn K cd10 "fields_ascend" = true) (k10 : keepIn K (.ref f10) = true)
 (a11 : nsIn K mainGlobals "is_wish" = some (some (.ref f11))) (l11 : K.lookup f11 = some ⟨oc11, od11, .func (dF "is_wish" zcy kV11 dc11 pm11 an11 cd11 ct11), sl11⟩) (c11 : codeIn K cd11 "is_wish" = true) (k11 : keepIn K (.ref f11) = true)
 (a12 : nsIn K mainGlobals "check_wish" = some (some (.ref f12))) (l12 : K.lookup f12 = some ⟨oc12, od12, .func (dF "check_wish" zb6 kV12 dc12 pm12 an12 cd12 ct12), sl12⟩) (c12 : codeIn K cd12 "check_wish" = true) (k12 : keepIn K (.ref f12) = true)
 (a13 : nsIn K mainGlobals "are_wishes" = some (some (.ref f13))) (l13 : K.lookup f13 = some ⟨oc13, od13, .func (dF "are_wishes" zbB kV13 dc13 pm13 an13 cd13 ct13), sl13⟩) (c13 : codeIn K cd13 "are_wishes" = true) (k13 : keepIn K (.ref f13) = true)
 (a14 : nsIn K mainGlobals "check_wishes" = some (some (.ref f14))) (l14 : K.lookup f14 = some ⟨oc14, od14, .func (dF "check_wishes" zbx kV14 dc14 pm14 an14 cd14 ct14), sl14⟩) (c14 : codeIn K cd14 "check_wishes" = true) (k14 : keepIn K (.ref f14) = true)
 (a15 : nsIn K mainGlobals "rank_of_low" = some (some (.ref f15))) (l15 : K.lookup f15 = some ⟨oc15, od15, .func (dF "rank_of_low" zbN kV15 dc15 pm15 an15 cd15 ct15), sl15⟩) (c15 : codeIn K cd15 "rank_of_low" = true) (k15 : keepIn K (.ref f15) = true)
 (a16 : nsIn K mainGlobals "rank_of_high" = some (some (.ref f16))) (l16 : K.lookup f16 = some ⟨oc16, od16, .func (dF "rank_of_high" zbu kV16 dc16 pm16 an16 cd16 ct16), sl16⟩) (c16 : codeIn K cd16 "rank_of_high" = true) (k16 : keepIn K (.ref f16) = true)
 (a17 : nsIn K mainGlobals "rank" = some (some (.ref f17))) (l17 : K.lookup f17 = some ⟨oc17, od17, .func (dF "rank" zfI kV17 dc17 pm17 an17 cd17 ct17), sl17⟩) (c17 : codeIn K cd17 "rank" = true) (k17 : keepIn K (.ref f17) = true)
 (a18 : nsIn K mainGlobals "in_order" = some (some (.ref f18))) (l18 : K.lookup f18 = some ⟨oc18, od18, .func (dF "in_order" zcR kV18 dc18 pm18 an18 cd18 ct18), sl18⟩) (c18 : codeIn K cd18 "in_order" = true) (k18 : keepIn K (.ref f18) = true)
 (a19 : nsIn K mainGlobals "spans_by_field" = some (some (.ref f19))) (l19 : K.lookup f19 = some ⟨oc19, od19, .func (dF "spans_by_field" zaP kV19 dc19 pm19 an19 cd19 ct19), sl19⟩) (c19 : codeIn K cd19 "spans_by_field" = true) (k19 : keepIn K (.ref f19) = true)
 (a20 : nsIn K mainGlobals "reaches_spans" = some (some (.ref f20))) (l20 : K.lookup f20 = some ⟨oc20, od20, .func (dF "reaches_spans" zbh kV20 dc20 pm20 an20 cd20 ct20), sl20⟩) (c20 : codeIn K cd20 "reaches_spans" = true) (k20 : keepIn K (.ref f20) = true)
 (a21 : nsIn K mainGlobals "wish_reaches" = some (some (.ref f21))) (l21 : K.lookup f21 = some ⟨oc21, od21, .func (dF "wish_reaches" zbs kV21 dc21 pm21 an21 cd21 ct21), sl21⟩) (c21 : codeIn K cd21 "wish_reaches" = true) (k21 : keepIn K (.ref f21) = true)
 (a22 : nsIn K mainGlobals "covers" = some (some (.ref f22))) (l22 : K.lookup f22 = some ⟨oc22, od22, .func (dF "covers" zdL kV22 dc22 pm22 an22 cd22 ct22), sl22⟩) (c22 : codeIn K cd22 "covers" = true) (k22 : keepIn K (.ref f22) = true)
 (a23 : nsIn K mainGlobals "wish_shared" = some (some (.ref f23))) (l23 : K.lookup f23 = some ⟨oc23, od23, .func (dF "wish_shared" zbg kV23 dc23 pm23 an23 cd23 ct23), sl23⟩) (c23 : codeIn K cd23 "wish_shared" = true) (k23 : keepIn K (.ref f23) = true)
 (a24 : nsIn K mainGlobals "wish_met" = some (some (.ref f24))) (l24 : K.lookup f24 = some ⟨oc24, od24, .func (dF "wish_met" zcL kV24 dc24 pm24 an24 cd24 ct24), sl24⟩) (c24 : codeIn K cd24 "wish_met" = true) (k24 : keepIn K (.ref f24) = true)
 (a25 : nsIn K mainGlobals "parting_piece" = some (some (.ref f25))) (l25 : K.lookup f25 = some ⟨oc25, od25, .func (dF "parting_piece" zbi kV25 dc25 pm25 an25 cd25 ct25), sl25⟩) (c25 : codeIn K cd25 "parting_piece" = true) (k25 : keepIn K (.ref f25) = true)
 (a26 : nsIn K mainGlobals "_law_bag" = some (some (.ref f26))) (l26 : K.lookup f26 = some ⟨oc26, od26, .func (dF "_law_bag" zcd kV26 dc26 pm26 an26 cd26 ct26), sl26⟩) (c26 : codeIn K cd26 "_law_bag" = true) (k26 : keepIn K (.ref f26) = true)
 (a27 : nsIn K mainGlobals "_law_draw" = some (some (.ref f27))) (l27 : K.lookup f27 = some ⟨oc27, od27, .func (dF "_law_draw" zcP kV27 dc27 pm27 an27 cd27 ct27), sl27⟩) (c27 : codeIn K cd27 "_law_draw" = true) (k27 : keepIn K (.ref f27) = true)
 (a28 : nsIn K mainGlobals "_law_number" = some (some (.ref f28))) (l28 : K.lookup f28 = some ⟨oc28, od28, .func (dF "_law_number" zb4 kV28 dc28 pm28 an28 cd28 ct28), sl28⟩) (c28 : codeIn K cd28 "_law_number" = true) (k28 : keepIn K (.ref f28) = true)
 (a29 : nsIn K mainGlobals "_law_held" = some (some (.ref f29))) (l29 : K.lookup f29 = some ⟨oc29, od29, .func (dF "_law_held" zcO kV29 dc29 pm29 an29 cd29 ct29), sl29⟩) (c29 : codeIn K cd29 "_law_held" = true) (k29 : keepIn K (.ref f29) = true)
 (a30 : nsIn K mainGlobals "_law_span" = some (some (.ref f30))) (l30 : K.lookup f30 = some ⟨oc30, od30, .func (dF "_law_span" zcN kV30 dc30 pm30 an30 cd30 ct30), sl30⟩) (c30 : codeIn K cd30 "_law_span" = true) (k30 : keepIn K (.ref f30) = true)
 (a31 : nsIn K mainGlobals "_law_whole" = some (some (.ref f31))) (l31 : K.lookup f31 = some ⟨oc31, od31, .func (dF "_law_whole" zcl kV31 dc31 pm31 an31 cd31 ct31), sl31⟩) (c31 : codeIn K cd31 "_law_whole" = true) (k31 : keepIn K (.ref f31) = true)
 (a32 : nsIn K mainGlobals "_law_in" = some (some (.ref f32))) (l32 : K.lookup f32 = some ⟨oc32, od32, .func (dF "_law_in" zdJ kV32 dc32 pm32 an32 cd32 ct32), sl32⟩) (c32 : codeIn K cd32 "_law_in" = true) (k32 : keepIn K (.ref f32) = true)
 (a33 : nsIn K mainGlobals "_law_field" = some (some (.ref f33))) (l33 : K.lookup f33 = some ⟨oc33, od33, .func (dF "_law_field" zbp kV33 dc33 pm33 an33 cd33 ct33), sl33⟩) (c33 : codeIn K cd33 "_law_field" = true) (k33 : keepIn K (.ref f33) = true)
 (a34 : nsIn K mainGlobals "_law_fields" = some (some (.ref f34))) (l34 : K.lookup f34 = some ⟨oc34, od34, .func (dF "_law_fields" zbA kV34 dc34 pm34 an34 cd34 ct34), sl34⟩) (c34 : codeIn K cd34 "_law_fields" = true) (k34 : keepIn K (.ref f34) = true)
 (a35 : nsIn K mainGlobals "_law_moved" = some (some (.ref f35))) (l35 : K.lookup f35 = some ⟨oc35, od35, .func (dF "_law_moved" zcn kV35 dc35 pm35 an35 cd35 ct35), sl35⟩) (c35 : codeIn K cd35 "_law_moved" = true) (k35 : keepIn K (.ref f35) = true)
 (a36 : nsIn K mainGlobals "_law_wish" = some (some (.ref f36))) (l36 : K.lookup f36 = some ⟨oc36, od36, .func (dF "_law_wish" zcM kV36 dc36 pm36 an36 cd36 ct36), sl36⟩) (c36 : codeIn K cd36 "_law_wish" = true) (k36 : keepIn K (.ref f36) = true)
 (a37 : nsIn K mainGlobals "_law_beside" = some (some (.ref f37))) (l37 : K.lookup f37 = some ⟨oc37, od37, .func (dF "_law_beside" zb5 kV37 dc37 pm37 an37 cd37 ct37), sl37⟩) (c37 : codeIn K cd37 "_law_beside" = true) (k37 : keepIn K (.ref f37) = true)
 (a38 : nsIn K mainGlobals "_law_two" = some (some (.ref f38))) (l38 : K.lookup f38 = some ⟨oc38, od38, .func (dF "_law_two" zc6 kV38 dc38 pm38 an38 cd38 ct38), sl38⟩) (c38 : codeIn K cd38 "_law_two" = true) (k38 : keepIn K (.ref f38) = true)
 (a39 : nsIn K mainGlobals "_law_span_of" = some (some (.ref f39))) (l39 : K.lookup f39 = some ⟨oc39, od39, .func (dF "_law_span_of" zbj kV39 dc39 pm39 an39 cd39 ct39), sl39⟩) (c39 : codeIn K cd39 "_law_span_of" = true) (k39 : keepIn K (.ref f39) = true)
 (a40 : nsIn K mainGlobals "_law_points" = some (some (.ref f40))) (l40 : K.lookup f40 = some ⟨oc40, od40, .func (dF "_law_points" zb3 kV40 dc40 pm40 an40 cd40 ct40), sl40⟩) (c40 : codeIn K cd40 "_law_points" = true) (k40 : keepIn K (.ref f40) = true)
 (a41 : nsIn K mainGlobals "_law_wants" = some (some (.ref f41))) (l41 : K.lookup f41 = some ⟨oc41, od41, .func (dF "_law_wants" zcm kV41 dc41 pm41 an41 cd41 ct41), sl41⟩) (c41 : codeIn K cd41 "_law_wants" = true) (k41 : keepIn K (.ref f41) = true)
 (a42 : nsIn K mainGlobals "_law_is_field" = some (some (.ref f42))) (l42 : K.lookup f42 = some ⟨oc42, od42, .func (dF "_law_is_field" za3 kV42 dc42 pm42 an42 cd42 ct42), sl42⟩) (c42 : codeIn K cd42 "_law_is_field" = true) (k42 : keepIn K (.ref f42) = true)
 (a43 : nsIn K mainGlobals "_law_is_span" = some (some (.ref f43))) (l43 : K.lookup f43 = some ⟨oc43, od43, .func (dF "_law_is_span" zbO kV43 dc43 pm43 an43 cd43 ct43), sl43⟩) (c43 : codeIn K cd43 "_law_is_span" = true) (k43 : keepIn K (.ref f43) = true)
 (a44 : nsIn K mainGlobals "_law_is_made" = some (some (.ref f44))) (l44 : K.lookup f44 = some ⟨oc44, od44, .func (dF "_law_is_made" zbP kV44 dc44 pm44 an44 cd44 ct44), sl44⟩) (c44 : codeIn K cd44 "_law_is_made" = true) (k44 : keepIn K (.ref f44) = true)
 (a45 : nsIn K mainGlobals "_law_common" = some (some (.ref f45))) (l45 : K.lookup f45 = some ⟨oc45, od45, .func (dF "_law_common" zaV kV45 dc45 pm45 an45 cd45 ct45), sl45⟩) (c45 : codeIn K cd45 "_law_common" = true) (k45 : keepIn K (.ref f45) = true)
 (a46 : nsIn K mainGlobals "_law_pieces" = some (some (.ref f46))) (l46 : K.lookup f46 = some ⟨oc46, od46, .func (dF "_law_pieces" zaU kV46 dc46 pm46 an46 cd46 ct46), sl46⟩) (c46 : codeIn K cd46 "_law_pieces" = true) (k46 : keepIn K (.ref f46) = true)
 (a47 : nsIn K mainGlobals "_law_right" = some (some (.ref f47))) (l47 : K.lookup f47 = some ⟨oc47, od47, .func (dF "_law_right" zbW kV47 dc47 pm47 an47 cd47 ct47), sl47⟩) (c47 : codeIn K cd47 "_law_right" = true) (k47 : keepIn K (.ref f47) = true)
 (a48 : nsIn K mainGlobals "_law_again_right" = some (some (.ref f48))) (l48 : K.lookup f48 = some ⟨oc48, od48, .func (dF "_law_again_right" za0 kV48 dc48 pm48 an48 cd48 ct48), sl48⟩) (c48 : codeIn K cd48 "_law_again_right" = true) (k48 : keepIn K (.ref f48) = true)
 (a49 : nsIn K mainGlobals "law" = some (some (.ref f49))) (l49 : K.lookup f49 = some ⟨oc49, od49, .func (dF "law" zgR kV49 dc49 pm49 an49 cd49 ct49), sl49⟩) (c49 : codeIn K cd49 "law" = true) (k49 : keepIn K (.ref f49) = true)
 {t_MOST_LETTERS : Tok} (e_MOST_LETTERS : nsIn K mainGlobals "MOST_LETTERS" = some (some (.int 8 t_MOST_LETTERS)))
 (z_len : nsIn K mainGlobals "len" = some none)
 (z_range : nsIn K mainGlobals "range" = some none)
 (z_isinstance : nsIn K mainGlobals "isinstance" = some none)
 (z_int : nsIn K mainGlobals "int" = some none)
 (z_bool : nsIn K mainGlobals "bool" = some none)
 (z_tuple : nsIn K mainGlobals "tuple" = some none)
 (z_list : nsIn K mainGlobals "list" = some none)
 (z_max : nsIn K mainGlobals "max" = some none)
 (z_min : nsIn K mainGlobals "min" = some none)
 (z_all : nsIn K mainGlobals "all" = some none)
 (z_zip : nsIn K mainGlobals "zip" = some none)
 (z_str : nsIn K mainGlobals "str" = some none)
 (z_dict : nsIn K mainGlobals "dict" = some none)
 (z_sorted : nsIn K mainGlobals "sorted" = some none)
 (z_set : nsIn K mainGlobals "set" = some none)
 (z_any : nsIn K mainGlobals "any" = some none)
 (z_sum : nsIn K mainGlobals "sum" = some none)
 (z_enumerate : nsIn K mainGlobals "enumerate" = some none)
 (z_repr : nsIn K mainGlobals "repr" = some none)
 (z_ord : nsIn K mainGlobals "ord" = some none)
 (z_chr : nsIn K mainGlobals "chr" = some none)
 (z_abs : nsIn K mainGlobals "abs" = some none)
 (z_reversed : nsIn K mainGlobals "reversed" = some none)
 : ∃ fd : FuncData, (∀ (s : Shared) (v : Value), BindsTo s fd ⟨[v], []⟩ [("script", v)]) ∧ ∀ base : Heap, K.In base → base.Ns mainGlobals mg → FnOk l.prog w K mg base CX0 13 fa fd ["script"] (zkj K) := by
 have e := hfa.symm.trans (PySem.W.mg_of X G a49)
 cases e
 have B : Bl mg := ⟨mg_none_of X G z_len, mg_none_of X G z_range, mg_none_of X G z_isinstance, mg_none_of X G z_int, mg_none_of X G z_bool, mg_none_of X G z_tuple, mg_none_of X G z_list, mg_none_of X G z_max, mg_none_of X G z_min, mg_none_of X G z_all, mg_none_of X G z_zip, mg_none_of X G z_str, mg_none_of X G z_dict, mg_none_of X G z_sorted, mg_none_of X G z_set, mg_none_of X G z_any, mg_none_of X G z_sum, mg_none_of X G z_enumerate, mg_none_of X G z_repr, mg_none_of X G z_ord, mg_none_of X G z_chr, mg_none_of X G z_abs, mg_none_of X G z_reversed⟩
 refine ⟨PySem.W.fnOf "law" "law" (zcq zgR) (zcb zgR) (zah zgR) .none kV49 dc49 pm49 an49 cd49 ct49, fun s v => .of_eq rfl, fun base _ _ => ?_⟩
 have CMOST_LETTERS := mg_of X G e_MOST_LETTERS
 have F1 := zax (st := zcQ) l1 c1 k1
 have b1 := bn1 (p0 := "thing") F1
 have G_is_whole : FnH l.prog w K mg base 1 "is_whole" ["thing"] (zdm K) := ⟨_, _, zg6 B CMOST_LETTERS F1 , b1, k1, mg_of X G a1⟩
 have F2 := zax (st := zdK) l2 c2 k2
 have b2 := bn1 (p0 := "thing") F2
 have G_is_end : FnH l.prog w K mg base 2 "is_end" ["thing"] (zlh K) := ⟨_, _, zjr B CMOST_LETTERS F2 G_is_whole, b2, k2, mg_of X G a2⟩
 have F3 := zax (st := zc7) l3 c3 k3
 have b3 := bn1 (p0 := "thing") F3
 have G_is_span : FnH l.prog w K mg base 3 "is_span" ["thing"] (zeT K) := ⟨_, _, zix B CMOST_LETTERS F3 G_is_end, b3, k3, mg_of X G a3⟩
 have F4 := zax (st := zbt) l4 c4 k4
 have b4 := bn2 (p0 := "one") (p1 := "other") F4
 have G_span_reaches : FnH l.prog w K mg base 1 "span_reaches" ["one", "other"] (zgB) := ⟨_, _, zea B CMOST_LETTERS F4 , b4, k4, mg_of X G a4⟩
 have F5 := zax (st := zaZ) l5 c5 k5
 have b5 := bn2 (p0 := "one") (p1 := "other") F5
 have G_span_shared : FnH l.prog w K mg base 1 "span_shared" ["one", "other"] (zeO) := ⟨_, _, zeo B CMOST_LETTERS F5 , b5, k5, mg_of X G a5⟩
 have F6 := zax (st := zck) l6 c6 k6
 have b6 := bn1 (p0 := "span") F6
 have G_number_of : FnH l.prog w K mg base 1 "number_of" ["span"] (zgD) := ⟨_, _, zfS B CMOST_LETTERS F6 , b6, k6, mg_of X G a6⟩
 have F7 := zax (st := zbv) l7 c7 k7
 have b7 := bn2 (p0 := "one") (p1 := "other") F7
 have G_number_apart : FnH l.prog w K mg base 2 "number_apart" ["one", "other"] (zgI) := ⟨_, _, zec B CMOST_LETTERS F7 G_span_shared G_number_of, b7, k7, mg_of X G a7⟩
 have F8 := zax (st := zce) l8 c8 k8
 have b8 := bn1 (p0 := "thing") F8
 have G_is_field : FnH l.prog w K mg base 1 "is_field" ["thing"] (zgG) := ⟨_, _, zg7 B CMOST_LETTERS F8 , b8, k8, mg_of X G a8⟩
 have F9 := zax (st := zbw) l9 c9 k9
 have b9 := bn1 (p0 := "thing") F9
 have G_is_wish_part : FnH l.prog w K mg base 4 "is_wish_part" ["thing"] (zdl) := ⟨_, _, zee B CMOST_LETTERS F9 G_is_field G_is_span, b9, k9, mg_of X G a9⟩
 have F10 := zax (st := zaW) l10 c10 k10
 have b10 := bn1 (p0 := "parts") F10
 have G_fields_ascend : FnH l.prog w K mg base 1 "fields_ascend" ["parts"] (zeV) := ⟨_, _, zdF B CMOST_LETTERS F10 , b10, k10, mg_of X G a10⟩
 have F11 := zax (st := zcy) l11 c11 k11
 have b11 := bn1 (p0 := "thing") F11
 have G_is_wish : FnH l.prog w K mg base 5 "is_wish" ["thing"] (zeS) := ⟨_, _, ziw B CMOST_LETTERS F11 G_fields_ascend G_is_wish_part, b11, k11, mg_of X G a11⟩
 have F12 := zax (st := zb6) l12 c12 k12
 have b12 := bn1 (p0 := "thing") F12
 have G_check_wish : FnH l.prog w K mg base 6 "check_wish" ["thing"] (zdY) := ⟨_, _, zfg B CMOST_LETTERS F12 G_is_wish, b12, k12, mg_of X G a12⟩
 have F13 := zax (st := zbB) l13 c13 k13
 have b13 := bn1 (p0 := "thing") F13
 have G_are_wishes : FnH l.prog w K mg base 6 "are_wishes" ["thing"] (zi1) := ⟨_, _, zfh B CMOST_LETTERS F13 G_is_wish, b13, k13, mg_of X G a13⟩
 have F14 := zax (st := zbx) l14 c14 k14
 have b14 := bn1 (p0 := "thing") F14
 have G_check_wishes : FnH l.prog w K mg base 7 "check_wishes" ["thing"] (zgH) := ⟨_, _, zef B CMOST_LETTERS F14 G_are_wishes, b14, k14, mg_of X G a14⟩
 have F15 := zax (st := zbN) l15 c15 k15
 have b15 := bn1 (p0 := "low") F15
 have G_rank_of_low : FnH l.prog w K mg base 1 "rank_of_low" ["low"] (ziY) := ⟨_, _, zep B CMOST_LETTERS F15 , b15, k15, mg_of X G a15⟩
 have F16 := zax (st := zbu) l16 c16 k16
 have b16 := bn1 (p0 := "high") F16
 have G_rank_of_high : FnH l.prog w K mg base 1 "rank_of_high" ["high"] (zgC) := ⟨_, _, zeb B CMOST_LETTERS F16 , b16, k16, mg_of X G a16⟩
 have F17 := zax (st := zfI) l17 c17 k17
 have b17 := bn1 (p0 := "wish") F17
 have G_rank : FnH l.prog w K mg base 2 "rank" ["wish"] (ziX K) := ⟨_, _, zlu B CMOST_LETTERS F17 G_rank_of_low G_rank_of_high, b17, k17, mg_of X G a17⟩
 have F18 := zax (st := zcR) l18 c18 k18
 have b18 := bn1 (p0 := "wishes") F18
 have G_in_order : FnH l.prog w K mg base 11 "in_order" ["wishes"] (zdW) := ⟨_, _, zg8 B CMOST_LETTERS F18 G_check_wishes G_rank, b18, k18, mg_of X G a18⟩
 have F19 := zax (st := zaP) l19 c19 k19
 have b19 := bn1 (p0 := "wish") F19
 have G_spans_by_field : FnH l.prog w K mg base 1 "spans_by_field" ["wish"] (zdn) := ⟨_, _, zdr B CMOST_LETTERS F19 , b19, k19, mg_of X G a19⟩
 have F20 := zax (st := zbh) l20 c20 k20
 have b20 := bn2 (p0 := "one") (p1 := "other_spans") F20
 have G_reaches_spans : FnH l.prog w K mg base 2 "reaches_spans" ["one", "other_spans"] (zdS) := ⟨_, _, zdD B CMOST_LETTERS F20 G_span_reaches, b20, k20, mg_of X G a20⟩
 have F21 := zax (st := zbs) l21 c21 k21
 have b21 := bn2 (p0 := "one") (p1 := "other") F21
 have G_wish_reaches : FnH l.prog w K mg base 3 "wish_reaches" ["one", "other"] (zcZ) := ⟨_, _, zd9 B CMOST_LETTERS F21 G_reaches_spans G_spans_by_field, b21, k21, mg_of X G a21⟩
 have F22 := zax (st := zdL) l22 c22 k22
 have b22 := bn2 (p0 := "one") (p1 := "other") F22
 have G_covers : FnH l.prog w K mg base 7 "covers" ["one", "other"] (zdX) := ⟨_, _, zjs B CMOST_LETTERS F22 G_check_wish G_wish_reaches, b22, k22, mg_of X G a22⟩
 have F23 := zax (st := zbg) l23 c23 k23
 have b23 := bn2 (p0 := "one") (p1 := "other") F23
 have G_wish_shared : FnH l.prog w K mg base 2 "wish_shared" ["one", "other"] (zet) := ⟨_, _, zen B CMOST_LETTERS F23 G_spans_by_field G_span_shared, b23, k23, mg_of X G a23⟩
 have F24 := zax (st := zcL) l24 c24 k24
 have b24 := bn2 (p0 := "one") (p1 := "other") F24
 have G_wish_met : FnH l.prog w K mg base 7 "wish_met" ["one", "other"] (zet) := ⟨_, _, zg1 B CMOST_LETTERS F24 G_check_wish G_wish_shared, b24, k24, mg_of X G a24⟩
 have F25 := zax (st := zbi) l25 c25 k25
 have b25 := bn2 (p0 := "one") (p1 := "other") F25
 have G_parting_piece : FnH l.prog w K mg base 7 "parting_piece" ["one", "other"] (zdU) := ⟨_, _, zdE B CMOST_LETTERS F25 G_check_wish G_wish_reaches G_spans_by_field G_number_apart G_number_of, b25, k25, mg_of X G a25⟩
 have F26 := zax (st := zcd) l26 c26 k26
 have b26 := bn1 (p0 := "script") F26
 have G_law_bag : FnH l.prog w K mg base 1 "_law_bag" ["script"] (zli K) := ⟨_, _, ziv B CMOST_LETTERS F26 , b26, k26, mg_of X G a26⟩
 have F27 := zax (st := zcP) l27 c27 k27
 have b27 := bn2 (p0 := "bag") (p1 := "many") F27
 have G_law_draw : FnH l.prog w K mg base 1 "_law_draw" ["bag", "many"] (zi0) := ⟨_, _, zg5 B CMOST_LETTERS F27 , b27, k27, mg_of X G a27⟩
 have F28 := zax (st := zb4) l28 c28 k28
 have b28 := bn1 (p0 := "bag") F28
 have G_law_number : FnH l.prog w K mg base 2 "_law_number" ["bag"] (zeR) := ⟨_, _, zfc B CMOST_LETTERS F28 G_law_draw, b28, k28, mg_of X G a28⟩
 have F29 := zax (st := zcO) l29 c29 k29
 have b29 := bn1 (p0 := "number") F29
 have G_law_held : FnH l.prog w K mg base 1 "_law_held" ["number"] (ziZ) := ⟨_, _, zg4 B CMOST_LETTERS F29 , b29, k29, mg_of X G a29⟩
 have F30 := zax (st := zcN) l30 c30 k30
 have b30 := bn1 (p0 := "bag") F30
 have G_law_span : FnH l.prog w K mg base 3 "_law_span" ["bag"] (ziW) := ⟨_, _, zg3 B CMOST_LETTERS F30 G_law_draw G_law_number G_law_held, b30, k30, mg_of X G a30⟩
 have F31 := zax (st := zcl) l31 c31 k31
 have b31 := bn1 (p0 := "found") F31
 have G_law_whole : FnH l.prog w K mg base 1 "_law_whole" ["found"] (zdm K) := ⟨_, _, zfT B CMOST_LETTERS F31 , b31, k31, mg_of X G a31⟩
 have F32 := zax (st := zdJ) l32 c32 k32
 have b32 := bn2 (p0 := "span") (p1 := "number") F32
 have G_law_in : FnH l.prog w K mg base 1 "_law_in" ["span", "number"] (spIn) := ⟨_, _, zjq B CMOST_LETTERS F32 , b32, k32, mg_of X G a32⟩
 have F33 := zax (st := zbp) l33 c33 k33
 have b33 := bn1 (p0 := "bag") F33
 have G_law_field : FnH l.prog w K mg base 2 "_law_field" ["bag"] (zdo) := ⟨_, _, zfX B CMOST_LETTERS F33 G_law_draw, b33, k33, mg_of X G a33⟩
 have F34 := zax (st := zbA) l34 c34 k34
 have b34 := bn2 (p0 := "bag") (p1 := "most") F34
 have G_law_fields : FnH l.prog w K mg base 3 "_law_fields" ["bag", "most"] (zc1) := ⟨_, _, zfd B CMOST_LETTERS F34 G_law_field G_law_draw, b34, k34, mg_of X G a34⟩
 have F35 := zax (st := zcn) l35 c35 k35
 have b35 := bn2 (p0 := "bag") (p1 := "span") F35
 have G_law_moved : FnH l.prog w K mg base 3 "_law_moved" ["bag", "span"] (zgE) := ⟨_, _, zfW B CMOST_LETTERS F35 G_law_draw G_law_number G_law_held, b35, k35, mg_of X G a35⟩
 have F36 := zax (st := zcM) l36 c36 k36
 have b36 := bn2 (p0 := "bag") (p1 := "fields") F36
 have G_law_wish : FnH l.prog w K mg base 4 "_law_wish" ["bag", "fields"] (zdV) := ⟨_, _, zg2 B CMOST_LETTERS F36 G_law_span G_law_draw, b36, k36, mg_of X G a36⟩
 have F37 := zax (st := zb5) l37 c37 k37
 have b37 := bn3 (p0 := "bag") (p1 := "wish") (p2 := "fields") F37
 have G_law_beside : FnH l.prog w K mg base 4 "_law_beside" ["bag", "wish", "fields"] (zdZ) := ⟨_, _, zff B CMOST_LETTERS F37 G_law_draw G_law_span G_law_moved, b37, k37, mg_of X G a37⟩
 have F38 := zax (st := zc6) l38 c38 k38
 have b38 := bn1 (p0 := "bag") F38
 have G_law_two : FnH l.prog w K mg base 5 "_law_two" ["bag"] (ziV) := ⟨_, _, ziu B CMOST_LETTERS F38 G_law_draw G_law_fields G_law_wish G_law_beside, b38, k38, mg_of X G a38⟩
 have F39 := zax (st := zbj) l39 c39 k39
 have b39 := bn2 (p0 := "wish") (p1 := "field") F39
 have G_law_span_of : FnH l.prog w K mg base 1 "_law_span_of" ["wish", "field"] (zeN) := ⟨_, _, zeq B CMOST_LETTERS F39 , b39, k39, mg_of X G a39⟩
 have F40 := zax (st := zb3) l40 c40 k40
 have b40 := bn1 (p0 := "spans") F40
 have G_law_points : FnH l.prog w K mg base 1 "_law_points" ["spans"] (zeQ K) := ⟨_, _, zfa B CMOST_LETTERS F40 , b40, k40, mg_of X G a40⟩
 have F41 := zax (st := zcm) l41 c41 k41
 have b41 := bn2 (p0 := "wish") (p1 := "piece") F41
 have G_law_wants : FnH l.prog w K mg base 2 "_law_wants" ["wish", "piece"] (zgA) := ⟨_, _, zfU B CMOST_LETTERS F41 G_law_in, b41, k41, mg_of X G a41⟩
 have F42 := zax (st := za3) l42 c42 k42
 have b42 := bn1 (p0 := "thing") F42
 have G_law_is_field : FnH l.prog w K mg base 1 "_law_is_field" ["thing"] (zcx) := ⟨_, _, zed B CMOST_LETTERS F42 , b42, k42, mg_of X G a42⟩
 have F43 := zax (st := zbO) l43 c43 k43
 have b43 := bn2 (p0 := "low") (p1 := "high") F43
 have G_law_is_span : FnH l.prog w K mg base 2 "_law_is_span" ["low", "high"] (zc0) := ⟨_, _, zer B CMOST_LETTERS F43 G_law_whole, b43, k43, mg_of X G a43⟩
 have F44 := zax (st := zbP) l44 c44 k44
 have b44 := bn2 (p0 := "thing") (p1 := "size") F44
 have G_law_is_made : FnH l.prog w K mg base 3 "_law_is_made" ["thing", "size"] (zgF) := ⟨_, _, zes B CMOST_LETTERS F44 G_law_is_field G_law_is_span G_law_whole, b44, k44, mg_of X G a44⟩
 have F45 := zax (st := zaV) l45 c45 k45
 have b45 := bn2 (p0 := "one") (p1 := "other") F45
 have G_law_common : FnH l.prog w K mg base 2 "_law_common" ["one", "other"] (zeU) := ⟨_, _, zfe B CMOST_LETTERS F45 G_law_span_of G_law_points G_law_in, b45, k45, mg_of X G a45⟩
 have F46 := zax (st := zaU) l46 c46 k46
 have b46 := bn2 (p0 := "numbers") (p1 := "wishes") F46
 have G_law_pieces : FnH l.prog w K mg base 2 "_law_pieces" ["numbers", "wishes"] (zdT) := ⟨_, _, zfb B CMOST_LETTERS F46 G_law_points G_law_span_of, b46, k46, mg_of X G a46⟩
 have F47 := zax (st := zbW) l47 c47 k47
 have b47 := bn3 (p0 := "found") (p1 := "one") (p2 := "other") F47
 have G_law_right : FnH l.prog w K mg base 4 "_law_right" ["found", "one", "other"] (zeP) := ⟨_, _, zfV B CMOST_LETTERS F47 G_law_common G_law_pieces G_law_is_made G_law_wants, b47, k47, mg_of X G a47⟩
 have F48 := zax (st := za0) l48 c48 k48
 have b48 := bn2 (p0 := "met") (p1 := "one") F48
 have G_law_again_right : FnH l.prog w K mg base 12 "_law_again_right" ["met", "one"] (zeW) := ⟨_, _, zda B CMOST_LETTERS F48 G_in_order G_covers G_wish_met G_parting_piece, b48, k48, mg_of X G a48⟩
 have F49 := zax (st := zgR) l49 c49 k49
 exact zmg B CMOST_LETTERS F49 G_law_bag G_law_two G_wish_met G_law_right G_law_again_right
theorem walk {l : PySem.W.OpenLaw} {q : Program} {loose : List Str} {XP : (Str → Option Value) → Heap → Prop} {YP : World → Heap → Prop} {d : DefRec} {K : Params → PySem.W.Frag} (hn : l.most = some 63) (hdf : d.params.defaults = [])
 (hY : ∀ (w : World) (h : Heap), YP w h → (K w.params).In h)
 (F : ∀ (w : World) (mg : Str → Option Value) (fa : Addr) (h : Heap), (K w.params).In h → h.Ns mainGlobals mg → mg d.name = some (.ref fa) →
  ∃ fd : FuncData, (∀ (s : Shared) (u : Value), BindsTo s fd ⟨[u], []⟩ [("script", u)]) ∧ ∀ base : Heap, (K w.params).In base → base.Ns mainGlobals mg → FnOk l.prog w (K w.params) mg base CX0 13 fa fd ["script"] (zkj (K w.params))) :
 PySem.W.WalkO q loose XP YP l.row.toRowW d [] (fun f vs => PySem.call f vs) :=
 L2.walk_of (n := 63) (k := 13) (x := "script") (CX := fun _ => CX0) (sp := fun w => zkj (K w.params)) hn (by decide) hdf ⟨rfl, by decide, by decide, rfl⟩ hY F (fun _ _ a ns hl _ hS => ⟨a, ns, rfl, hS, hl, fun _ => rfl⟩) fun _ _ _ _ _ z => z
end K07
namespace PySem.W.Fast
def tw13766501575130624000 := 0
def tw10407372277692183584 := 0
def tw2544010532762604768 := 0
def tw15958913704592299392 := 0
def tw6572859296531780000 := 0
def tw4136058504485689984 := 0
def tw7617774855461779168 := 0
def tw15732846464923399072 := 0
def tw1131848112559319105 := 0
def tw8557834156497180769 := 0
def tw9284753925057169601 := 0
def tw7485195918957281633 := 0
def tw195330187409749441 := 0
def tw3245211101115745089 := 0
def tw7434927791647019266 := 0
def tw9780864568129402146 := 0
def tw32993468587553154 := 0
def tw11277906719993906562 := 0
def tw7228037360553440642 := 0
def tw17978325278963299842 := 0
def tw15456656227374597858 := 0
def tw12488507938026656514 := 0
def tw4899471492949094146 := 0
def tw6695980775769809698 := 0
def tw15689716180016217890 := 0
def tw12858118925310922690 := 0
def tw9439565455441673186 := 0
def tw2571008013817168931 := 0
def tw4697106879565039875 := 0
def tw12890899815392484707 := 0
def tw10841644741981174243 := 0
def tw16795294200358174275 := 0
def tw4707561748007212739 := 0
def tw1873970074072056515 := 0
def tw9022014451032365923 := 0
def tw14455795292309928803 := 0
def tw15861863583249291171 := 0
def tw15705720549646550436 := 0
def tw9192050835244616260 := 0
def tw5079894782208814660 := 0
def tw815943615853313604 := 0
def tw7124376440761718372 := 0
def tw7408585152939538148 := 0
def tw16987146401123053380 := 0
def tw13996455235598414085 := 0
def tw9624606900625703301 := 0
def tw7879221792478459429 := 0
def tw9293530244646748773 := 0
def tw8717563460330277541 := 0
def tw15526547620456243909 := 0
def tw14829276644947292869 := 0
def tw2338525000802038597 := 0
def tw17999964442960624517 := 0
def tw12260596883818197030 := 0
def tw5215247146218924102 := 0
def tw5081961378751070502 := 0
def tw9939247717801389510 := 0
def tw1615935857176162790 := 0
def tw14781378019968587462 := 0
def tw15608007383575720678 := 0
def tw4193530004340066182 := 0
def tw10714413187336070247 := 0
def tw11255012614437136519 := 0
def tw8799270295326667943 := 0
def tw13970058456426822983 := 0
def tw14502754269871056263 := 0
def tw5947727624665717127 := 0
def tw8307151573546785287 := 0
def tw1845172253107323463 := 0
def tw15258311693122108039 := 0
def tw10897893535293925384 := 0
def tw1888412217357481032 := 0
def tw12324606553165928584 := 0
def tw11343462179877443784 := 0
def tw13385468552845647112 := 0
def tw3265430692466234760 := 0
def tw15561982517628539400 := 0
def tw14117452218412867176 := 0
def tw15014463137572819656 := 0
def tw1579888373577545480 := 0
def tw12572579082111194952 := 0
def tw14682203004412791624 := 0
def tw2209623892211558248 := 0
def tw1426516547433184136 := 0
def tw2547499273982577544 := 0
def tw17710644246343290824 := 0
def tw15463813658867402728 := 0
def tw5581501149217614953 := 0
def tw10677922416431520937 := 0
def tw3528735323923742185 := 0
def tw1090965267723780585 := 0
def tw12020817791188582985 := 0
def tw14464669758895233705 := 0
def tw2618078952671180457 := 0
def tw2653293679700388553 := 0
def tw17658944097877085961 := 0
def tw9845792369744484329 := 0
def tw12854696290933146890 := 0
def tw15048335544081812906 := 0
def tw16351116013029172874 := 0
def tw3607726397694803594 := 0
def tw6260153393518352074 := 0
def tw1439134156615476938 := 0
def tw16423457665747251307 := 0
def tw12105556276377673867 := 0
def tw6722785520879692235 := 0
def tw14605456239423246859 := 0
def tw12171574529558059563 := 0
def tw18214039486666327723 := 0
def tw12425845639858332395 := 0
def tw9216518379173759755 := 0
def tw174940000581820203 := 0
def tw13997037609804504939 := 0
def tw13630294009746554859 := 0
def tw928120080610790604 := 0
def tw12438242481940243756 := 0
def tw13783648463876043116 := 0
def tw1747542324072418700 := 0
def tw9059122919528956300 := 0
def tw7428911485213129708 := 0
def tw3566109211277555821 := 0
def tw12992137488915477677 := 0
def tw10115164504237021357 := 0
def tw13960487344374418669 := 0
def tw2554874947185755373 := 0
def tw6330247800411275533 := 0
def tw7543720969304045901 := 0
def tw10647129813331392909 := 0
def tw18083390553272673901 := 0
def tw2166525972684174029 := 0
def tw7574084753486895917 := 0
def tw13318716771220825102 := 0
def tw18088615307282160782 := 0
def tw2860561655979867310 := 0
def tw15028837436098631950 := 0
def tw4038770311942847854 := 0
def tw8182465085663336846 := 0
def tw15781810427628185262 := 0
def tw17644413770326449870 := 0
def tw14099530775475793902 := 0
def tw9779166799575614575 := 0
def tw10480783439522382991 := 0
def tw14916972038563356943 := 0
def tw10189971877738545455 := 0
def tw1148574581175264655 := 0
def tw14645630228552999375 := 0
def tw4421312592383748591 := 0
def tw11376811224879068719 := 0
def tw15758924478492594799 := 0
def tw14414225075917193903 := 0
def tw7681713961301338831 := 0
def tw5135735127724248943 := 0
def tw18263706468653355951 := 0
def tw8250581395723801648 := 0
def tw12148917942829047216 := 0
def tw10370626140530036176 := 0
def tw1649564556634551024 := 0
def tw9491423055139169040 := 0
def tw9459967442596645680 := 0
def tw9081549234253529137 := 0
def tw18273081946254970961 := 0
def tw2062725557883488433 := 0
def tw9527171337792214289 := 0
def tw9709480900895679761 := 0
def tw4379493057437843793 := 0
def tw12294110331008575825 := 0
def tw3009345100400783857 := 0
def tw18110203876846510641 := 0
def tw7979345327713392497 := 0
def tw14688505413321330802 := 0
def tw12317709939879991442 := 0
def tw15439683244941983090 := 0
def tw9759794151487710578 := 0
def tw9351037054741862834 := 0
def tw5836001395397962450 := 0
def tw287560129296310323 := 0
def tw12938696987928358035 := 0
def tw1887308061126456627 := 0
def tw6813551822002264403 := 0
def tw17750268461189948787 := 0
def tw2677568033289133459 := 0
def tw9844261778763081107 := 0
def tw16212684021963174771 := 0
def tw6929420892174355476 := 0
def tw9646102631775334548 := 0
def tw966560665331823924 := 0
def tw61791129975148980 := 0
def tw2181591334606827988 := 0
def tw6284070791226324436 := 0
def tw17959910481276977716 := 0
def tw8737953834136162868 := 0
def tw13169878002888377972 := 0
def tw5212448575017800340 := 0
def tw6055907532362493620 := 0
def tw4152584506671441652 := 0
def tw4496002743548180308 := 0
def tw940810453448988981 := 0
def tw6648118316354114933 := 0
def tw13279503677808254645 := 0
def tw6955583052533745493 := 0
def tw16316799190469233525 := 0
def tw450104372493742134 := 0
def tw9538274392145511670 := 0
def tw3316039452703353110 := 0
def tw6070945031811292438 := 0
def tw2189305930534011222 := 0
def tw16325495993463988598 := 0
def tw8957421031212985750 := 0
def tw10248515787084110230 := 0
def tw11879140326378045878 := 0
def tw8601365281021480470 := 0
def tw7289350612850103830 := 0
def tw4775352527072628342 := 0
def tw15671704942594701046 := 0
def tw4617828341235259318 := 0
def tw9532473938345614262 := 0
def tw14461948119130664886 := 0
def tw5549125914261270551 := 0
def tw16765257310253573175 := 0
def tw17285001703711424599 := 0
def tw12364158626378645623 := 0
def tw16909992339353500887 := 0
def tw10487542883966159063 := 0
def tw12127771435863824759 := 0
def tw14156629979259880919 := 0
def tw15078171904197043703 := 0
def tw13548014301888657975 := 0
def tw3712453561214918231 := 0
def tw16440679631258112631 := 0
def tw9256275512508351095 := 0
def tw10887878677936856823 := 0
def tw9816554302392367927 := 0
def tw6851659099211650935 := 0
def tw16497853454874534936 := 0
def tw11294707546171449496 := 0
def tw13332219482200973560 := 0
def tw1625705406292775224 := 0
def tw6806442218705830264 := 0
def tw3406543738778870168 := 0
def tw12833105521317559864 := 0
def tw16675077727128955864 := 0
def tw7128120816379377656 := 0
def tw5832097089471822840 := 0
def tw6308929735728164089 := 0
def tw14326978904173951257 := 0
def tw14794155764875047545 := 0
def tw12176090609580721849 := 0
def tw7758597900036652825 := 0
def tw943510641626157945 := 0
def tw7492070773747766137 := 0
def tw4674079535075963162 := 0
def tw10957607131971000794 := 0
def tw13693629316782705306 := 0
def tw16227413608646141722 := 0
def tw6431859395132167259 := 0
def tw16845371069970911451 := 0
def tw4775615170612989179 := 0
def tw6165836888329659867 := 0
def tw2692183633236054683 := 0
def tw10166788634180510523 := 0
def tw11928243398647920443 := 0
def tw17004247578458968955 := 0
def tw14149867451844915131 := 0
def tw14157608449312529596 := 0
def tw14870632772366143708 := 0
def tw11211524084218804540 := 0
def tw10846112203117166940 := 0
def tw11026414926717153628 := 0
def tw16731272851639586172 := 0
def tw15098611169482689148 := 0
def tw17570458238684145500 := 0
def tw17531227586732322748 := 0
def tw3178333165390090269 := 0
def tw1611922993337577629 := 0
def tw12783367234363000061 := 0
def tw15137538411981118109 := 0
def tw5835317891037230781 := 0
def tw11902482116592250877 := 0
def tw8341645415460360286 := 0
def tw9709751925380000894 := 0
def tw6512227585627666654 := 0
def tw7071830037647891742 := 0
def tw4250142609951892798 := 0
def tw7339884207901225502 := 0
def tw14582781695889835646 := 0
def tw2617664442180605630 := 0
def tw1583736497874317118 := 0
def tw2666629782532934558 := 0
def tw6359562939150357567 := 0
def tw866281641613162559 := 0
def tw9629377362816325823 := 0
def tw13080408976977018079 := 0
def tw3146049873791733055 := 0
def tw2575224151154690527 := 0
def tw5615690294619301439 := 0
def tw14314089715708210751 := 0
def tw6877744709737758335 := 0
def tw17165231533270487711 := 0
def tw4673285804424021663 := 0
def tw10373839728970771135 := 0
def tw2824832599673271231 := 0
end PySem.W.Fast
open PySem PySem.W PyProof.Rows
set_option maxRecDepth 100000 in
set_option maxHeartbeats 0 in
theorem PySem.Challenge.cw_newsways_k07_whole_wishes_met_holds : PySem.Challenge.rw_newsways_k07_whole_wishes_met.Holds := by
 w_on; o_law; k_head; (case hw => w_witness2)
 k_fill
 refine K07.walk (l := PySem.Challenge.rw_newsways_k07_whole_wishes_met) rfl rfl (fun w h Y => PySem.W.kIn_of Y) ?F
 case F =>
  intro w mg fa h KX G hmg
  refine' K07.all_mk KX G hmg ?a1 ?l1 ?c1 ?k1 ?a2 ?l2 ?c2 ?k2 ?a3 ?l3 ?c3 ?k3 ?a4 ?l4 ?c4 ?k4 ?a5 ?l5 ?c5 ?k5 ?a6 ?l6 ?c6 ?k6 ?a7 ?l7 ?c7 ?k7 ?a8 ?l8 ?c8 ?k8 ?a9 ?l9 ?c9 ?k9 ?a10 ?l10 ?c10 ?k10 ?a11 ?l11 ?c11 ?k11 ?a12 ?l12 ?c12 ?k12 ?a13 ?l13 ?c13 ?k13 ?a14 ?l14 ?c14 ?k14 ?a15 ?l15 ?c15 ?k15 ?a16 ?l16 ?c16 ?k16 ?a17 ?l17 ?c17 ?k17 ?a18 ?l18 ?c18 ?k18 ?a19 ?l19 ?c19 ?k19 ?a20 ?l20 ?c20 ?k20 ?a21 ?l21 ?c21 ?k21 ?a22 ?l22 ?c22 ?k22 ?a23 ?l23 ?c23 ?k23 ?a24 ?l24 ?c24 ?k24 ?a25 ?l25 ?c25 ?k25 ?a26 ?l26 ?c26 ?k26 ?a27 ?l27 ?c27 ?k27 ?a28 ?l28 ?c28 ?k28 ?a29 ?l29 ?c29 ?k29 ?a30 ?l30 ?c30 ?k30 ?a31 ?l31 ?c31 ?k31 ?a32 ?l32 ?c32 ?k32 ?a33 ?l33 ?c33 ?k33 ?a34 ?l34 ?c34 ?k34 ?a35 ?l35 ?c35 ?k35 ?a36 ?l36 ?c36 ?k36 ?a37 ?l37 ?c37 ?k37 ?a38 ?l38 ?c38 ?k38 ?a39 ?l39 ?c39 ?k39 ?a40 ?l40 ?c40 ?k40 ?a41 ?l41 ?c41 ?k41 ?a42 ?l42 ?c42 ?k42 ?a43 ?l43 ?c43 ?k43 ?a44 ?l44 ?c44 ?k44 ?a45 ?l45 ?c45 ?k45 ?a46 ?l46 ?c46 ?k46 ?a47 ?l47 ?c47 ?k47 ?a48 ?l48 ?c48 ?k48 ?a49 ?l49 ?c49 ?k49 ?e_MOST_LETTERS  ?z_len ?z_range ?z_isinstance ?z_int ?z_bool ?z_tuple ?z_list ?z_max ?z_min ?z_all ?z_zip ?z_str ?z_dict ?z_sorted ?z_set ?z_any ?z_sum ?z_enumerate ?z_repr ?z_ord ?z_chr ?z_abs ?z_reversed
  (case a1 => k_is); (case l1 => k_is); (case c1 => k_is); (case k1 => k_is)
  (case a2 => k_is); (case l2 => k_is); (case c2 => k_is); (case k2 => k_is)
  (case a3 => k_is); (case l3 => k_is); (case c3 => k_is); (case k3 => k_is)
  (case a4 => k_is); (case l4 => k_is); (case c4 => k_is); (case k4 => k_is)
  (case a5 => k_is); (case l5 => k_is); (case c5 => k_is); (case k5 => k_is)
  (case a6 => k_is); (case l6 => k_is); (case c6 => k_is); (case k6 => k_is)
  (case a7 => k_is); (case l7 => k_is); (case c7 => k_is); (case k7 => k_is)
  (case a8 => k_is); (case l8 => k_is); (case c8 => k_is); (case k8 => k_is)
  (case a9 => k_is); (case l9 => k_is); (case c9 => k_is); (case k9 => k_is)
  (case a10 => k_is); (case l10 => k_is); (case c10 => k_is); (case k10 => k_is)
  (case a11 => k_is); (case l11 => k_is); (case c11 => k_is); (case k11 => k_is)
  (case a12 => k_is); (case l12 => k_is); (case c12 => k_is); (case k12 => k_is)
  (case a13 => k_is); (case l13 => k_is); (case c13 => k_is); (case k13 => k_is)
  (case a14 => k_is); (case l14 => k_is); (case c14 => k_is); (case k14 => k_is)
  (case a15 => k_is); (case l15 => k_is); (case c15 => k_is); (case k15 => k_is)
  (case a16 => k_is); (case l16 => k_is); (case c16 => k_is); (case k16 => k_is)
  (case a17 => k_is); (case l17 => k_is); (case c17 => k_is); (case k17 => k_is)
  (case a18 => k_is); (case l18 => k_is); (case c18 => k_is); (case k18 => k_is)
  (case a19 => k_is); (case l19 => k_is); (case c19 => k_is); (case k19 => k_is)
  (case a20 => k_is); (case l20 => k_is); (case c20 => k_is); (case k20 => k_is)
  (case a21 => k_is); (case l21 => k_is); (case c21 => k_is); (case k21 => k_is)
  (case a22 => k_is); (case l22 => k_is); (case c22 => k_is); (case k22 => k_is)
  (case a23 => k_is); (case l23 => k_is); (case c23 => k_is); (case k23 => k_is)
  (case a24 => k_is); (case l24 => k_is); (case c24 => k_is); (case k24 => k_is)
  (case a25 => k_is); (case l25 => k_is); (case c25 => k_is); (case k25 => k_is)
  (case a26 => k_is); (case l26 => k_is); (case c26 => k_is); (case k26 => k_is)
  (case a27 => k_is); (case l27 => k_is); (case c27 => k_is); (case k27 => k_is)
  (case a28 => k_is); (case l28 => k_is); (case c28 => k_is); (case k28 => k_is)
  (case a29 => k_is); (case l29 => k_is); (case c29 => k_is); (case k29 => k_is)
  (case a30 => k_is); (case l30 => k_is); (case c30 => k_is); (case k30 => k_is)
  (case a31 => k_is); (case l31 => k_is); (case c31 => k_is); (case k31 => k_is)
  (case a32 => k_is); (case l32 => k_is); (case c32 => k_is); (case k32 => k_is)
  (case a33 => k_is); (case l33 => k_is); (case c33 => k_is); (case k33 => k_is)
  (case a34 => k_is); (case l34 => k_is); (case c34 => k_is); (case k34 => k_is)
  (case a35 => k_is); (case l35 => k_is); (case c35 => k_is); (case k35 => k_is)
  (case a36 => k_is); (case l36 => k_is); (case c36 => k_is); (case k36 => k_is)
  (case a37 => k_is); (case l37 => k_is); (case c37 => k_is); (case k37 => k_is)
  (case a38 => k_is); (case l38 => k_is); (case c38 => k_is); (case k38 => k_is)
  (case a39 => k_is); (case l39 => k_is); (case c39 => k_is); (case k39 => k_is)
  (case a40 => k_is); (case l40 => k_is); (case c40 => k_is); (case k40 => k_is)
  (case a41 => k_is); (case l41 => k_is); (case c41 => k_is); (case k41 => k_is)
  (case a42 => k_is); (case l42 => k_is); (case c42 => k_is); (case k42 => k_is)
  (case a43 => k_is); (case l43 => k_is); (case c43 => k_is); (case k43 => k_is)
  (case a44 => k_is); (case l44 => k_is); (case c44 => k_is); (case k44 => k_is)
  (case a45 => k_is); (case l45 => k_is); (case c45 => k_is); (case k45 => k_is)
  (case a46 => k_is); (case l46 => k_is); (case c46 => k_is); (case k46 => k_is)
  (case a47 => k_is); (case l47 => k_is); (case c47 => k_is); (case k47 => k_is)
  (case a48 => k_is); (case l48 => k_is); (case c48 => k_is); (case k48 => k_is)
  (case a49 => k_is); (case l49 => k_is); (case c49 => k_is); (case k49 => k_is)
  (case e_MOST_LETTERS => k_is)
  (case z_len => k_is); (case z_range => k_is); (case z_isinstance => k_is); (case z_int => k_is); (case z_bool => k_is); (case z_tuple => k_is); (case z_list => k_is); (case z_max => k_is); (case z_min => k_is); (case z_all => k_is); (case z_zip => k_is); (case z_str => k_is); (case z_dict => k_is); (case z_sorted => k_is); (case z_set => k_is); (case z_any => k_is); (case z_sum => k_is); (case z_enumerate => k_is); (case z_repr => k_is); (case z_ord => k_is); (case z_chr => k_is); (case z_abs => k_is); (case z_reversed => k_is)
