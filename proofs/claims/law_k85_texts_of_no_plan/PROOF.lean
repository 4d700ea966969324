import PyProof.Rows.All
import Wide.All
import OpenK.AllK
import Wide.FinOn
import Lean
import PyProof.EqAt
import PyProof.EqKinds
import PyProof.TupleCall
import PyProof.NeKinds
import KE.KRevIter
import PyProof.AttrMissHeap
import PyProof.ZipIter
import PyProof.DictList
import KE.KItemsList
import KE.KDictOf
import PyProof.Rows.SetFrom
import PyProof.ConsumeWalk
import PyProof.EnumFor
import PyProof.EnumMake
import PyProof.EnumStmt
import PyProof.RaisesMany
import PyProof.Rows.Own
import PyProof.FString
import PyProof.PureStr
import PyProof.FactsAll.str_2
import PyProof.RulesTry
import PyProof.RulesAs
import PyProof.RulesDel
import PyProof.ExcArgsOwn
import PyProof.ExcAttrAll.ValueError
import KE.KIsAll
import OpenK.KOwn
import PyProof.ExcBaseAll.ValueError
import PyProof.StationsW
import PyProof.Rows.CatchTuple
import KE.KIntText
import PyProof.Rows.StrSplitJoin
import PyProof.Rows.StrSplitAre
import PyProof.StrWalks
import PyProof.DictWalks
import PyProof.Rows.Range3
import PyProof.StrLawsTight
import PyProof.Rows.StrDigitsNeg
import PyProof.Rows.StrIntSpec
import PySem.Challenge.RW_forkplan_k85_texts_of_no_plan
set_option maxHeartbeats 4000000
-- CHANGE: your row's module here, as the last of these rows
set_option Elab.async false
set_option linter.all false
set_option maxRecDepth 100000
namespace L2
open PySem PySem.Spec PyProof.Rows

noncomputable abbrev Key := Sum Int Str
noncomputable def keyIs : Key → Value → Bool
  | .inl k, v => Value.isInt k v
  | .inr x, v => Value.isStrOf x v
noncomputable def keyH (w : World) : Key → Int
  | .inl k => hashInt k
  | .inr x => hashStr w x
theorem keyIs_shape : ∀ {k : Key} {v : Value}, keyIs k v = true → (∃ i t, k = Sum.inl i ∧ v = Value.int i t) ∨ (∃ x t, k = Sum.inr x ∧ v = Value.str x t)
  | .inl i, v, h => by
    obtain ⟨t, e⟩ := Value.isInt_shape (k := i) (v := v) h
    exact .inl ⟨i, t, rfl, e⟩
  | .inr x, v, h => by
    obtain ⟨t, e⟩ := Value.isStrOf_shape (x := x) (v := v) h
    exact .inr ⟨x, t, rfl, e⟩
theorem keyIs_int (i : Int) (t : Tok) : keyIs (.inl i) (.int i t) = true := by simp [keyIs, Value.isInt]
theorem keyIs_str (x : Str) (t : Tok) : keyIs (.inr x) (.str x t) = true := by simp [keyIs, Value.isStrOf]
theorem key_ll (a b : Int) : decide ((Sum.inl a : Key) = Sum.inl b) = (a == b) := by
  by_cases e : a = b
  · subst e; simp
  · have h : ¬ (Sum.inl a : Key) = Sum.inl b := fun q => e (Sum.inl.inj q)
    rw [decide_eq_false h]
    exact (beq_eq_false_iff_ne.mpr e).symm
theorem key_rr (a b : Str) : decide ((Sum.inr a : Key) = Sum.inr b) = decide (a = b) := by
  by_cases e : a = b
  · subst e; simp
  · have h : ¬ (Sum.inr a : Key) = Sum.inr b := fun q => e (Sum.inr.inj q)
    rw [decide_eq_false h, decide_eq_false e]
theorem key_lr (a : Int) (b : Str) : decide ((Sum.inl a : Key) = Sum.inr b) = false := decide_eq_false (fun q => nomatch q)
theorem key_rl (a : Str) (b : Int) : decide ((Sum.inr a : Key) = Sum.inl b) = false := decide_eq_false (fun q => nomatch q)

noncomputable def mixKind (prog : Program) (w : World) : PySem.KeyKind prog w Key where
  is := keyIs
  hash := keyH w
  inj := fun v a b ha hb => by
    rcases keyIs_shape ha with ⟨i, t, rfl, rfl⟩ | ⟨x, t, rfl, rfl⟩
    · rcases keyIs_shape hb with ⟨j, u, rfl, e⟩ | ⟨y, u, rfl, e⟩
      · injection e with e1 _; rw [e1]
      · exact nomatch e
    · rcases keyIs_shape hb with ⟨j, u, rfl, e⟩ | ⟨y, u, rfl, e⟩
      · exact nomatch e
      · injection e with e1 _; rw [e1]
  byValue := fun k v h => by
    rcases keyIs_shape h with ⟨i, t, rfl, rfl⟩ | ⟨x, t, rfl, rfl⟩ <;> rfl
  pyHash := fun hv h => by
    rcases keyIs_shape hv with ⟨i, t, rfl, rfl⟩ | ⟨x, t, rfl, rfl⟩
    · exact wpAny_pyHash_int h
    · exact wpAny_pyHash_str h
  eqBool := fun hu hv h => by
    rcases keyIs_shape hu with ⟨i, t, rfl, rfl⟩ | ⟨x, t, rfl, rfl⟩
    · rcases keyIs_shape hv with ⟨j, u, rfl, rfl⟩ | ⟨y, u, rfl, rfl⟩
      · rw [key_ll] at h; exact wpAny_eqBool_int h
      · rw [key_lr] at h; exact SeqAt.EqAt.int_str i t y u _ _ _ _ h
    · rcases keyIs_shape hv with ⟨j, u, rfl, rfl⟩ | ⟨y, u, rfl, rfl⟩
      · rw [key_rl] at h; exact SeqAt.EqAt.str_int x t j u _ _ _ _ h
      · rw [key_rr] at h; exact wpAny_eqBool_str h
  «strs» := fun k x t v h => by
    rcases keyIs_shape h with ⟨i, u, rfl, e⟩ | ⟨y, u, rfl, e⟩
    · exact nomatch e
    · injection e with e1 _
      subst e1
      cases v <;> rfl

theorem mixKind_int (prog : Program) (w : World) (i : Int) (t : Tok) : (mixKind prog w).is (.inl i) (.int i t) = true := keyIs_int i t
theorem mixKind_str (prog : Program) (w : World) (x : Str) (t : Tok) : (mixKind prog w).is (.inr x) (.str x t) = true := keyIs_str x t
end L2

namespace L2
open PySem PySem.Spec PyProof.Rows

inductive V where
  | non | bl (b : Bool) | int (i : Int) | str (x : Str) | byt (b : Array UInt8) | flt (b : UInt64) | ref (a : Addr) | ty (n : String)
  deriving DecidableEq

noncomputable def RelV : V → Value → Prop
  | .non, u => u = Value.none
  | .bl b, u => u = Value.bool b
  | .int i, u => ∃ t, u = Value.int i t
  | .str x, u => ∃ t, u = Value.str x t
  | .byt b, u => ∃ t, u = Value.bytes b t
  | .flt b, u => ∃ t, u = Value.float b t
  | .ref a, u => u = Value.ref a
  | .ty n, u => u = Value.type n

noncomputable abbrev Vals : List V → List Value → Prop := Paired RelV
theorem Vals.length {xs : List V} {us : List Value} (r : Vals xs us) : xs.length = us.length := Paired.length r
theorem Vals.get : ∀ {xs : List V} {us : List Value} {i : Nat} {x : V}, Vals xs us → xs[i]? = some x → ∃ u, us[i]? = some u ∧ RelV x u
  | _, _, _, _, .nil, e => by simp at e
  | _, _, 0, _, .cons r _, e => by simp at e; subst e; exact ⟨_, rfl, r⟩
  | _, _, i + 1, x, .cons _ t, e => by
    obtain ⟨u, h1, h2⟩ := Vals.get (i := i) (x := x) t (by simpa using e)
    exact ⟨u, by simpa using h1, h2⟩
theorem Vals.set {x : V} {u : Value} (r : RelV x u) : ∀ {xs : List V} {us : List Value} (i : Nat), Vals xs us → Vals (xs.set i x) (us.set i u)
  | _, _, _, .nil => .nil
  | _, _, 0, .cons _ t => .cons r t
  | _, _, i + 1, .cons q t => .cons q (Vals.set r i t)
theorem Vals.append : ∀ {xs ys : List V} {us ws : List Value}, Vals xs us → Vals ys ws → Vals (xs ++ ys) (us ++ ws)
  | _, _, _, _, .nil, s => s
  | _, _, _, _, .cons r t, s => .cons r (Vals.append t s)
theorem Vals.take : ∀ {xs : List V} {us : List Value} (n : Nat), Vals xs us → Vals (xs.take n) (us.take n)
  | _, _, 0, _ => .nil
  | _, _, _ + 1, .nil => .nil
  | _, _, n + 1, .cons r t => .cons r (Vals.take n t)
theorem Vals.drop : ∀ {xs : List V} {us : List Value} (n : Nat), Vals xs us → Vals (xs.drop n) (us.drop n)
  | _, _, 0, r => r
  | _, _, _ + 1, .nil => .nil
  | _, _, n + 1, .cons _ t => Vals.drop n t
noncomputable def RelO : Option V → Option Value → Prop
  | some v, some u => RelV v u
  | none, none => True
  | _, _ => False
noncomputable def KV {κ : Type} : List (κ × V) → List (κ × Value) → Prop := Paired fun (p : κ × V) (q : κ × Value) => p.1 = q.1 ∧ RelV p.2 q.2

noncomputable def kV : Key → V
  | .inl i => .int i
  | .inr x => .str x

inductive HO where
  /-- a list -/
  | lst (xs : List V)
  /-- a tuple (never changes) -/
  | tup (xs : List V)
  /-- a dict whose keys are ints and texts; one whose keys are tuples of ints and texts (the empty one is both) -/
  | dK (kvs : List (Key × V)) | dT (kvs : List (List Key × V))
  /-- a set of ints: its members, its size -/
  | set (S : Int → Bool) (n : Nat)
  /-- an instance of the class at C, its dict at dx, its attributes -/
  | ins (C dx : Addr) (fs : List (Str × V))
  /-- the dict of the instance at x -/
  | own (x : Addr)
  /-- the dict of an exception -/
  | xd (fs : List (Str × V))
  /-- a bound method, f of x -/
  | met (f x : Addr)
  /-- a range object lo, lo + 1, .. below hi -/
  | rng (lo hi : Int)
  /-- a thing that is known to the object (the script; a dict while a loop walks it): read, never written while it is so -/
  | frz (o : Obj) (u : HO)
  /-- a code object's table -/
  | tbl (ps : Array Value)
  /-- any other thing, by what is true of its one object (a def of one's own: SetO a S n := HO.ext fun h => ..) -/
  | ext (φ : Heap → Prop)

noncomputable abbrev Hp := Addr → Option HO
noncomputable def upd (H : Hp) (a : Addr) (o : HO) : Hp := fun b => if b = a then some o else H b
theorem upd_same {H : Hp} {a : Addr} {o : HO} : upd H a o a = some o := by unfold upd; rw [if_pos rfl]
theorem upd_ne {H : Hp} {a b : Addr} {o : HO} (h : b ≠ a) : upd H a o b = H b := by unfold upd; rw [if_neg h]
theorem upd_upd {H : Hp} {a : Addr} {o u : HO} : upd (upd H a o) a u = upd H a u := by
  funext b; unfold upd; split <;> rfl
theorem ne_of {H : Hp} {a b : Addr} {o u : HO} (h : H a = some o) (h' : H b = some u) (d : o ≠ u) : a ≠ b := by
  intro e; subst e; rw [h] at h'; exact d (Option.some.inj h')
theorem ne_of_none {H : Hp} {a b : Addr} {o : HO} (h : H a = some o) (h' : H b = none) : a ≠ b := by
  intro e; subst e; rw [h] at h'; cases h'

noncomputable def TupX (h : Heap) (a : Addr) (its : Array Value) : Prop := ∃ o, h.get? a = some o ∧ o.cls = .type "tuple" ∧ ∃ n, o.data = .seq its n ∧ o.dict = none
theorem TupX.tup {h : Heap} {a : Addr} {its : Array Value} (x : TupX h a its) : IsTup h a its := let ⟨o, e, c, n, d, _⟩ := x; ⟨o, e, c, n, d⟩
theorem TupX.lt {h : Heap} {a : Addr} {its : Array Value} (x : TupX h a its) : a < h.objs.size := x.tup.lt
theorem TupX.new (h : Heap) (its : Array Value) : TupX (h.push { cls := .type "tuple", data := .seq its }) h.objs.size its := ⟨_, Heap.get?_push_size _ rfl, rfl, _, rfl, rfl⟩
section
variable (P : Program) (w : World)
noncomputable def ObjOk (H : Hp) (h : Heap) (a : Addr) : HO → Prop
  | .lst xs => xs.length ≤ sizeLine ∧ ∃ (its : List Value) (n : Nat), Vals xs its ∧ h.get? a = some { cls := .type "list", data := .seq its.toArray n }
  | .tup xs => xs.length ≤ sizeLine ∧ ∃ its : List Value, Vals xs its ∧ TupX h a its.toArray
  | .dK kvs => kvs.length ≤ sizeLine ∧ (a == sysModules) = false ∧ ∃ vs, KV kvs vs ∧ h.DictOf (mixKind P w) a vs
  | .dT kvs => kvs.length ≤ sizeLine ∧ (a == sysModules) = false ∧ ∃ xs : List (List Key × Addr × Value),
      Paired (fun (p : List Key × V) (q : List Key × Addr × Value) => p.1 = q.1 ∧ H q.2.1 = some (.tup (p.1.map kV)) ∧ RelV p.2 q.2.2) kvs xs ∧
      ∃ o es ep, h.get? a = some o ∧ o.ExactDict ∧ o.data = .dict es ep ∧ es.toList = xs.map (entryOfKey (tupleKind (mixKind P w))) ∧ (xs.map (·.1)).Nodup
  | .set S n => h.SetOf (intKind P w) a S n
  | .ins C dx fs => H dx = some (.own a) ∧ fs.length ≤ 1000 ∧ dx ≠ a ∧ h.get? a = some (PySem.W.instObj C dx) ∧
      ∃ mA, h.Ns1 dx mA ∧ (∀ f, RelO (fs.lookup f) (mA f)) ∧ PySem.Within mA (fs.map (·.1))
  | .own _ => ∃ o, h.get? a = some o
  | .xd fs => ∃ mA, h.Ns1 a mA ∧ ∀ f, RelO (fs.lookup f) (mA f)
  | .rng lo hi => ∃ t u v, h.get? a = some { cls := .type "range", data := .fields #[.int lo t, .int hi u, .int 1 v] }
  | .frz o u => h.get? a = some o ∧ ObjOk H h a u
  | .tbl ps => h.get? a = some { cls := .none, data := .fields ps }
  | .met f x => h.get? a = some (PySem.W.methodObj (.ref f) (.ref x))
  | .ext φ => φ h ∧ (∃ o, h.get? a = some o) ∧ ∀ h1 h2 : Heap, φ h1 → (∀ o, h1.get? a = some o → h2.get? a = some o) → φ h2
noncomputable def HOk (H : Hp) (h : Heap) : Prop := ∀ a o, H a = some o → ObjOk P w H h a o
end

section
variable {P : Program} {w : World} {H H' : Hp} {h h' : Heap} {a : Addr} {o : HO}
theorem ObjOk.lt (x : ObjOk P w H h a o) : a < h.objs.size := by
  cases o with
  | lst xs => obtain ⟨_, _, _, _, e⟩ := x; exact Heap.lt_size e
  | tup xs => obtain ⟨_, _, _, p⟩ := x; exact p.lt
  | dK kvs => obtain ⟨_, _, _, _, o, _, _, e, _⟩ := x; exact Heap.lt_size e
  | dT kvs => obtain ⟨_, _, _, _, o, _, _, e, _⟩ := x; exact Heap.lt_size e
  | set S n => obtain ⟨o, _, _, _, e, _⟩ := x; exact Heap.lt_size e
  | ins C dx fs => obtain ⟨_, _, _, e, _⟩ := x; exact Heap.lt_size e
  | own y => obtain ⟨_, e⟩ := x; exact Heap.lt_size e
  | xd fs => obtain ⟨_, ⟨_, _, _, e, _⟩, _⟩ := x; exact Heap.lt_size e
  | rng lo hi => obtain ⟨_, _, _, e⟩ := x; exact Heap.lt_size e
  | frz ob u => obtain ⟨e, _⟩ := x; exact Heap.lt_size e
  | tbl ps => exact Heap.lt_size (show h.get? a = some _ from x)
  | met f y => exact Heap.lt_size (show h.get? a = some _ from x)
  | ext φ => obtain ⟨_, ⟨_, e⟩, _⟩ := x; exact Heap.lt_size e
theorem Paired.mapP {α β : Type} {F G : α → β → Prop} : ∀ {l₁ : List α} {l₂ : List β}, Paired F l₁ l₂ → (∀ a b, F a b → G a b) → Paired G l₁ l₂
  | _, _, .nil, _ => .nil
  | _, _, .cons r t, f => .cons (f _ _ r) (Paired.mapP t f)
theorem ObjOk.stay (x : ObjOk P w H h a o) (k : ∀ b u, (b = a ∨ H b = some (.own a)) → h.get? b = some u → h'.get? b = some u)
    (ho : ∀ b, H b = some (.own a) → H' b = some (.own a)) (ht : ∀ b xs, H b = some (.tup xs) → H' b = some (.tup xs)) : ObjOk P w H' h' a o := by
  induction o with
  | lst xs => obtain ⟨z, its, n, r, e⟩ := x; exact ⟨z, its, n, r, k _ _ (.inl rfl) e⟩
  | tup xs => obtain ⟨z, its, r, ob, e, c⟩ := x; exact ⟨z, its, r, ob, k _ _ (.inl rfl) e, c⟩
  | dK kvs => obtain ⟨z, y, vs, r, ob, es, ep, e, c⟩ := x; exact ⟨z, y, vs, r, ob, es, ep, k _ _ (.inl rfl) e, c⟩
  | dT kvs =>
    obtain ⟨z, y, xs, r, ob, es, ep, e, c⟩ := x
    exact ⟨z, y, xs, Paired.mapP r fun p q z => ⟨z.1, ht _ _ z.2.1, z.2.2⟩, ob, es, ep, k _ _ (.inl rfl) e, c⟩
  | set S n => obtain ⟨ob, es, ep, t, e, c⟩ := x; exact ⟨ob, es, ep, t, k _ _ (.inl rfl) e, c⟩
  | ins C dx fs =>
    obtain ⟨d, z, ne, e, mA, ⟨od, es, ep, e2, c⟩, r⟩ := x
    exact ⟨ho _ d, z, ne, k _ _ (.inl rfl) e, mA, ⟨od, es, ep, k _ _ (.inr d) e2, c⟩, r⟩
  | own y => obtain ⟨ob, e⟩ := x; exact ⟨ob, k _ _ (.inl rfl) e⟩
  | xd fs => obtain ⟨mA, ⟨od, es, ep, e, c⟩, r⟩ := x; exact ⟨mA, ⟨od, es, ep, k _ _ (.inl rfl) e, c⟩, r⟩
  | rng lo hi => obtain ⟨t, u, v, e⟩ := x; exact ⟨t, u, v, k _ _ (.inl rfl) e⟩
  | frz ob u ih => obtain ⟨e, q⟩ := x; exact ⟨k _ _ (.inl rfl) e, ih q⟩
  | tbl ps =>
    have e : h.get? a = some { cls := .none, data := .fields ps } := x
    show h'.get? a = some { cls := .none, data := .fields ps }
    exact k a _ (.inl rfl) e
  | met f y =>
    have e : h.get? a = some (PySem.W.methodObj (.ref f) (.ref y)) := x
    show h'.get? a = some (PySem.W.methodObj (.ref f) (.ref y))
    exact k a _ (.inl rfl) e
  | ext φ => obtain ⟨p, ⟨o, e⟩, st⟩ := x; exact ⟨st _ _ p fun o q => k _ _ (.inl rfl) q, ⟨o, k _ _ (.inl rfl) e⟩, st⟩
theorem HOk.lt (x : HOk P w H h) (e : H a = some o) : a < h.objs.size := (x a o e).lt
theorem HOk.fresh (x : HOk P w H h) (e : h.objs.size ≤ a) : H a = none := by
  cases q : H a with
  | none => rfl
  | some u => exact absurd (Nat.lt_of_lt_of_le (x.lt q) e) (Nat.lt_irrefl _)
theorem HOk.kept (x : HOk P w H h) (k : ∀ b u, h.get? b = some u → h'.get? b = some u) : HOk P w H h' := fun a o e =>
  (x a o e).stay (fun b u _ q => k b u q) (fun _ q => q) fun _ _ q => q
theorem HOk.laid (x : HOk P w H h) (k : ∀ b u, h.get? b = some u → h'.get? b = some u) (hp : h.objs.size ≤ a) (new : ObjOk P w (upd H a o) h' a o) : HOk P w (upd H a o) h' := fun b u e => by
  have hn := x.fresh hp
  by_cases hb : b = a
  · subst hb; rw [upd_same] at e; cases e; exact new
  · rw [upd_ne hb] at e
    exact (x b u e).stay (fun c v _ q => k c v q) (fun c q => by rw [upd_ne (ne_of_none q hn)]; exact q) fun c xs q => by rw [upd_ne (ne_of_none q hn)]; exact q
end

noncomputable def Rd (H : Hp) (a : Addr) (u : HO) : Prop := H a = some u ∨ ∃ o, H a = some (.frz o u)
theorem Rd.ok {P : Program} {w : World} {H : Hp} {h : Heap} {a : Addr} {u : HO} (r : Rd H a u) (x : HOk P w H h) : ObjOk P w H h a u := by
  rcases r with r | ⟨o, r⟩
  · exact x a u r
  · obtain ⟨_, q⟩ := x a _ r
    exact q
noncomputable def Mut : Option HO → Prop
  | some (.lst _) => True
  | some (.dK _) => True
  | some (.dT _) => True
  | some (.set _ _) => True
  | some (.ins _ _ _) => True
  | some (.ext _) => True
  | _ => False
section
variable {P : Program} {w : World} {H : Hp} {h h' : Heap} {x e : Addr} {o' : HO}
theorem HOk.write (ok : HOk P w H h) (mu : Mut (H x)) (he : e = x ∨ H e = some (.own x)) (k : ∀ b u, b ≠ e → h.get? b = some u → h'.get? b = some u) (heo : ∃ u, h'.get? e = some u)
    (new : ObjOk P w (upd H x o') h' x o') : HOk P w (upd H x o') h' := fun b u q => by
  have nown : ∀ c y, H c = some (.own y) → c ≠ x := fun c y r z => by subst z; rw [r] at mu; exact mu
  have ntup : ∀ c xs, H c = some (.tup xs) → c ≠ x := fun c xs r z => by subst z; rw [r] at mu; exact mu
  by_cases hb : b = x
  · subst hb; rw [upd_same] at q; cases q; exact new
  · rw [upd_ne hb] at q
    by_cases hbe : b = e
    · have q' : H b = some (.own x) := by
        rcases he with z | z
        · exact absurd (hbe.trans z) hb
        · rw [hbe]; exact z
      rw [q] at q'; cases q'
      obtain ⟨v, hv⟩ := heo
      exact ⟨v, by rw [hbe]; exact hv⟩
    · refine (ok b u q).stay (fun c v hc r => k c v ?_ r) (fun c r => by rw [upd_ne (nown c b r)]; exact r) fun c xs r => by rw [upd_ne (ntup c xs r)]; exact r
      rcases hc with rfl | hc
      · exact hbe
      · rintro rfl
        rcases he with z | z
        · exact nown c b hc z
        · rw [hc] at z; cases z; exact hb rfl
end

structure Un (fs ex : List Addr) (H H' : Hp) (h h' : Heap) : Prop where
  keep : ∀ b o, h.get? b = some o → H b = none → b ∉ fs → b ∉ ex → h'.get? b = some o
  slot : ∀ b o, h.get? b = some o → H b = none → b ∈ fs → b ∉ ex → ∃ sl, h'.get? b = some { o with slots := sl }
  free : ∀ b o, h.get? b = some o → H b = none → b ∉ ex → H' b = none
  there : ∀ b o, h.get? b = some o → b ∉ ex → ∃ o', h'.get? b = some o'
  tups : ∀ b xs, H b = some (.tup xs) → H' b = some (.tup xs)
  frzs : ∀ b o u, H b = some (.frz o u) → H' b = some (.frz o u)
  tbls : ∀ b ps, H b = some (.tbl ps) → ∃ more, H' b = some (.tbl (ps ++ more))
section
variable {fs fs' ex ex' : List Addr} {H H1 H2 : Hp} {h h1 h2 h' : Heap} {a x e : Addr} {o : HO}
theorem Un.any (u : Un fs ex H H1 h h1) {b : Addr} {ob : Obj} (q : h.get? b = some ob) (n : H b = none) (hx : b ∉ ex) : ∃ sl, h1.get? b = some { ob with slots := sl } := by
  by_cases hb : b ∈ fs
  · exact u.slot b ob q n hb hx
  · exact ⟨ob.slots, u.keep b ob q n hb hx⟩
theorem Un.trans (a : Un fs ex H H1 h h1) (b : Un fs ex H1 H2 h1 h2) : Un fs ex H H2 h h2 where
  keep := fun c ob q n hc hx => b.keep c ob (a.keep c ob q n hc hx) (a.free c ob q n hx) hc hx
  slot := fun c ob q n hc hx => by
    obtain ⟨sl, e1⟩ := a.slot c ob q n hc hx
    obtain ⟨sl', e2⟩ := b.slot c _ e1 (a.free c ob q n hx) hc hx
    exact ⟨sl', e2⟩
  free := fun c ob q n hx => by
    obtain ⟨o', e1⟩ := a.there c ob q hx
    exact b.free c o' e1 (a.free c ob q n hx) hx
  there := fun c ob q hx => by
    obtain ⟨o', e1⟩ := a.there c ob q hx
    exact b.there c o' e1 hx
  tups := fun c xs q => b.tups c xs (a.tups c xs q)
  frzs := fun c ob xs q => b.frzs c ob xs (a.frzs c ob xs q)
  tbls := fun c ps q => by
    obtain ⟨m1, e1⟩ := a.tbls c ps q
    obtain ⟨m2, e2⟩ := b.tbls c _ e1
    exact ⟨m1 ++ m2, by rw [e2, Array.append_assoc]⟩
theorem Un.kept (k : ∀ b u, h.get? b = some u → h'.get? b = some u) : Un fs ex H H h h' :=
  ⟨fun b ob q _ _ _ => k b ob q, fun b ob q _ _ _ => ⟨ob.slots, k b ob q⟩, fun _ _ _ n _ => n, fun b ob q _ => ⟨ob, k b ob q⟩, fun _ _ q => q, fun _ _ _ q => q, fun _ ps q => ⟨#[], by rw [q]; simp⟩⟩
theorem Un.refl : Un fs ex H H h h := Un.kept fun _ _ q => q
theorem Un.laid (k : ∀ b u, h.get? b = some u → h'.get? b = some u) (hp : h.objs.size ≤ a) (hn : H a = none) : Un fs ex H (upd H a o) h h' where
  keep := fun b u q _ _ _ => k b u q
  slot := fun b u q _ _ _ => ⟨u.slots, k b u q⟩
  free := fun b u q n _ => by rw [upd_ne (Nat.ne_of_lt (Nat.lt_of_lt_of_le (Heap.lt_size q) hp))]; exact n
  there := fun b u q _ => ⟨u, k b u q⟩
  tups := fun b xs q => by rw [upd_ne (ne_of_none q hn)]; exact q
  frzs := fun b u xs q => by rw [upd_ne (ne_of_none q hn)]; exact q
  tbls := fun b ps q => ⟨#[], by rw [upd_ne (ne_of_none q hn), q]; simp⟩
theorem Un.write (mu : Mut (H x)) (he : e = x ∨ H e = some (.own x)) (k : ∀ b u, b ≠ e → h.get? b = some u → h'.get? b = some u) (heo : ∃ u, h'.get? e = some u) : Un fs ex H (upd H x o) h h' := by
  have hx : ∀ b, H b = none → b ≠ x := fun b n z => by subst z; rw [n] at mu; exact mu
  have hb : ∀ b, H b = none → b ≠ e := fun b n z => by
    subst z
    rcases he with r | r
    · exact hx b n r
    · rw [n] at r; cases r
  have hm : ∀ b u, H b = some u → ¬ Mut (some u) → b ≠ x := fun b u q nm z => by subst z; rw [q] at mu; exact nm mu
  refine ⟨fun b u q n _ _ => k b u (hb b n) q, fun b u q n _ _ => ⟨u.slots, k b u (hb b n) q⟩, fun b u q n _ => by rw [upd_ne (hx b n)]; exact n, fun b u q _ => ?_,
    fun b xs q => by rw [upd_ne (hm b _ q fun z => z)]; exact q, fun b u xs q => by rw [upd_ne (hm b _ q fun z => z)]; exact q, fun b ps q => ⟨#[], by rw [upd_ne (hm b _ q fun z => z), q]; simp⟩⟩
  by_cases hbe : b = e
  · subst hbe; exact heo
  · exact ⟨u, k b u hbe q⟩
theorem Un.mono (u : Un fs ex H H1 h h1) (hs : ∀ b ∈ fs, b ∈ fs') (hx : ∀ b ∈ ex, b ∈ ex') : Un fs' ex' H H1 h h1 :=
  ⟨fun b ob q n hb he => u.keep b ob q n (fun z => hb (hs b z)) fun z => he (hx b z), fun _ _ q n _ he => u.any q n fun z => he (hx _ z), fun b ob q n he => u.free b ob q n fun z => he (hx b z), fun b ob q he => u.there b ob q fun z => he (hx b z), u.tups, u.frzs, u.tbls⟩
end

noncomputable def trk (h : Heap) (H : Hp) : List Addr := (List.range h.objs.size).filter fun a => (H a).isSome
noncomputable def hidT (h : Heap) (H : Hp) : Heap := PySem.W.hideAll h (trk h H)
theorem hidT_size (h : Heap) (H : Hp) : (hidT h H).objs.size = h.objs.size := PySem.W.hideAll_size _ _
theorem hidT_get {h : Heap} {H : Hp} {b : Addr} {o : Obj} (e : h.get? b = some o) (n : H b = none) : (hidT h H).get? b = some o :=
  PySem.W.hideAll_get _ e fun hm => by
    have q : (H b).isSome = true := (List.mem_filter.mp hm).2
    rw [n] at q; simp at q
theorem of_hidT {h : Heap} {H : Hp} {b : Addr} {o : Obj} (e : (hidT h H).get? b = some o) : h.get? b = some o ∧ H b = none := by
  have e' : h.get? b = some o := PySem.W.of_hideAll (trk h H) e
  refine ⟨e', ?_⟩
  cases q : H b with
  | none => rfl
  | some x =>
    have hm : b ∈ trk h H := List.mem_filter.mpr ⟨List.mem_range.mpr (Heap.lt_size e'), by simp [q]⟩
    have z : (hidT h H).get? b = none := PySem.W.hideAll_none (trk h H) hm
    rw [z] at e; cases e

end L2

namespace L2
open PySem PySem.Spec PyProof.Rows

structure Mod (K : PySem.W.Frag) (mg : Str → Option Value) (base : Heap) : Prop where
  kin : K.In base
  glob : base.Ns mainGlobals mg
  blt : ∃ mb, base.Ns builtinsNs mb ∧ ∀ x : Str, x ≠ "__name__" → mb x = bootBuiltins x
  nolimit : base.NoLimit

/-- the context: a def's body (or a comprehension's block) running. base: fixed through the whole law; s₀, H₀: the entry; outer: the frames whose slots others may change (a def's callers); stack: all frames that run;
   ex: iterators that were made ahead of the entry and are walked here (a comprehension's); fn: the names whose cells were made at the entry (a def: all; a comprehension's block: its own); calm: not within an except suite; pn: pins that every state bears; xe: what is wanted of an exception that leaves the code -/
structure Cx where
  prog : Program
  w : World
  K : PySem.W.Frag
  mg : Str → Option Value
  base : Heap
  A : Around
  N : List Str
  s₀ : Shared
  H₀ : Hp
  env : Env
  outer : List Env
  stack : List Env
  ex : List Addr
  fn : Str → Bool
  calm : Bool
  pn : List (Addr × Obj)
  xe : Value → Shared → Prop
noncomputable def frs (l : List Env) : List Addr := l.filterMap (·.frame)
noncomputable abbrev Cx.fs (X : Cx) : List Addr := frs X.outer

noncomputable def Vis (sc : Scope) (x : Str) : Prop := sc.names.lookup x = some .local ∨ sc.names.lookup x = some .cell ∨ sc.names.lookup x = some .free
noncomputable def Loc (sc : Scope) (x : Str) : Prop := sc.names.lookup x = some .local ∨ sc.names.lookup x = some .cell
noncomputable def Look (env : Env) (h : Heap) (m : Str → Option Value) (x : Str) (u : Value) : Prop :=
  (env.kindOf x = some .local ∧ m x = some u) ∨ ((env.kindOf x = some .cell ∨ env.kindOf x = some .free) ∧ ∃ c, env.cells.lookup x = some c ∧ h.IsCell c (some u))

structure Cx.Ok (X : Cx) : Prop where
  mod : Mod X.K X.mg X.base
  kind : X.env.scope.kind = .function
  glob : X.env.globals = mainGlobals
  blt : X.env.builtins = builtinsNs
  above : X.s₀.heap.objs.size ≤ X.env.locals
  inj : ∀ x y c, X.env.cells.lookup x = some c → X.env.cells.lookup y = some c → x = y
  has : ∀ x, (X.env.kindOf x = some .cell ∨ X.env.kindOf x = some .free) → ∃ c, X.env.cells.lookup x = some c
  cab : ∀ x c, X.fn x = true → X.env.cells.lookup x = some c → X.s₀.heap.objs.size ≤ c
  hd : X.calm = true → X.A.handled = none
  frames : X.A.frames = some X.stack
  stk : X.stack = X.outer ∨ (X.stack = X.env :: X.outer ∧ X.env.frame = some X.env.locals)
  exf : ∀ b ∈ X.ex, b ≠ X.env.locals ∧ ∀ x c, X.env.cells.lookup x = some c → c ≠ b
  bs : ∀ b o, X.base.get? b = some o → X.s₀.heap.get? b = some o ∧ X.H₀ b = none
  bsz : X.base.objs.size ≤ X.s₀.heap.objs.size
  noex : ∀ b o, X.base.get? b = some o → b ∉ X.ex
  exfs : ∀ b ∈ X.ex, b ∉ X.fs
  funs : X.s₀.heap.FunFrames X.base X.outer
  frf : ∀ b ∈ X.fs, X.H₀ b = none

structure Inv (X : Cx) (pins : List (Addr × Obj)) (σ : List (Option V)) (H : Hp) (s : Shared) : Prop where
  ok : X.Ok
  os : s.os = X.s₀.os
  bare : AllBare s.gens
  base : Un X.fs X.ex X.H₀ H X.s₀.heap s.heap
  loc : ∃ m, s.heap.Ns X.env.locals m ∧ ∀ (i : Nat) (x : Str) (v : V), X.N[i]? = some x → σ[i]? = some (some v) → Vis X.env.scope x → ∃ u, RelV v u ∧ Look X.env s.heap m x u
  cell : ∀ x c, X.env.cells.lookup x = some c → ∃ v, s.heap.IsCell c v
  free : H X.env.locals = none
  freeC : ∀ x c, X.env.cells.lookup x = some c → H c = none
  pin : ∀ p ∈ X.pn ++ pins, s.heap.get? p.1 = some p.2 ∧ H p.1 = none ∧ p.1 ≠ X.env.locals ∧ p.1 ∉ X.fs ∧ ∀ v, p.2.data ≠ .cell v
  hok : HOk X.prog X.w H s.heap
  len : σ.length = X.N.length

section
variable {X : Cx} {pins : List (Addr × Obj)} {σ : List (Option V)} {H H' : Hp} {s : Shared} {h' : Heap}

theorem Cx.Ok.nofr (ok : X.Ok) {b : Addr} {o : Obj} (e : X.base.get? b = some o) : b ∉ X.fs := fun hb => by
  have := (ok.funs.mem hb).1
  rw [e] at this; cases this
theorem Inv.bs (I : Inv X pins σ H s) : ∀ b o, X.base.get? b = some o → s.heap.get? b = some o ∧ H b = none := fun b o e =>
  ⟨I.base.keep b o (I.ok.bs b o e).1 (I.ok.bs b o e).2 (I.ok.nofr e) (I.ok.noex b o e), I.base.free b o (I.ok.bs b o e).1 (I.ok.bs b o e).2 (I.ok.noex b o e)⟩
theorem Inv.bk (I : Inv X pins σ H s) : ∀ b o, X.base.get? b = some o → s.heap.get? b = some o := fun b o e => (I.bs b o e).1
theorem Inv.mod (I : Inv X pins σ H s) : Mod X.K X.mg X.base := I.ok.mod
theorem Inv.kIn (I : Inv X pins σ H s) : X.K.In s.heap := I.ok.mod.kin.keeps I.bk
theorem Inv.lt (I : Inv X pins σ H s) : X.env.locals < s.heap.objs.size := let ⟨_, hn, _⟩ := I.loc; hn.lt
theorem Inv.sz (I : Inv X pins σ H s) : X.s₀.heap.objs.size ≤ s.heap.objs.size := Nat.le_trans I.ok.above (Nat.le_of_lt I.lt)
theorem Inv.nofs (I : Inv X pins σ H s) {a : Addr} (h : s.heap.objs.size ≤ a) : a ∉ X.fs := fun hb => by
  obtain ⟨_, o, ho, _⟩ := I.ok.funs.mem hb
  exact absurd (Nat.lt_of_lt_of_le (Heap.lt_size ho) (Nat.le_trans I.sz h)) (Nat.lt_irrefl _)
theorem Inv.cne (I : Inv X pins σ H s) : ∀ x c, X.env.cells.lookup x = some c → c ≠ X.env.locals := fun x c e z => by
  obtain ⟨v, o, ho, hd⟩ := I.cell x c e
  obtain ⟨m, ⟨o', es, ep, ho', hd', _⟩, _⟩ := I.loc
  rw [z, ho'] at ho; cases ho; rw [hd'] at hd; cases hd
theorem Inv.funs (I : Inv X pins σ H s) : s.heap.FunFrames X.base X.outer := by
  have all : ∀ (l : List Env), (∀ b ∈ frs l, b ∈ X.fs) → X.s₀.heap.FunFrames X.base l → s.heap.FunFrames X.base l := by
    intro l
    induction l with
    | nil => intro _ _; trivial
    | cons env r ih =>
      intro hs hl
      obtain ⟨hk, ⟨L, o, hf, hn, ho, hd⟩, hr⟩ := hl
      have hL : L ∈ X.fs := hs L (by unfold frs; rw [List.filterMap_cons, hf]; exact List.mem_cons_self)
      obtain ⟨sl, e⟩ := I.base.slot L o ho (I.ok.frf L hL) hL fun z => I.ok.exfs L z hL
      exact ⟨hk, ⟨L, _, hf, hn, e, hd⟩, ih (fun b hb => hs b (by unfold frs; rw [List.filterMap_cons, hf]; exact List.mem_cons_of_mem _ hb)) hr⟩
  exact all X.outer (fun _ hb => hb) I.ok.funs

theorem Inv.stack (I : Inv X pins σ H s) : s.heap.FunFrames X.base X.stack := by
  rcases I.ok.stk with e | ⟨e, hf⟩
  · rw [e]; exact I.funs
  · rw [e]
    obtain ⟨m, hn, _⟩ := I.loc
    refine .cons (by rw [I.ok.kind]; decide) hf hn ?_ I.funs
    exact Heap.get?_none_of_le (Nat.le_trans I.ok.bsz I.ok.above)
theorem Inv.stkSub (I : Inv X pins σ H s) : ∀ b ∈ frs X.stack, b ∈ X.env.locals :: X.fs := fun b hb => by
  rcases I.ok.stk with e | ⟨e, hf⟩
  · rw [e] at hb; exact List.mem_cons_of_mem _ hb
  · rw [e] at hb
    unfold frs at hb
    rw [List.filterMap_cons, hf] at hb
    exact hb
theorem Inv.stkFree (I : Inv X pins σ H s) : ∀ b ∈ frs X.stack, H b = none := fun b hb => by
  rcases List.mem_cons.mp (I.stkSub b hb) with e | hb
  · rw [e]; exact I.free
  · obtain ⟨_, o, ho, _⟩ := I.ok.funs.mem hb
    exact I.base.free b o ho (I.ok.frf b hb) fun z => I.ok.exfs b z hb

theorem Inv.step {g' : Array GenState} {t' : Nat} {d' : Drawn} {ch : List Addr} (I : Inv X pins σ H s)
    (hch : ∀ b ∈ ch, (b ∈ X.ex ∨ X.s₀.heap.objs.size ≤ b) ∧ b ≠ X.env.locals ∧ (∀ x c, X.env.cells.lookup x = some c → c ≠ b) ∧ ∀ p ∈ X.pn ++ pins, p.1 ≠ b)
    (keep : ∀ b o, b ≠ X.env.locals → b ∉ X.fs → b ∉ ch → s.heap.get? b = some o → H b = none → h'.get? b = some o)
    (slot : ∀ b o, b ≠ X.env.locals → b ∈ X.fs → b ∉ ch → s.heap.get? b = some o → H b = none → ∃ sl, h'.get? b = some { o with slots := sl }) (free : ∀ b o, b ∉ ch → s.heap.get? b = some o → H b = none → H' b = none)
    (there : ∀ b o, b ∉ ch → s.heap.get? b = some o → ∃ o', h'.get? b = some o')
    (tups : ∀ b xs, H b = some (.tup xs) → H' b = some (.tup xs)) (frzs : ∀ b o u, H b = some (.frz o u) → H' b = some (.frz o u)) (tbls : ∀ b ps, H b = some (.tbl ps) → ∃ more, H' b = some (.tbl (ps ++ more)))
    (ns : ∀ m, s.heap.Ns X.env.locals m → h'.Ns X.env.locals m) (hok : HOk X.prog X.w H' h') (hg : AllBare g') :
    Inv X pins σ H' { s with heap := h', gens := g', drawn := d', toks := t' } := by
  have neL : ∀ b o, X.s₀.heap.get? b = some o → b ≠ X.env.locals := fun b o e => Nat.ne_of_lt (Nat.lt_of_lt_of_le (Heap.lt_size e) I.ok.above)
  have neC : ∀ b o, X.s₀.heap.get? b = some o → b ∉ X.ex → b ∉ ch := fun b o e hx hb => by
    rcases (hch b hb).1 with z | z
    · exact hx z
    · exact absurd (Nat.lt_of_lt_of_le (Heap.lt_size e) z) (Nat.lt_irrefl _)
  have cellK : ∀ x c, X.env.cells.lookup x = some c → ∀ v, s.heap.IsCell c v → h'.IsCell c v := fun x c e v ⟨o, ho, hd⟩ => by
    have nch : c ∉ ch := fun z => (hch c z).2.2.1 x c e rfl
    by_cases hc : c ∈ X.fs
    · obtain ⟨sl, q⟩ := slot c o (I.cne x c e) hc nch ho (I.freeC x c e)
      exact ⟨_, q, hd⟩
    · exact ⟨o, keep c o (I.cne x c e) hc nch ho (I.freeC x c e), hd⟩
  refine ⟨I.ok, I.os, hg, ⟨fun b o e n hb hx => ?_, fun b o e n hb hx => ?_, fun b o e n hx => ?_, fun b o e hx => ?_, fun b xs e => tups b xs (I.base.tups b xs e), fun b o xs e => frzs b o xs (I.base.frzs b o xs e), fun b ps e => ?_⟩, ?_, fun x c e => ?_, ?_, fun x c e => ?_, fun p hp => ?_, hok, I.len⟩
  · exact keep b o (neL b o e) hb (neC b o e hx) (I.base.keep b o e n hb hx) (I.base.free b o e n hx)
  · obtain ⟨sl, e1⟩ := I.base.slot b o e n hb hx
    obtain ⟨sl', e2⟩ := slot b _ (neL b o e) hb (neC b o e hx) e1 (I.base.free b o e n hx)
    exact ⟨sl', e2⟩
  · obtain ⟨o', e1⟩ := I.base.there b o e hx
    exact free b o' (neC b o e hx) e1 (I.base.free b o e n hx)
  · obtain ⟨o', e1⟩ := I.base.there b o e hx
    exact there b o' (neC b o e hx) e1
  · obtain ⟨m1, e1⟩ := I.base.tbls b ps e
    obtain ⟨m2, e2⟩ := tbls b _ e1
    exact ⟨m1 ++ m2, by rw [e2, Array.append_assoc]⟩
  · obtain ⟨m, hn, hl⟩ := I.loc
    refine ⟨m, ns m hn, fun i x v e1 e2 e3 => ?_⟩
    obtain ⟨u, r, l⟩ := hl i x v e1 e2 e3
    refine ⟨u, r, ?_⟩
    rcases l with l | ⟨k, c, e, z⟩
    · exact .inl l
    · exact .inr ⟨k, c, e, cellK x c e _ z⟩
  · obtain ⟨v, z⟩ := I.cell x c e
    exact ⟨v, cellK x c e v z⟩
  · obtain ⟨m, ⟨o, _, _, ho, _⟩, _⟩ := I.loc
    exact free _ o (fun z => (hch _ z).2.1 rfl) ho I.free
  · obtain ⟨v, o, ho, hd⟩ := I.cell x c e
    exact free c o (fun z => (hch c z).2.2.1 x c e rfl) ho (I.freeC x c e)
  · obtain ⟨e, n, ne, nf, d⟩ := I.pin p hp
    have nch : p.1 ∉ ch := fun z => (hch p.1 z).2.2.2 p hp rfl
    exact ⟨keep p.1 p.2 ne nf nch e n, free p.1 p.2 nch e n, ne, nf, d⟩
theorem Inv.un {t' : Nat} (I : Inv X pins σ H s) (u : Un X.fs [] H H' s.heap h') (hok : HOk X.prog X.w H' h') : Inv X pins σ H' { s with heap := h', toks := t' } := by
  obtain ⟨m, ⟨o, es, ep, ho, r⟩, _⟩ := id I.loc
  obtain ⟨sl, hL⟩ := u.any ho I.free (by simp)
  exact I.step (g' := s.gens) (d' := s.drawn) (ch := []) (fun _ z => nomatch z) (fun b o _ hb _ e n => u.keep b o e n hb (by simp)) (fun b o _ hb _ e n => u.slot b o e n hb (by simp)) (fun b o _ e n => u.free b o e n (by simp)) (fun b o _ e => u.there b o e (by simp)) u.tups u.frzs u.tbls (fun m' hm => by
    obtain ⟨o', es', ep', ho', r'⟩ := hm
    rw [ho] at ho'; cases ho'
    exact ⟨_, es', ep', hL, r'⟩) hok I.bare
theorem Inv.call {g' : Array GenState} {t' : Nat} {d' : Drawn} {ch : List Addr} (I : Inv X pins σ H s) (u : Un (frs X.stack) ch H H' s.heap h') (hok : HOk X.prog X.w H' h') (hg : AllBare g')
    (hch : ∀ b ∈ ch, (b ∈ X.ex ∨ X.s₀.heap.objs.size ≤ b) ∧ b ≠ X.env.locals ∧ (∀ x c, X.env.cells.lookup x = some c → c ≠ b) ∧ ∀ p ∈ X.pn ++ pins, p.1 ≠ b) :
    Inv X pins σ H' { s with heap := h', gens := g', drawn := d', toks := t' } := by
  obtain ⟨m, ⟨o, es, ep, ho, r⟩, _⟩ := id I.loc
  obtain ⟨sl, hL⟩ := u.any ho I.free fun z => (hch _ z).2.1 rfl
  exact I.step (ch := ch) hch (fun b o hL hb hc e n => u.keep b o e n (fun z => (List.mem_cons.mp (I.stkSub b z)).elim hL hb) hc) (fun b o _ _ hc e n => u.any e n hc) (fun b o hc e n => u.free b o e n hc) (fun b o hc e => u.there b o e hc) u.tups u.frzs u.tbls (fun m' hm => by
    obtain ⟨o', es', ep', ho', r'⟩ := hm
    rw [ho] at ho'; cases ho'
    exact ⟨_, es', ep', hL, r'⟩) hok hg
theorem Inv.turned {t' : Nat} {it : Addr} (I : Inv X pins σ H s) (k : ∀ b o, b ≠ it → s.heap.get? b = some o → h'.get? b = some o) (hn : H it = none) (hL : it ≠ X.env.locals)
    (h1 : it ∈ X.ex ∨ X.s₀.heap.objs.size ≤ it) (h2 : ∀ x c, X.env.cells.lookup x = some c → c ≠ it) (h3 : ∀ p ∈ X.pn ++ pins, p.1 ≠ it) : Inv X pins σ H { s with heap := h', toks := t' } := by
  have nit : ∀ b u, H b = some u → b ≠ it := fun b u e z => by rw [z, hn] at e; cases e
  refine I.step (g' := s.gens) (d' := s.drawn) (ch := [it]) (fun b hb => ?_) (fun b o _ _ hc e _ => k b o (fun z => hc (by simp [z])) e) (fun b o _ _ hc e _ => ⟨o.slots, k b o (fun z => hc (by simp [z])) e⟩) (fun _ _ _ _ n => n)
    (fun b o hc e => ⟨o, k b o (fun z => hc (by simp [z])) e⟩) (fun _ _ e => e) (fun _ _ _ e => e) (fun b ps e => ⟨#[], by rw [e]; simp⟩) (fun m hm => ?_) (fun b u e => ?_) I.bare
  · have e : b = it := by simpa using hb
    subst e
    exact ⟨h1, hL, h2, h3⟩
  · obtain ⟨o, es, ep, ho, r⟩ := hm
    exact ⟨o, es, ep, k _ o (Ne.symm hL) ho, r⟩
  · refine (I.hok b u e).stay (fun c v hc q => k c v ?_ q) (fun _ q => q) fun _ _ q => q
    rcases hc with z | z
    · rw [z]; exact nit b u e
    · exact nit c _ z
theorem Inv.tok (I : Inv X pins σ H s) (t : Nat) : Inv X pins σ H { s with toks := t } := I.un (h' := s.heap) (t' := t) Un.refl I.hok
theorem Inv.kept {t' : Nat} (I : Inv X pins σ H s) (k : ∀ b u, s.heap.get? b = some u → h'.get? b = some u) : Inv X pins σ H { s with heap := h', toks := t' } := I.un (Un.kept k) (I.hok.kept k)
theorem Inv.laid {a : Addr} {o : HO} {t' : Nat} (I : Inv X pins σ H s) (k : ∀ b u, s.heap.get? b = some u → h'.get? b = some u) (hp : s.heap.objs.size ≤ a) (new : ObjOk X.prog X.w (upd H a o) h' a o) :
    Inv X pins σ (upd H a o) { s with heap := h', toks := t' } := I.un (Un.laid k hp (I.hok.fresh hp)) (I.hok.laid k hp new)
theorem Inv.write {x e : Addr} {o : HO} {t' : Nat} (I : Inv X pins σ H s) (mu : Mut (H x)) (he : e = x ∨ H e = some (.own x)) (k : ∀ b u, b ≠ e → s.heap.get? b = some u → h'.get? b = some u) (heo : ∃ u, h'.get? e = some u)
    (new : ObjOk X.prog X.w (upd H x o) h' x o) : Inv X pins σ (upd H x o) { s with heap := h', toks := t' } := I.un (Un.write mu he k heo) (I.hok.write mu he k heo new)
theorem Inv.weak {σ' : List (Option V)} (I : Inv X pins σ H s) (hl : σ'.length = σ.length) (w : ∀ (i : Nat) v, σ'[i]? = some (some v) → σ[i]? = some (some v)) : Inv X pins σ' H s :=
  ⟨I.ok, I.os, I.bare, I.base, let ⟨m, hn, hl'⟩ := I.loc; ⟨m, hn, fun i x v e1 e2 e3 => hl' i x v e1 (w i v e2) e3⟩, I.cell, I.free, I.freeC, I.pin, I.hok, hl.trans I.len⟩
theorem Inv.pins_of {pins' : List (Addr × Obj)} (I : Inv X pins σ H s) (h : ∀ p ∈ pins', s.heap.get? p.1 = some p.2 ∧ H p.1 = none ∧ p.1 ≠ X.env.locals ∧ p.1 ∉ X.fs ∧ ∀ v, p.2.data ≠ .cell v) : Inv X pins' σ H s :=
  ⟨I.ok, I.os, I.bare, I.base, I.loc, I.cell, I.free, I.freeC, fun p hp => (List.mem_append.mp hp).elim (fun z => I.pin p (List.mem_append_left _ z)) (h p), I.hok, I.len⟩

theorem nodup_ix {N : List Str} (hN : N.Nodup) {i j : Nat} {x : Str} (a : N[i]? = some x) (b : N[j]? = some x) : i = j := by
  obtain ⟨h1, e1⟩ := List.getElem?_eq_some_iff.mp a
  obtain ⟨h2, e2⟩ := List.getElem?_eq_some_iff.mp b
  exact (List.getElem_inj hN).mp (e1.trans e2.symm)

theorem store_ok2 {M : Model} {A : Around} {E : Value → Shared → Prop} {i : Nat} {x : Str} {v : V} {u : Value} {Q : Unit → Shared → Prop} (I : Inv X pins σ H s) (hN : X.N.Nodup) (hi : X.N[i]? = some x) (hx : Loc X.env.scope x) (r : RelV v u)
    (h : ∀ s', Inv X pins (σ.set i (some v)) H s' → (∃ a, Heap.SameBut a s.heap s'.heap ∧ (a = X.env.locals ∨ X.env.cells.lookup x = some a)) → Q () s') (hf : X.fn x = true ∨ X.env.scope.names.lookup x = some .local := by first | exact .inl rfl | exact .inr rfl | assumption) : wpAny M A (storeName X.env x u) Q E s := by
  obtain ⟨m, hn, hl⟩ := id I.loc
  have hcls : (X.env.scope.kind == .class || (X.env.scope.kind == .module && X.env.locals != X.env.globals)) = false := by rw [I.ok.kind]; rfl
  have hiσ : i < σ.length := by rw [I.len]; exact (List.getElem?_eq_some_iff.mp hi).1
  have cne := I.cne
  have tracked : ∀ {a : Addr} {h' : Heap}, (∃ o, s.heap.get? a = some o ∧ H a = none) → Heap.SameBut a s.heap h' → HOk X.prog X.w H h' := fun {a h'} ha hs b ob e => by
    obtain ⟨_, _, hfree⟩ := ha
    refine (I.hok b ob e).stay (fun c w' hc q => (hs.2 c ?_).trans q) (fun _ q => q) fun _ _ q => q
    rintro rfl
    rcases hc with rfl | hc
    · rw [hfree] at e; cases e
    · rw [hfree] at hc; cases hc
  rcases hx with hk | hk
  · refine wpAny_storeName_local hk hn (fun h' hn' hs => ?_) hcls
    obtain ⟨oL, _, _, hoL, _⟩ := id hn
    refine h _ ⟨I.ok, I.os, I.bare, ⟨fun b o e n hb hx => ?_, fun b o e n hb hx => ?_, I.base.free, fun b o e hx => ?_, I.base.tups, I.base.frzs, I.base.tbls⟩, ⟨_, hn', fun j y v' e1 e2 e3 => ?_⟩, fun y c e => ?_, I.free, I.freeC, fun p hp => ?_, tracked ⟨oL, hoL, I.free⟩ hs, by simpa using I.len⟩ ⟨_, hs, .inl rfl⟩
    · exact (hs.2 b (Nat.ne_of_lt (Nat.lt_of_lt_of_le (Heap.lt_size e) I.ok.above))).trans (I.base.keep b o e n hb hx)
    · obtain ⟨sl, e1⟩ := I.base.slot b o e n hb hx
      exact ⟨sl, (hs.2 b (Nat.ne_of_lt (Nat.lt_of_lt_of_le (Heap.lt_size e) I.ok.above))).trans e1⟩
    · obtain ⟨o', e1⟩ := I.base.there b o e hx
      exact ⟨o', (hs.2 b (Nat.ne_of_lt (Nat.lt_of_lt_of_le (Heap.lt_size e) I.ok.above))).trans e1⟩
    · by_cases hj : j = i
      · subst hj
        rw [hi] at e1; cases e1
        rw [List.getElem?_set_self hiσ] at e2
        cases e2
        exact ⟨u, r, .inl ⟨hk, by simp⟩⟩
      · rw [List.getElem?_set_ne (Ne.symm hj)] at e2
        obtain ⟨u', r', q⟩ := hl j y v' e1 e2 e3
        refine ⟨u', r', ?_⟩
        rcases q with ⟨k, e⟩ | ⟨k, c, e, z⟩
        · refine .inl ⟨k, ?_⟩
          have : y ≠ x := fun e => hj (nodup_ix hN e1 (e ▸ hi))
          simp [this, e]
        · exact .inr ⟨k, c, e, z.sameBut hs (cne y c e)⟩
    · obtain ⟨w', z⟩ := I.cell y c e
      exact ⟨w', z.sameBut hs (cne y c e)⟩
    · obtain ⟨e, n, ne, nf, d⟩ := I.pin p hp
      exact ⟨(hs.2 p.1 ne).trans e, n, ne, nf, d⟩
  · have hfn : X.fn x = true := by
      rcases hf with z | z
      · exact z
      · rw [z] at hk; cases hk
    obtain ⟨c, hc⟩ := I.ok.has x (.inl hk)
    obtain ⟨w', z⟩ := I.cell x c hc
    refine wpAny_storeName_cell I.ok.kind hk hc z (fun h' hc' hs => ?_)
    obtain ⟨oc, hoc, hocd⟩ := id z
    refine h { s with heap := h' } ⟨I.ok, I.os, I.bare, ⟨fun b o e n hb hx => ?_, fun b o e n hb hx => ?_, I.base.free, fun b o e hx => ?_, I.base.tups, I.base.frzs, I.base.tbls⟩, ⟨m, hn.sameBut hs (Ne.symm (cne x c hc)), fun j y v' e1 e2 e3 => ?_⟩, fun y c' e => ?_, I.free, I.freeC, fun p hp => ?_, tracked ⟨oc, hoc, I.freeC x c hc⟩ hs, by simpa using I.len⟩ ⟨c, hs, .inr hc⟩
    · exact (hs.2 b (Nat.ne_of_lt (Nat.lt_of_lt_of_le (Heap.lt_size e) (I.ok.cab x c hfn hc)))).trans (I.base.keep b o e n hb hx)
    · obtain ⟨sl, e1⟩ := I.base.slot b o e n hb hx
      exact ⟨sl, (hs.2 b (Nat.ne_of_lt (Nat.lt_of_lt_of_le (Heap.lt_size e) (I.ok.cab x c hfn hc)))).trans e1⟩
    · obtain ⟨o', e1⟩ := I.base.there b o e hx
      exact ⟨o', (hs.2 b (Nat.ne_of_lt (Nat.lt_of_lt_of_le (Heap.lt_size e) (I.ok.cab x c hfn hc)))).trans e1⟩
    · by_cases hj : j = i
      · subst hj
        rw [hi] at e1; cases e1
        rw [List.getElem?_set_self hiσ] at e2
        cases e2
        exact ⟨u, r, .inr ⟨.inl hk, c, hc, hc'⟩⟩
      · rw [List.getElem?_set_ne (Ne.symm hj)] at e2
        obtain ⟨u', r', q⟩ := hl j y v' e1 e2 e3
        refine ⟨u', r', ?_⟩
        rcases q with q | ⟨k, c', e, z'⟩
        · exact .inl q
        · refine .inr ⟨k, c', e, z'.sameBut hs ?_⟩
          rintro rfl
          exact hj (nodup_ix hN e1 (I.ok.inj _ _ _ e hc ▸ hi))
    · by_cases hcc : c' = c
      · subst hcc; exact ⟨_, hc'⟩
      · obtain ⟨w2, z2⟩ := I.cell y c' e
        exact ⟨w2, z2.sameBut hs hcc⟩
    · obtain ⟨e, n, ne, nf, d⟩ := I.pin p hp
      refine ⟨(hs.2 p.1 ?_).trans e, n, ne, nf, d⟩
      intro q
      rw [q, hoc] at e
      have q' : oc = p.2 := Option.some.inj e
      exact d w' (by rw [← q']; exact hocd)
theorem store_ok {M : Model} {A : Around} {E : Value → Shared → Prop} {i : Nat} {x : Str} {v : V} {u : Value} {Q : Unit → Shared → Prop} (I : Inv X pins σ H s) (hN : X.N.Nodup) (hi : X.N[i]? = some x) (hx : Loc X.env.scope x) (r : RelV v u)
    (h : ∀ s', Inv X pins (σ.set i (some v)) H s' → Q () s') (hf : X.fn x = true ∨ X.env.scope.names.lookup x = some .local := by first | exact .inl rfl | exact .inr rfl | assumption) : wpAny M A (storeName X.env x u) Q E s :=
  store_ok2 I hN hi hx r (fun s' I' _ => h s' I') hf
theorem Inv.call' {s' : Shared} {ch : List Addr} (I : Inv X pins σ H s) (ho : s'.os = s.os) (u : Un (frs X.stack) ch H H' s.heap s'.heap) (hok : HOk X.prog X.w H' s'.heap) (hg : AllBare s'.gens)
    (hch : ∀ b ∈ ch, (b ∈ X.ex ∨ X.s₀.heap.objs.size ≤ b) ∧ b ≠ X.env.locals ∧ (∀ x c, X.env.cells.lookup x = some c → c ≠ b) ∧ ∀ p ∈ X.pn ++ pins, p.1 ≠ b) : Inv X pins σ H' s' := by
  obtain ⟨h', g', d', t', o'⟩ := s'
  have e : o' = s.os := ho
  subst e
  exact I.call (g' := g') (t' := t') (d' := d') u hok hg hch
end

noncomputable abbrev XK := Value → Option Addr → Hp → Prop
noncomputable abbrev St := List (Option V)
noncomputable abbrev VK := V → Hp → Prop
noncomputable abbrev TE := St → Hp → VK → Prop
noncomputable abbrev TT := St → Hp → (Bool → Hp → Prop) → Prop
noncomputable abbrev TA := St → Hp → (List V → Hp → Prop) → Prop
structure Ends where
  nx : St → Hp → Prop
  rt : VK
  bk : St → Hp → Prop := fun _ _ => False
  ct : St → Hp → Prop := fun _ _ => False
noncomputable abbrev TS := Ends → St → Hp → Prop

noncomputable def EP (X : Cx) (pins : List (Addr × Obj)) (σ : St) (Q : VK) (u : Value) (s' : Shared) : Prop := ∃ v H', Inv X pins σ H' s' ∧ RelV v u ∧ Q v H'
noncomputable def TP (X : Cx) (pins : List (Addr × Obj)) (σ : St) (Q : Bool → Hp → Prop) (b : Bool) (s' : Shared) : Prop := ∃ H', Inv X pins σ H' s' ∧ Q b H'
noncomputable def AP (X : Cx) (pins : List (Addr × Obj)) (σ : St) (Q : List V → Hp → Prop) (us : List Value) (s' : Shared) : Prop := ∃ vs H', Inv X pins σ H' s' ∧ Vals vs us ∧ Q vs H'
noncomputable def SP (X : Cx) (pins : List (Addr × Obj)) (D : Ends) (f : Flow) (s' : Shared) : Prop :=
  match f with
  | .next => ∃ σ' H', Inv X pins σ' H' s' ∧ D.nx σ' H'
  | .brk => ∃ σ' H', Inv X pins σ' H' s' ∧ D.bk σ' H'
  | .cont => ∃ σ' H', Inv X pins σ' H' s' ∧ D.ct σ' H'
  | .ret u => ∃ v σ' H', Inv X pins σ' H' s' ∧ RelV v u ∧ D.rt v H'

noncomputable def PE (X : Cx) (e : Expr) (t : TE) : Prop :=
  ∀ (pins : List (Addr × Obj)) (s : Shared) (σ : St) (H : Hp) (Q : VK), Inv X pins σ H s → t σ H Q → wpAny (model X.prog X.w) X.A (eval e X.env) (EP X pins σ Q) X.xe s
noncomputable def PT (X : Cx) (e : Expr) (t : TT) : Prop :=
  ∀ (pins : List (Addr × Obj)) (s : Shared) (σ : St) (H : Hp) (Q : Bool → Hp → Prop), Inv X pins σ H s → t σ H Q → wpAny (model X.prog X.w) X.A (isTrue e X.env (eval e X.env)) (TP X pins σ Q) X.xe s
noncomputable def PW (X : Cx) (e : Expr) (t : TT) : Prop :=
  ∀ (whole : Sem Value) (pins : List (Addr × Obj)) (s : Shared) (σ : St) (H : Hp) (Q : Bool → Hp → Prop), Inv X pins σ H s → t σ H Q → wpAny (model X.prog X.w) X.A (isTrue e X.env whole) (TP X pins σ Q) X.xe s
theorem PW.pt {X : Cx} {e : Expr} {t : TT} (h : PW X e t) : PT X e t := h _
noncomputable def PA (X : Cx) (es : List Expr) (t : TA) : Prop :=
  ∀ (pos : Pos) (pins : List (Addr × Obj)) (s : Shared) (σ : St) (H : Hp) (Q : List V → Hp → Prop), Inv X pins σ H s → t σ H Q → wpAny (model X.prog X.w) X.A (spliced (backTo pos (starEach es X.env))) (AP X pins σ Q) X.xe s
noncomputable def PS (X : Cx) (st : Stmt) (t : TS) : Prop :=
  ∀ (pins : List (Addr × Obj)) (s : Shared) (σ : St) (H : Hp) (D : Ends), Inv X pins σ H s → t D σ H → wpAny (model X.prog X.w) X.A (exec st X.env) (SP X pins D) X.xe s
noncomputable def PSs (X : Cx) (st : List Stmt) (t : TS) : Prop :=
  ∀ (pins : List (Addr × Obj)) (s : Shared) (σ : St) (H : Hp) (D : Ends), Inv X pins σ H s → t D σ H → wpAny (model X.prog X.w) X.A (execs st X.env) (SP X pins D) X.xe s
theorem thn {α : Type} {t : Sem α} {Q Q' : α → Shared → Prop} {M : Model} {A : Around} {E : Value → Shared → Prop} {s : Shared} (h : wpAny M A t Q E s) (hQ : ∀ a s, Q a s → Q' a s) : wpAny M A t Q' E s := wpAny_mono h hQ fun _ _ x => x
end L2

namespace L2
open PySem PySem.Spec PyProof.Rows
section
variable {X : Cx}

noncomputable def tVar (i : Nat) : TE := fun σ H Q => ∃ v, σ[i]? = some (some v) ∧ Q v H
noncomputable def tC (v : V) : TE := fun _ H Q => Q v H
theorem pe_var {i : Nat} {x : Str} {pos : Pos} (hN : X.N[i]? = some x) (hv : Vis X.env.scope x) (hd : (x == ("__debug__" : Str)) = false := by decide) (hcd : (x == ("__classdict__" : Str)) = false := by decide) : PE X (.Name x pos) (tVar i) := by
  intro pins s σ H Q I h
  obtain ⟨v, e, h⟩ := h
  obtain ⟨m, hn, hl⟩ := I.loc
  obtain ⟨u, r, l⟩ := hl i x v hN e hv
  have fin : EP X pins σ Q u s := ⟨v, H, I, r, h⟩
  rcases l with ⟨hk, hm⟩ | ⟨hk, c, hc, hcell⟩
  · exact wpAny_Name (wpAny_loadName_local I.ok.kind hk hn hm fin) hd
  · rcases hk with hk | hk
    · exact wpAny_Name (wpAny_loadName_cell I.ok.kind hk hc hcell fin) hd
    · exact wpAny_Name (wpAny_loadName_free I.ok.kind hk hc hcell fin hcd) hd
theorem pe_int {i j pos} : PE X (.Constant (.int i) j pos) (tC (.int i)) := fun _ _ _ H _ I h => wpAny_Constant_int ⟨.int i, H, I.tok _, ⟨_, rfl⟩, h⟩
theorem pe_bl {b j pos} : PE X (.Constant (.bool b) j pos) (tC (.bl b)) := fun _ _ _ H _ I h => Constant_bool ⟨.bl b, H, I, rfl, h⟩
theorem pe_str {x j pos} : PE X (.Constant (.str x) j pos) (tC (.str x)) := fun _ _ _ H _ I h => Calls.Constant_str ⟨.str x, H, I.tok _, ⟨_, rfl⟩, h⟩

noncomputable def Gl (X : Cx) (x : Str) : Prop := X.env.kindOf x = some .globalImplicit
theorem ld_glob {E : Value → Shared → Prop} {pins : List (Addr × Obj)} {s : Shared} {σ : St} {H : Hp} {x : Str} {u : Value} {pos : Pos} {Q : Value → Shared → Prop} (I : Inv X pins σ H s) (hg : Gl X x) (hm : X.mg x = some u) (h : Q u s)
    (hd : (x == ("__debug__" : Str)) = false := by decide) : wpAny (model X.prog X.w) X.A (eval (.Name x pos) X.env) Q E s :=
  Calls.Name_function_global I.ok.kind hg (Calls.loadGlobal_global (by rw [I.ok.glob]; exact I.mod.glob.keeps I.bk) hm h) hd
theorem ld_blt {E : Value → Shared → Prop} {pins : List (Addr × Obj)} {s : Shared} {σ : St} {H : Hp} {x : Str} {u : Value} {pos : Pos} {Q : Value → Shared → Prop} (I : Inv X pins σ H s) (hg : Gl X x) (hm : X.mg x = none) (hv : bootBuiltins x = some u) (h : Q u s)
    (hn : x ≠ "__name__" := by decide) (hd : (x == ("__debug__" : Str)) = false := by decide) : wpAny (model X.prog X.w) X.A (eval (.Name x pos) X.env) Q E s := by
  obtain ⟨mb, h1, h2⟩ := I.mod.blt
  exact Calls.Name_function_global I.ok.kind hg (Calls.loadGlobal_builtin (by rw [I.ok.glob]; exact I.mod.glob.keeps I.bk) hm (by rw [I.ok.blt]; exact h1.keeps I.bk) ((h2 x hn).trans hv) h) hd
theorem pe_glob {x : Str} {v : V} {u : Value} {pos : Pos} (hg : Gl X x) (hm : X.mg x = some u) (r : RelV v u) (hd : (x == ("__debug__" : Str)) = false := by decide) : PE X (.Name x pos) (tC v) :=
  fun _ _ _ H _ I h => ld_glob I hg hm ⟨v, H, I, r, h⟩ hd
theorem pe_bltn {x : Str} {v : V} {u : Value} {pos : Pos} (hg : Gl X x) (hm : X.mg x = none) (hv : bootBuiltins x = some u) (r : RelV v u) (hn : x ≠ "__name__" := by decide) (hd : (x == ("__debug__" : Str)) = false := by decide) : PE X (.Name x pos) (tC v) :=
  fun _ _ _ H _ I h => ld_blt I hg hm hv ⟨v, H, I, r, h⟩ hn hd

variable {a b : Expr} {ta tb : TE} {pos : Pos}
noncomputable def tB (t : TE) : TT := fun σ H Q => t σ H fun x H1 => ∃ c, x = .bl c ∧ Q c H1
theorem pt_val {e : Expr} {t : TE} (h : PE X e t) (he : ∀ whole, isTrue e X.env whole = (do let v ← whole; standAt e.pos; holding [v] (truthy v)) := by intro _; rfl) : PT X e (tB t) := by
  intro pins s σ H Q I hw
  refine isTrue_plain (thn (h pins s σ H _ I hw) fun v s1 ⟨x, H1, I1, r1, q1⟩ => ?_) (he _)
  obtain ⟨d, rfl, q⟩ := q1
  cases r1
  exact wpAny_truthy_bool ⟨H1, I1, q⟩

variable {tA tB' : TT} {rest : List Expr}
noncomputable def tAnd (t u : TT) : TT := fun σ H Q => t σ H fun c H1 => if c = true then u σ H1 Q else Q false H1
noncomputable def tNot (t : TT) : TT := fun σ H Q => t σ H fun c H1 => Q (!c) H1
theorem pw_and1 (ha : PT X a tA) : PW X (.BoolOp .And [a] pos) tA := by
  intro wh pins s σ H Q I h
  refine isTrue_and (thn (ha pins s σ H Q I h) fun c s1 e => ?_)
  cases c with
  | true => exact isTrue_and_nil e
  | false => exact e
theorem pw_and (ha : PT X a tA) (hb : PW X (.BoolOp .And (b :: rest) pos) tB') : PW X (.BoolOp .And (a :: b :: rest) pos) (tAnd tA tB') := by
  intro wh pins s σ H Q I h
  refine isTrue_and (thn (ha pins s σ H _ I h) fun c s1 ⟨H1, I1, q1⟩ => ?_)
  cases c with
  | true => exact hb wh pins s1 σ H1 Q I1 q1
  | false => exact ⟨H1, I1, q1⟩
theorem pt_not (ha : PT X a tA) : PT X (.UnaryOp .Not a pos) (tNot tA) := by
  intro pins s σ H Q I h
  exact isTrue_not (ha pins s σ H (fun c H1 => Q (!c) H1) I h)
noncomputable def tAndV (ta tb : TE) : TE := fun σ H Q => ta σ H fun x H1 => ∃ c, x = .bl c ∧ if c = true then tb σ H1 Q else Q (.bl false) H1
noncomputable def tOrV (ta tb : TE) : TE := fun σ H Q => ta σ H fun x H1 => ∃ c, x = .bl c ∧ if c = true then Q (.bl true) H1 else tb σ H1 Q
noncomputable def tNotV (ta : TE) : TE := fun σ H Q => ta σ H fun x H1 => ∃ c, x = .bl c ∧ Q (.bl (!c)) H1
theorem pe_one {op} {t : TE} (h : PE X a t) : PE X (.BoolOp op [a] pos) t := fun pins s σ H Q I hw => BoolOp_one (h pins s σ H Q I hw)
theorem pe_and (ha : PE X a ta) (hb : PE X (.BoolOp .And (b :: rest) pos) tb) : PE X (.BoolOp .And (a :: b :: rest) pos) (tAndV ta tb) := by
  intro pins s σ H Q I h
  refine BoolOp_and (thn (ha pins s σ H _ I h) fun v s1 ⟨x, H1, I1, r1, q1⟩ => ?_)
  obtain ⟨c, rfl, q1⟩ := q1
  cases r1
  refine wpAny_truthy_bool ?_
  cases c with
  | true => exact hb pins s1 σ H1 Q I1 q1
  | false => exact ⟨.bl false, H1, I1, rfl, q1⟩
theorem pe_or (ha : PE X a ta) (hb : PE X (.BoolOp .Or (b :: rest) pos) tb) : PE X (.BoolOp .Or (a :: b :: rest) pos) (tOrV ta tb) := by
  intro pins s σ H Q I h
  refine BoolOp_or (thn (ha pins s σ H _ I h) fun v s1 ⟨x, H1, I1, r1, q1⟩ => ?_)
  obtain ⟨c, rfl, q1⟩ := q1
  cases r1
  refine wpAny_truthy_bool ?_
  cases c with
  | false => exact hb pins s1 σ H1 Q I1 q1
  | true => exact ⟨.bl true, H1, I1, rfl, q1⟩
theorem pe_not (ha : PE X a ta) : PE X (.UnaryOp .Not a pos) (tNotV ta) := by
  intro pins s σ H Q I h
  refine UnaryOp_ (thn (ha pins s σ H _ I h) fun v s1 ⟨x, H1, I1, r1, q1⟩ => ?_)
  obtain ⟨c, rfl, q1⟩ := q1
  cases r1
  exact not_of (wpAny_truthy_bool ⟨.bl (!c), H1, I1, rfl, q1⟩)
end
end L2

namespace L2
open PySem PySem.Spec PyProof.Rows

noncomputable def SqL (K : PySem.W.Frag) (H : Hp) (a : Addr) (xs : List V) : Prop :=
  Rd H a (.lst xs) ∨
    ∃ (o : Obj) (its : Array Value) (n : Nat), K.lookup a = some o ∧ o.cls = .type "list" ∧ o.dict = none ∧ o.data = .seq its n ∧ its.size ≤ sizeLine ∧ Vals xs its.toList
noncomputable def SqT (K : PySem.W.Frag) (H : Hp) (a : Addr) (xs : List V) : Prop :=
  Rd H a (.tup xs) ∨
    ∃ (o : Obj) (its : Array Value) (n : Nat), K.lookup a = some o ∧ o.cls = .type "tuple" ∧ o.data = .seq its n ∧ its.size ≤ sizeLine ∧ Vals xs its.toList
noncomputable def absV : Value → Option V
  | .none => some .non
  | .bool b => some (.bl b)
  | .int i _ => some (.int i)
  | .str x _ => some (.str x)
  | .bytes b _ => some (.byt b)
  | .float b _ => some (.flt b)
  | .ref a => some (.ref a)
  | .type n => some (.ty n)
  | _ => none
theorem RelV.abs {x : V} {u : Value} (r : RelV x u) : absV u = some x := by
  cases x with
  | non => cases r; rfl
  | bl _ => cases r; rfl
  | int _ => obtain ⟨t, rfl⟩ := r; rfl
  | str _ => obtain ⟨t, rfl⟩ := r; rfl
  | byt _ => obtain ⟨t, rfl⟩ := r; rfl
  | flt _ => obtain ⟨t, rfl⟩ := r; rfl
  | ref _ => cases r; rfl
  | ty _ => cases r; rfl
theorem RelV.inj {x y : V} {u : Value} (r : RelV x u) (q : RelV y u) : x = y := Option.some.inj (r.abs.symm.trans q.abs)
theorem Vals.inj {xs ys : List V} {us : List Value} (h : Vals xs us) (h' : Vals ys us) : xs = ys := by
  induction h generalizing ys with
  | nil => cases h'; rfl
  | cons r _ ih =>
    cases h' with
    | cons r' t' => rw [r.inj r', ih t']
section
variable {X : Cx} {pins : List (Addr × Obj)} {σ : St} {H : Hp} {s : Shared} {a : Addr} {xs ys : List V}
theorem SqL.of {K : PySem.W.Frag} (h : H a = some (.lst xs)) : SqL K H a xs := .inl (.inl h)
theorem SqT.of {K : PySem.W.Frag} (h : H a = some (.tup xs)) : SqT K H a xs := .inl (.inl h)
theorem Inv.list (I : Inv X pins σ H s) (h : SqL X.K H a xs) : ∃ its : List Value, Vals xs its ∧ PlainL s.heap a its.toArray ∧ xs.length ≤ sizeLine := by
  rcases h with h | ⟨o, its, n, hk, hc, hd, hs, hz, r⟩
  · obtain ⟨z, its, n, r, e⟩ := h.ok I.hok
    exact ⟨its, r, ⟨_, n, e, rfl, rfl, rfl⟩, z⟩
  · refine ⟨its.toList, r, ⟨o, n, I.kIn a o hk, hc, hd, by simpa using hs⟩, ?_⟩
    have e := r.length
    simp only [Array.length_toList] at e
    omega
theorem Inv.tuple (I : Inv X pins σ H s) (h : SqT X.K H a xs) : ∃ its : List Value, Vals xs its ∧ IsTup s.heap a its.toArray ∧ xs.length ≤ sizeLine := by
  rcases h with h | ⟨o, its, n, hk, hc, hs, hz, r⟩
  · obtain ⟨z, its, r, p⟩ := h.ok I.hok
    exact ⟨its, r, p.tup, z⟩
  · refine ⟨its.toList, r, ⟨o, I.kIn a o hk, hc, n, by simpa using hs⟩, ?_⟩
    have e := r.length
    simp only [Array.length_toList] at e
    omega
theorem Inv.list_inj (I : Inv X pins σ H s) (h : SqL X.K H a xs) (h' : SqL X.K H a ys) : xs = ys := by
  obtain ⟨its, r, ⟨o, n, e, _, _, d⟩, _⟩ := I.list h
  obtain ⟨its', r', ⟨o', n', e', _, _, d'⟩, _⟩ := I.list h'
  rw [e] at e'; cases e'
  rw [d] at d'
  injection d' with d1 _
  have : its = its' := by simpa using congrArg Array.toList d1
  subst this
  exact r.inj r'
theorem Inv.tuple_inj (I : Inv X pins σ H s) (h : SqT X.K H a xs) (h' : SqT X.K H a ys) : xs = ys := by
  obtain ⟨its, r, ⟨o, e, _, n, d⟩, _⟩ := I.tuple h
  obtain ⟨its', r', ⟨o', e', _, n', d'⟩, _⟩ := I.tuple h'
  rw [e] at e'; cases e'
  rw [d] at d'
  injection d' with d1 _
  have : its = its' := by simpa using congrArg Array.toList d1
  subst this
  exact r.inj r'
end

noncomputable abbrev Cx.wish (X : Cx) (E : Value → Shared → Prop) : Cx := { X with xe := E }
noncomputable abbrev Cx.nox (X : Cx) : Cx := X.wish fun _ _ => False
theorem Cx.Ok.wish {X : Cx} (ok : X.Ok) (E : Value → Shared → Prop) : (X.wish E).Ok :=
  ⟨ok.mod, ok.kind, ok.glob, ok.blt, ok.above, ok.inj, ok.has, ok.cab, ok.hd, ok.frames, ok.stk, ok.exf, ok.bs, ok.bsz, ok.noex, ok.exfs, ok.funs, ok.frf⟩
theorem Cx.Ok.unwish {X : Cx} {E : Value → Shared → Prop} (ok : (X.wish E).Ok) : X.Ok :=
  ⟨ok.mod, ok.kind, ok.glob, ok.blt, ok.above, ok.inj, ok.has, ok.cab, ok.hd, ok.frames, ok.stk, ok.exf, ok.bs, ok.bsz, ok.noex, ok.exfs, ok.funs, ok.frf⟩
section
variable {X : Cx} {pins : List (Addr × Obj)} {σ : St} {H : Hp} {s : Shared} {E : Value → Shared → Prop}
theorem Inv.wish (I : Inv X pins σ H s) (E : Value → Shared → Prop) : Inv (X.wish E) pins σ H s := ⟨I.ok.wish E, I.os, I.bare, I.base, I.loc, I.cell, I.free, I.freeC, I.pin, I.hok, I.len⟩
theorem Inv.unwish (I : Inv (X.wish E) pins σ H s) : Inv X pins σ H s := ⟨I.ok.unwish, I.os, I.bare, I.base, I.loc, I.cell, I.free, I.freeC, I.pin, I.hok, I.len⟩
theorem SP.unwish {D : Ends} {f : Flow} {s' : Shared} (h : SP (X.wish E) pins D f s') : SP X pins D f s' := by
  cases f with
  | next => obtain ⟨σ', H', I, q⟩ := h; exact ⟨σ', H', I.unwish, q⟩
  | brk => obtain ⟨σ', H', I, q⟩ := h; exact ⟨σ', H', I.unwish, q⟩
  | cont => obtain ⟨σ', H', I, q⟩ := h; exact ⟨σ', H', I.unwish, q⟩
  | ret u => obtain ⟨v, σ', H', I, r, q⟩ := h; exact ⟨v, σ', H', I.unwish, r, q⟩
theorem PSs.nox {st : List Stmt} {t : TS} (h : PSs X.nox st t) : PSs X st t := fun pins s σ H D I hw =>
  wpAny_mono (h pins s σ H D (I.wish _) hw) (fun _ _ q => q.unwish) fun _ _ z => False.elim z
end

section
variable {X : Cx} {st : Stmt} {rest : List Stmt} {t u : TS} {e : Expr} {te : TE} {pos : Pos}
noncomputable def tNext : TS := fun D σ H => D.nx σ H
noncomputable def tSeq (t u : TS) : TS := fun D σ H => t { D with nx := u D } σ H
theorem pss_nil : PSs X [] tNext := fun _ _ σ H _ I h => wpAny_execs_nil ⟨σ, H, I, h⟩
theorem pss_cons (h1 : PS X st t) (h2 : PSs X rest u) : PSs X (st :: rest) (tSeq t u) := by
  intro pins s σ H D I h
  refine wpAny_execs_cons (thn (h1 pins s σ H { D with nx := u D } I h) fun f s1 q => ?_)
  cases f with
  | next =>
    obtain ⟨σ', H', I', q⟩ := q
    exact h2 pins s1 σ' H' D I' q
  | ret v => exact q
  | brk => exact q
  | cont => exact q
theorem pss_one (h1 : PS X st t) : PSs X [st] t := by
  intro pins s σ H D I h
  refine wpAny_execs_cons (thn (h1 pins s σ H D I h) fun f s1 q => ?_)
  cases f with
  | next => exact wpAny_execs_nil q
  | ret v => exact q
  | brk => exact q
  | cont => exact q
theorem Inv.quiet {pins : List (Addr × Obj)} {σ : St} {H : Hp} {s : Shared} (I : Inv X pins σ H s) : interactive X.env = false := by simp [interactive, I.ok.kind]
noncomputable def tDrop (te : TE) : TS := fun D σ H => te σ H fun _ H1 => D.nx σ H1
theorem ps_expr (he : PE X e te) (hs : swapsWith e none pos.line X.env = pure false := by rfl) : PS X (.Expr e pos) (tDrop te) := by
  intro pins s σ H D I h
  exact wpAny_Expr_any (thn (he pins s σ H _ I h) fun v s1 ⟨x, H1, I1, r1, q1⟩ => ⟨σ, H1, I1, q1⟩) I.quiet hs
noncomputable def tRet (te : TE) : TS := fun D σ H => te σ H D.rt
theorem ps_ret (he : PE X e te) : PS X (.Return (some e) pos) (tRet te) := by
  intro pins s σ H D I h
  exact wpAny_Return_some (thn (he pins s σ H _ I h) fun v s1 ⟨x, H1, I1, r1, q1⟩ => ⟨x, σ, H1, I1, r1, q1⟩)
noncomputable def tIfS (c : TT) (t u : TS) : TS := fun D σ H => c σ H fun b H1 => if b = true then t D σ H1 else u D σ H1
theorem ps_if {c : Expr} {a b : List Stmt} {tc : TT} (hc : PT X c tc) (ha : PSs X a t) (hb : PSs X b u) : PS X (.If c a b pos) (tIfS tc t u) := by
  intro pins s σ H D I h
  refine wpAny_If (thn (hc pins s σ H _ I h) fun d s1 ⟨H1, I1, q1⟩ => ?_)
  cases d with
  | true => exact ha pins s1 σ H1 D I1 q1
  | false => exact hb pins s1 σ H1 D I1 q1
noncomputable def tNever : TS := fun _ _ _ => False
theorem ps_never : PS X st tNever := fun _ _ _ _ _ _ h => h.elim
end

noncomputable abbrev TG := V → St → Hp → (St → Hp → Prop) → Prop
noncomputable abbrev TGs := List V → St → Hp → (St → Hp → Prop) → Prop
noncomputable def PG (X : Cx) (target : Expr) (t : TG) : Prop :=
  ∀ (pins : List (Addr × Obj)) (s : Shared) (σ : St) (H : Hp) (v : V) (u : Value) (Q : St → Hp → Prop), Inv X pins σ H s → RelV v u → t v σ H Q →
    wpAny (model X.prog X.w) X.A (assign target X.env u) (fun _ s' => ∃ σ' H', Inv X pins σ' H' s' ∧ Q σ' H') X.xe s
noncomputable def PGs (X : Cx) (ts : List Expr) (t : TGs) : Prop :=
  ∀ (pins : List (Addr × Obj)) (s : Shared) (σ : St) (H : Hp) (vs : List V) (us : List Value) (Q : St → Hp → Prop), Inv X pins σ H s → Vals vs us → t vs σ H Q →
    wpAny (model X.prog X.w) X.A (assignInOrder ((assignEach ts X.env).map (·.2)) us) (fun _ s' => ∃ σ' H', Inv X pins σ' H' s' ∧ Q σ' H') X.xe s
noncomputable abbrev TSet := V → V → V → Hp → (Hp → Prop) → Prop
noncomputable def PSet (X : Cx) (t : TSet) : Prop :=
  ∀ (pins : List (Addr × Obj)) (s : Shared) (σ : St) (H : Hp) (o i v : V) (ov iv u : Value) (Q : Hp → Prop), Inv X pins σ H s → RelV o ov → RelV i iv → RelV v u → t o i v H Q →
    wpAny (model X.prog X.w) X.A (setItem ov iv u) (fun _ s' => ∃ H', Inv X pins σ H' s' ∧ Q H') X.xe s
section
variable {X : Cx} {pos : Pos}
noncomputable def gName (i : Nat) : TG := fun v σ H Q => Q (σ.set i (some v)) H
theorem pg_name {i : Nat} {x : Str} (hN : X.N.Nodup) (hi : X.N[i]? = some x) (hx : Loc X.env.scope x) (hf : X.fn x = true ∨ X.env.scope.names.lookup x = some .local := by first | exact .inl rfl | exact .inr rfl | assumption) : PG X (.Name x pos) (gName i) := by
  intro pins s σ H v u Q I r h
  exact wpAny_assign_Name (store_ok I hN hi hx r (fun s' I' => ⟨_, H, I', h⟩) hf)
noncomputable def gNil : TGs := fun vs σ H Q => vs = [] ∧ Q σ H
noncomputable def gCons (t : TG) (u : TGs) : TGs := fun vs σ H Q => ∃ v r, vs = v :: r ∧ t v σ H fun σ' H' => u r σ' H' Q
theorem pgs_nil : PGs X [] gNil := by
  intro pins s σ H vs us Q I r h
  obtain ⟨e, h⟩ := h
  subst e
  cases r
  exact assignInOrder_nil ⟨σ, H, I, h⟩
theorem pgs_cons {e : Expr} {es : List Expr} {t : TG} {u : TGs} (h1 : PG X e t) (h2 : PGs X es u)
    (hs : (assignEach (e :: es) X.env).map (·.2) = assign e X.env :: (assignEach es X.env).map (·.2) := by rfl) : PGs X (e :: es) (gCons t u) := by
  intro pins s σ H vs us Q I r h
  obtain ⟨v, vr, e1, h⟩ := h
  subst e1
  cases r with
  | cons r rr =>
    rw [hs]
    refine assignInOrder_cons (thn (h1 pins s σ H _ _ _ I r h) fun _ s1 ⟨σ1, H1, I1, q1⟩ => ?_)
    exact h2 pins s1 σ1 H1 _ _ Q I1 rr q1
noncomputable def gSub (to ti : TE) (t : TSet) : TG := fun v σ H Q => to σ H fun o H1 => ti σ H1 fun i H2 => t o i v H2 fun H3 => Q σ H3
theorem pg_sub {o i : Expr} {to ti : TE} {t : TSet} (ho : PE X o to) (hi : PE X i ti) (hs : PSet X t)
    (ha : ∀ v, assign (.Subscript o i pos) X.env v = (do
      let ov ← holding [v] (eval o X.env)
      let iv ← holding [v, ov] (eval i X.env)
      standAt pos
      holding [v, ov, iv] (setItem ov iv v)
      release [v, ov, iv] []) := by intro _; rfl) : PG X (.Subscript o i pos) (gSub to ti t) := by
  intro pins s σ H v u Q I r h
  rw [ha]
  refine wpAny_bind (wpAny_holding (thn (ho pins s σ H _ I h) fun ov s1 ⟨x, H1, I1, r1, q1⟩ => ?_))
  refine wpAny_bind (wpAny_holding (thn (hi pins s1 σ H1 _ I1 q1) fun iv s2 ⟨y, H2, I2, r2, q2⟩ => ?_))
  refine wpAny_bind (wpAny_standAt (wpAny_bind (wpAny_holding (thn (hs pins s2 σ H2 x y v ov iv u _ I2 r1 r2 r q2) fun _ s3 ⟨H3, I3, q3⟩ => ?_))))
  exact wpAny_release ⟨σ, H3, I3, q3⟩
noncomputable def tAsg (te : TE) (g : TG) : TS := fun D σ H => te σ H fun x H1 => g x σ H1 D.nx
theorem ps_asg {tg e : Expr} {te : TE} {g : TG} (he : PE X e te) (hg : PG X tg g) (hs : swapsWithSole [tg] e pos.line X.env = pure false := by rfl) (hw : swappedStores [tg] e X.env = pure none := by rfl)
    (h1 : (assignEach [tg] X.env).map (·.2) = [assign tg X.env] := by rfl) : PS X (.Assign [tg] e pos) (tAsg te g) := by
  intro pins s σ H D I h
  refine wpAny_Assign_stores (thn (he pins s σ H _ I h) fun v s1 ⟨x, H1, I1, r1, q1⟩ => ?_) hs hw
  rw [h1]
  exact thn (hg pins s1 σ H1 x v _ I1 r1 q1) fun _ s2 q => q
theorem ps_set {i : Nat} {x : Str} {e : Expr} {te : TE} {pos' : Pos} (hN : X.N.Nodup) (hi : X.N[i]? = some x) (hx : Loc X.env.scope x) (he : PE X e te) (hs : swapsWith e (some (.Name x pos')) pos.line X.env = pure false := by rfl) (hf : X.fn x = true ∨ X.env.scope.names.lookup x = some .local := by first | exact .inl rfl | exact .inr rfl | assumption) :
    PS X (.Assign [.Name x pos'] e pos) (tAsg te (gName i)) := by
  intro pins s σ H D I h
  refine wpAny_Assign_Name (thn (he pins s σ H _ I h) fun v s1 ⟨y, H1, I1, r1, q1⟩ => ?_) hs
  exact store_ok I1 hN hi hx r1 (fun s2 I2 => ⟨_, H1, I2, q1⟩) hf
end

section
variable {X : Cx} {pos : Pos}
end

structure It where
  go : Nat → Hp → Prop
  yld : Nat → Hp → V → Hp → Prop
  stop : Nat → Hp → Prop
noncomputable def FpOk (X : Cx) (pins : List (Addr × Obj)) (H : Hp) (b : Addr) : Prop :=
  H b = none ∧ b ≠ X.env.locals ∧ b ∉ X.fs ∧ (b ∈ X.ex ∨ X.s₀.heap.objs.size ≤ b) ∧ (∀ x c, X.env.cells.lookup x = some c → c ≠ b) ∧ ∀ p ∈ X.pn ++ pins, p.1 ≠ b
theorem Inv.fpOk {X : Cx} {pins : List (Addr × Obj)} {σ : St} {H H' : Hp} {s : Shared} {b : Addr} (I : Inv X pins σ H s) (hb : s.heap.objs.size ≤ b) (hn : H' b = none) : FpOk X pins H' b := by
  refine ⟨hn, Nat.ne_of_gt (Nat.lt_of_lt_of_le I.lt hb), I.nofs hb, .inr (Nat.le_trans I.sz hb), fun x c e z => ?_, fun p hp z => ?_⟩
  · obtain ⟨v, q⟩ := I.cell x c e
    exact absurd (Nat.lt_of_lt_of_le q.lt (by rw [z]; exact hb)) (Nat.lt_irrefl _)
  · exact absurd (Nat.lt_of_lt_of_le (Heap.lt_size (I.pin p hp).1) (by rw [z]; exact hb)) (Nat.lt_irrefl _)
structure Turn (P : Program) (w : World) (K : PySem.W.Frag) (tg : Expr) (J : It) (fp : List Addr) (it : Addr) (tn : Nat → Heap → Prop) : Prop where
  mem : it ∈ fp
  obj : ∀ i h, tn i h → ∀ b ∈ fp, ∃ o, h.get? b = some o ∧ ∀ v, o.data ≠ .cell v
  keep : ∀ i h h', tn i h → (∀ b ∈ fp, ∀ o, h.get? b = some o → h'.get? b = some o) → tn i h'
  item : ∀ (X : Cx), X.prog = P → X.w = w → X.K = K → X.calm = true → ∀ (i : Nat) (pins : List (Addr × Obj)) (s : Shared) (σ : St) (H : Hp) (E : Value → Shared → Prop), Inv X pins σ H s → (∀ b ∈ fp, FpOk X pins H b) → tn i s.heap → J.go i H →
    wpAny (model P w) X.A (pyNext (.ref it)) (fun r s1 => ∃ u, r = some u ∧
      wpAny (model P w) X.A (letOwnedTupleGo tg (.ref it) u) (fun _ s2 => ∃ x H', Inv X pins σ H' s2 ∧ RelV x u ∧ J.yld i H x H' ∧ tn (i + 1) s2.heap ∧ ∀ b ∈ fp, H' b = none) E s1) E s
  done : ∀ (X : Cx), X.prog = P → X.w = w → X.K = K → X.calm = true → ∀ (i : Nat) (pins : List (Addr × Obj)) (s : Shared) (σ : St) (H : Hp) (E : Value → Shared → Prop), Inv X pins σ H s → (∀ b ∈ fp, FpOk X pins H b) → tn i s.heap → J.stop i H →
    wpAny (model P w) X.A (pyNext (.ref it)) (fun r s1 => r = none ∧ Inv X pins σ H s1) E s
  self : ∀ (A : Around) (i : Nat) (s : Shared) (Q : Value → Shared → Prop) (E : Value → Shared → Prop), tn i s.heap → Q (.ref it) s → wpAny (model P w) A (pyIter (.ref it)) Q E s
noncomputable abbrev TI := St → Hp → (It → Hp → Prop) → Prop
noncomputable def PIE (X : Cx) (pins : List (Addr × Obj)) (σ : St) (tg : Expr) (R : It → Hp → Prop) (itv : Value) (s2 : Shared) : Prop :=
  ∃ (it : Addr) (fp : List Addr) (tn : Nat → Heap → Prop) (J : It) (H' : Hp), itv = .ref it ∧ Inv X pins σ H' s2 ∧ Turn X.prog X.w X.K tg J fp it tn ∧ tn 0 s2.heap ∧ (∀ b ∈ fp, FpOk X pins H' b) ∧ R J H'
noncomputable def PI (X : Cx) (tg iter : Expr) (wi : TI) : Prop :=
  ∀ (pins : List (Addr × Obj)) (s : Shared) (σ : St) (H : Hp) (R : It → Hp → Prop), Inv X pins σ H s → wi σ H R →
    wpAny (model X.prog X.w) X.A (eval iter X.env) (fun v s1 => wpAny (model X.prog X.w) X.A (pyIter v) (PIE X pins σ tg R) X.xe s1) X.xe s

theorem go_of {M : Model} {A : Around} {E : Value → Shared → Prop} {s : Shared} {tg : Expr} {it : Addr} {u : Value} {o : Obj} {n : String} {vs : Array Value} {Q : Unit → Shared → Prop} (ho : s.heap.get? it = some o) (hc : o.cls = .type n) (hd : o.data = .fields vs)
    (hn : ["enumerate", "zip", "dict_itemiterator", "dict_reverseitemiterator", "odict_iterator", "itertools.zip_longest", "itertools.pairwise"].contains n = false) (hQ : Q () s) : wpAny M A (letOwnedTupleGo tg (.ref it) u) Q E s := by
  unfold letOwnedTupleGo
  cases tg <;> first
    | exact wpAny_pure hQ
    | (cases u <;> first
        | exact wpAny_pure hQ
        | (refine wpAny_bind (wpAny_load ho ?_)
           rw [hc, hd]
           show wpAny M A (if (["enumerate", "zip", "dict_itemiterator", "dict_reverseitemiterator", "odict_iterator", "itertools.zip_longest", "itertools.pairwise"].contains n && vs[0]? == some (rawInt _)) = true then _ else _) Q E s
           rw [if_neg (by intro h; rw [hn, Bool.false_and] at h; cases h)]
           exact wpAny_pure hQ))

noncomputable def Itl (K : PySem.W.Frag) (a : Addr) : It :=
  ⟨fun i H => ∃ xs x, SqL K H a xs ∧ xs[i]? = some x, fun i H x H' => H' = H ∧ ∀ xs, SqL K H a xs → xs[i]? = some x, fun i H => ∃ xs, SqL K H a xs ∧ xs.length ≤ i⟩
noncomputable def Itt (K : PySem.W.Frag) (a : Addr) : It :=
  ⟨fun i H => ∃ xs x, SqT K H a xs ∧ xs[i]? = some x, fun i H x H' => H' = H ∧ ∀ xs, SqT K H a xs → xs[i]? = some x, fun i H => ∃ xs, SqT K H a xs ∧ xs.length ≤ i⟩
noncomputable def Itr (lo : Int) (n : Nat) : It := ⟨fun i _ => i < n, fun i H x H' => H' = H ∧ x = .int (lo + i), fun i _ => n ≤ i⟩
theorem turn_list {P : Program} {w : World} {K : PySem.W.Frag} {tg : Expr} (a it : Addr) : Turn P w K tg (Itl K a) [it] it (fun i h => h.IsListIter it a i) where
  mem := by simp
  obj := fun i h st b hb => by
    have e : b = it := by simpa using hb
    subst e
    obtain ⟨o, e, c, d⟩ := st
    exact ⟨o, e, fun v z => by rw [d] at z; cases z⟩
  keep := fun i h h' st k => st.at fun o e => k it (by simp) o e
  item := by
    intro X hP hw hK hc i pins s σ H E I hf st hg
    subst hP hw hK
    obtain ⟨xs, x, hq, hx⟩ := hg
    obtain ⟨its, rv, p, hz⟩ := I.list hq
    obtain ⟨u, hu, ru⟩ := rv.get hx
    obtain ⟨f0, f1, f2, f3, f4, f5⟩ := hf it (by simp)
    refine wpAny_pyNext_list_item st p.isList (x := u) (by simpa using hu) fun h' st' sb => ?_
    have I1 : Inv X pins σ H { s with heap := h' } := I.turned (t' := s.toks) (fun b o hb e => (sb.2 b hb).trans e) f0 f1 f3 f4 f5
    obtain ⟨o, e, c, d⟩ := id st'
    exact ⟨u, rfl, go_of (s := { s with heap := h' }) e c d (by decide) ⟨x, H, I1, ru, ⟨rfl, fun ys hy => by rw [I.list_inj hy hq]; exact hx⟩, st', fun b hb => (hf b hb).1⟩⟩
  done := by
    intro X hP hw hK hc i pins s σ H E I hf st hg
    subst hP hw hK
    obtain ⟨xs, hq, hx⟩ := hg
    obtain ⟨its, rv, p, hz⟩ := I.list hq
    obtain ⟨f0, f1, f2, f3, f4, f5⟩ := hf it (by simp)
    have hl := rv.length
    exact wpAny_pyNext_list_end (I.ok.hd hc) st p.isList (by simp; omega) fun h' eb => ⟨rfl, I.turned (t' := s.toks) (fun b o hb e => eb b o hb e) f0 f1 f3 f4 f5⟩
  self := fun _ _ _ _ _ st h => wpAny_pyIter_listiter st h
theorem turn_tuple {P : Program} {w : World} {K : PySem.W.Frag} {tg : Expr} (a it : Addr) : Turn P w K tg (Itt K a) [it] it (fun i h => h.IsTupleIter it a i) where
  mem := by simp
  obj := fun i h st b hb => by
    have e : b = it := by simpa using hb
    subst e
    obtain ⟨o, e, c, d⟩ := st
    exact ⟨o, e, fun v z => by rw [d] at z; cases z⟩
  keep := fun i h h' st k => st.at fun o e => k it (by simp) o e
  item := by
    intro X hP hw hK hc i pins s σ H E I hf st hg
    subst hP hw hK
    obtain ⟨xs, x, hq, hx⟩ := hg
    obtain ⟨its, rv, p, hz⟩ := I.tuple hq
    obtain ⟨u, hu, ru⟩ := rv.get hx
    obtain ⟨f0, f1, f2, f3, f4, f5⟩ := hf it (by simp)
    refine wpAny_pyNext_tuple_item st (show s.heap.IsTuple a its.toArray from p) (x := u) (by simpa using hu) fun h' st' sb => ?_
    have I1 : Inv X pins σ H { s with heap := h' } := I.turned (t' := s.toks) (fun b o hb e => (sb.2 b hb).trans e) f0 f1 f3 f4 f5
    obtain ⟨o, e, c, d⟩ := id st'
    exact ⟨u, rfl, go_of (s := { s with heap := h' }) e c d (by decide) ⟨x, H, I1, ru, ⟨rfl, fun ys hy => by rw [I.tuple_inj hy hq]; exact hx⟩, st', fun b hb => (hf b hb).1⟩⟩
  done := by
    intro X hP hw hK hc i pins s σ H E I hf st hg
    subst hP hw hK
    obtain ⟨xs, hq, hx⟩ := hg
    obtain ⟨its, rv, p, hz⟩ := I.tuple hq
    obtain ⟨f0, f1, f2, f3, f4, f5⟩ := hf it (by simp)
    have hl := rv.length
    exact wpAny_pyNext_tuple_end (I.ok.hd hc) st (show s.heap.IsTuple a its.toArray from p) (by simp; omega) fun h' eb => ⟨rfl, I.turned (t' := s.toks) (fun b o hb e => eb b o hb e) f0 f1 f3 f4 f5⟩
  self := fun _ _ _ _ _ st h => wpAny_pyIter_tupleiter st h
theorem turn_range {P : Program} {w : World} {K : PySem.W.Frag} {tg : Expr} (it : Addr) (lo : Int) (n : Nat) : Turn P w K tg (Itr lo n) [it] it (fun i h => IsRangeIter h it (lo + (i : Nat) * 1) ((n : Int) - (i : Nat)) 1) where
  mem := by simp
  obj := fun i h st b hb => by
    have e : b = it := by simpa using hb
    subst e
    exact ⟨_, st, fun v z => by
      have z' : Data.fields _ = Data.cell v := z
      cases z'⟩
  keep := fun i h h' st k => k it (by simp) _ st
  item := by
    intro X hP hw hK hc i pins s σ H E I hf st hg
    subst hP hw hK
    obtain ⟨f0, f1, f2, f3, f4, f5⟩ := hf it (by simp)
    have W := Walks.range (prog := X.prog) (w := X.w) (I.ok.hd hc) it lo 1 n
    refine W.item i s _ _ hg st fun v h' tk hv st' kk => ?_
    obtain ⟨t, rfl⟩ := hv
    have I1 : Inv X pins σ H { s with heap := h', toks := tk } := I.turned (fun b o hb e => kk b o (by simpa using hb) e) f0 f1 f3 f4 f5
    refine ⟨_, rfl, go_of (s := { s with heap := h', toks := tk }) (n := "range_iterator") st' rfl rfl (by decide) ⟨.int (lo + i), H, I1, ⟨t, ?_⟩, ⟨rfl, rfl⟩, st', fun b hb => (hf b hb).1⟩⟩
    rw [Int.mul_one]
  done := by
    intro X hP hw hK hc i pins s σ H E I hf st hg
    subst hP hw hK
    obtain ⟨f0, f1, f2, f3, f4, f5⟩ := hf it (by simp)
    exact wpAny_pyNext_range_end (I.ok.hd hc) st (by have : n ≤ i := hg; omega) fun h' eb => ⟨rfl, I.turned (t' := s.toks) (fun b o hb e => eb b o hb e) f0 f1 f3 f4 f5⟩
  self := fun _ _ _ _ _ st h => wpAny_pyIter_rangeiter st h
end L2

namespace L2
open PySem PySem.Spec PyProof.Rows
section
variable {X : Cx} {tg : Expr}
noncomputable def iList (K : PySem.W.Frag) (tl : TE) : TI := fun σ H R => tl σ H fun x H1 => ∃ a, x = .ref a ∧ (∃ xs, SqL K H1 a xs) ∧ R (Itl K a) H1
noncomputable def iTup (K : PySem.W.Frag) (tl : TE) : TI := fun σ H R => tl σ H fun x H1 => ∃ a, x = .ref a ∧ (∃ xs, SqT K H1 a xs) ∧ R (Itt K a) H1
theorem pi_list {l : Expr} {tl : TE} (hl : PE X l tl) : PI X tg l (iList X.K tl) := by
  intro pins s σ H R I h
  refine thn (hl pins s σ H _ I h) fun v s1 ⟨x, H1, I1, r1, q1⟩ => ?_
  obtain ⟨a, e, ⟨xs, hq⟩, q⟩ := q1
  subst e
  cases r1
  obtain ⟨its, rv, p, hz⟩ := I1.list hq
  refine wpAny_pyIter_list p.isList ?_
  refine ⟨s1.heap.objs.size, [s1.heap.objs.size], _, _, H1, rfl, I1.kept (t' := s1.toks) fun b o e => Heap.get?_push_of_some _ e, turn_list a _, ⟨_, Heap.get?_push_size _ rfl, rfl, rfl⟩, fun b hb => ?_, q⟩
  have e : b = s1.heap.objs.size := by simpa using hb
  subst e
  exact I1.fpOk (Nat.le_refl _) (I1.hok.fresh (Nat.le_refl _))
theorem pi_tup {l : Expr} {tl : TE} (hl : PE X l tl) : PI X tg l (iTup X.K tl) := by
  intro pins s σ H R I h
  refine thn (hl pins s σ H _ I h) fun v s1 ⟨x, H1, I1, r1, q1⟩ => ?_
  obtain ⟨a, e, ⟨xs, hq⟩, q⟩ := q1
  subst e
  cases r1
  obtain ⟨its, rv, p, hz⟩ := I1.tuple hq
  refine wpAny_pyIter_tuple (show s1.heap.IsTuple a its.toArray from p) ?_
  refine ⟨s1.heap.objs.size, [s1.heap.objs.size], _, _, H1, rfl, I1.kept (t' := s1.toks) fun b o e => Heap.get?_push_of_some _ e, turn_tuple a _, ⟨_, Heap.get?_push_size _ rfl, rfl, rfl⟩, fun b hb => ?_, q⟩
  have e : b = s1.heap.objs.size := by simpa using hb
  subst e
  exact I1.fpOk (Nat.le_refl _) (I1.hok.fresh (Nat.le_refl _))
theorem range_it {pins : List (Addr × Obj)} {σ : St} {H : Hp} {s : Shared} {R : It → Hp → Prop} {E : Value → Shared → Prop} {lo hi : Int} {t u v : Tok} {tk : Nat} (I : Inv X pins σ H s) (h1 : -(2 ^ 62) ≤ lo) (h2 : lo < 2 ^ 62) (h3 : -(2 ^ 62) ≤ hi) (h4 : hi < 2 ^ 62)
    (q : R (Itr lo (hi - lo).toNat) H) : wpAny (model X.prog X.w) X.A (pyIter (.ref s.heap.objs.size)) (PIE X pins σ tg R) E { s with heap := s.heap.push { cls := .type "range", data := .fields #[.int lo t, .int hi u, .int 1 v] }, toks := tk } := by
  refine wpAny_pyIter_range (IsRange.new ..) (small_one h1 h2 h3 h4) ?_
  have I1 : Inv X pins σ H { s with heap := s.heap.push { cls := .type "range", data := .fields #[.int lo t, .int hi u, .int 1 v] }, toks := tk } := I.kept fun b o e => Heap.get?_push_of_some _ e
  refine ⟨(s.heap.push { cls := .type "range", data := .fields #[.int lo t, .int hi u, .int 1 v] }).objs.size, [(s.heap.push { cls := .type "range", data := .fields #[.int lo t, .int hi u, .int 1 v] }).objs.size], _, _, H, rfl,
    I1.kept (t' := tk) fun b o e => Heap.get?_push_of_some _ e, turn_range _ lo (hi - lo).toNat, ?_, fun b hb => ?_, q⟩
  · have e1 : lo + ((0 : Nat) : Int) * 1 = lo := by simp
    have e2 : (((hi - lo).toNat : Nat) : Int) - ((0 : Nat) : Int) = Builtin.Range.rangeSize lo hi 1 := by rw [rangeSize_one]; split <;> omega
    show IsRangeIter _ _ (lo + ((0 : Nat) : Int) * 1) ((((hi - lo).toNat : Nat) : Int) - ((0 : Nat) : Int)) 1
    rw [e1, e2]
    exact Heap.get?_push_size _ rfl
  · have e : b = (s.heap.push { cls := .type "range", data := .fields #[.int lo t, .int hi u, .int 1 v] }).objs.size := by simpa using hb
    subst e
    exact I1.fpOk (Nat.le_refl _) (I1.hok.fresh (Nat.le_refl _))
noncomputable def iRng1 (ta : TA) : TI := fun σ H R => ta σ H fun vs H1 => ∃ j : Int, vs = [.int j] ∧ -(2 ^ 62) ≤ j ∧ j < 2 ^ 62 ∧ R (Itr 0 j.toNat) H1
theorem pi_range1 {a : Expr} {ta : TA} {p pos : Pos} (hg : Gl X "range") (hm : X.mg "range" = none) (ha : PA X [a] ta) (hs : starEach [a] X.env = [(false, eval a X.env)] := by rfl) : PI X tg (.Call (.Name "range" p) [a] [] pos) (iRng1 ta) := by
  intro pins s σ H R I h
  refine Call_ (ld_blt I hg hm boot_range (PyProof.Rows.callWith_type1 (thn (ha pos pins s σ H _ I h) fun us s1 ⟨vs, H1, I1, r1, q1⟩ => ?_) hs rfl))
  obtain ⟨j, e, q1, q2, q⟩ := q1
  subst e
  cases r1 with
  | cons r rr =>
    cases rr
    obtain ⟨t, rfl⟩ := r
    exact call_range_1 (range_it I1 (by omega) (by omega) q1 q2 (by simpa using q))
noncomputable def tFor (wi : TI) (g : TG) (tb : TS) : TS := fun D σ H => wi σ H fun J H1 => ∃ W : Nat → Nat → St → Hp → Prop, (∃ m, W 0 m σ H1) ∧ ∀ i m σ H, W i m σ H →
  (J.stop i H ∧ D.nx σ H) ∨ (J.go i H ∧ ∃ N : St → Hp → Prop, (∀ σ' H', N σ' H' → ∃ m', m' < m ∧ W (i + 1) m' σ' H') ∧ ∀ x H', J.yld i H x H' → g x σ H' fun σ2 H2 => tb { D with nx := N, ct := N, bk := D.nx } σ2 H2)
noncomputable def pinsAt (fp : List Addr) (h : Heap) : List (Addr × Obj) := fp.filterMap fun b => (h.get? b).map fun o => (b, o)
theorem mem_pinsAt {fp : List Addr} {h : Heap} {b : Addr} {o : Obj} (hb : b ∈ fp) (e : h.get? b = some o) : (b, o) ∈ pinsAt fp h := List.mem_filterMap.mpr ⟨b, hb, by rw [e]; rfl⟩
theorem of_pinsAt {fp : List Addr} {h : Heap} {p : Addr × Obj} (hp : p ∈ pinsAt fp h) : p.1 ∈ fp ∧ h.get? p.1 = some p.2 := by
  obtain ⟨b, hb, e⟩ := List.mem_filterMap.mp hp
  cases q : h.get? b with
  | none => rw [q] at e; cases e
  | some o =>
    rw [q] at e
    have e' : (b, o) = p := Option.some.inj e
    subst e'
    exact ⟨hb, q⟩
theorem Inv.pinned {pins : List (Addr × Obj)} {σ : St} {H : Hp} {s : Shared} {fp : List Addr} (I : Inv X pins σ H s) (hf : ∀ b ∈ fp, FpOk X pins H b) (ho : ∀ b ∈ fp, ∃ o, s.heap.get? b = some o ∧ ∀ v, o.data ≠ .cell v) : Inv X (pins ++ pinsAt fp s.heap) σ H s :=
  I.pins_of fun p hp => (List.mem_append.mp hp).elim (fun z => I.pin p (List.mem_append_right _ z)) fun z => by
    obtain ⟨hb, e⟩ := of_pinsAt z
    obtain ⟨f0, f1, f2, _⟩ := hf p.1 hb
    obtain ⟨o, e', d⟩ := ho p.1 hb
    rw [e] at e'; cases e'
    exact ⟨e, f0, f1, f2, d⟩
theorem Inv.unpinned {pins pl : List (Addr × Obj)} {σ : St} {H : Hp} {s : Shared} (I : Inv X (pins ++ pl) σ H s) : Inv X pins σ H s := I.pins_of fun p hp => I.pin p (List.mem_append_right _ (List.mem_append_left _ hp))
theorem ps_for {iter : Expr} {body : List Stmt} {wi : TI} {g : TG} {tb : TS} {pos : Pos} (hp : PassesOwn (model X.prog X.w) X.A X.env X.xe) (hc : X.calm = true) (hi : PI X tg iter wi) (hg : PG X tg g) (hb : PSs X body tb)
    (hs : ∀ x, foldedSetIterable iter X.env x = pure x := by intro _; rfl) : PS X (.For tg iter body [] pos) (tFor wi g tb) := by
  intro pins s σ H D I h
  refine wpAny_For (thn (hi pins s σ H _ I h) fun v s1 h1 => thn h1 fun itv s2 h2 => ?_) hs
  obtain ⟨it, fp, tn, J, H2, e, I2, T, st2, f2, W, ⟨m0, w0⟩, turn⟩ := h2
  subst e
  -- what stays true of the iterator's objects through the loop
  have stat : ∀ {H' : Hp}, (∀ b ∈ fp, H' b = none) → ∀ b ∈ fp, FpOk X pins H' b := fun hn b hb => ⟨hn b hb, (f2 b hb).2⟩
  refine codeAny_forLoop_any (fun n s' => ∃ i σ' H', Inv X pins σ' H' s' ∧ tn i s'.heap ∧ (∀ b ∈ fp, H' b = none) ∧ W i n σ' H') ?_ m0 ⟨0, σ, H2, I2, st2, fun b hb => (f2 b hb).1, w0⟩
  rintro n s3 ⟨i, σ3, H3, I3, st3, fr3, w3⟩
  rcases turn i n σ3 H3 w3 with ⟨stop, qn⟩ | ⟨go, N, hN, step⟩
  · refine wpAny_passesOwn hp (thn (T.done X rfl rfl rfl hc i pins s3 σ3 H3 X.xe I3 (stat fr3) st3 stop) fun r s4 ⟨hr, I4⟩ => ?_)
    subst hr
    exact wpAny_execs_nil ⟨σ3, H3, I4, qn⟩
  · refine wpAny_passesOwn hp (thn (T.item X rfl rfl rfl hc i pins s3 σ3 H3 X.xe I3 (stat fr3) st3 go) fun r s4 ⟨u, hr, h4⟩ => ?_)
    subst hr
    refine wpAny_passesOwn hp (thn h4 fun _ s5 ⟨x, H5, I5, r5, y5, st5, fr5⟩ => ?_)
    have I5' := I5.pinned (stat fr5) (T.obj _ _ st5)
    refine wpAny_passesOwn hp (thn (hg _ s5 σ3 H5 x u _ I5' r5 (step x H5 y5)) fun _ s6 ⟨σ6, H6, I6, q6⟩ => ?_)
    refine wpAny_passesOwn hp (thn (hb _ s6 σ6 H6 _ I6 q6) fun f s7 q7 => ?_)
    have again : ∀ {σ7 : St} {H7 : Hp}, Inv X (pins ++ pinsAt fp s5.heap) σ7 H7 s7 → N σ7 H7 → ∃ m, m < n ∧ ∃ i σ' H', Inv X pins σ' H' s7 ∧ tn i s7.heap ∧ (∀ b ∈ fp, H' b = none) ∧ W i m σ' H' := fun {σ7 H7} I7 n7 => by
      obtain ⟨m', hm, w7⟩ := hN σ7 H7 n7
      refine ⟨m', hm, i + 1, σ7, H7, I7.unpinned, T.keep _ _ _ st5 fun b hb o e => (I7.pin (b, o) (List.mem_append_right _ (List.mem_append_right _ (mem_pinsAt hb e)))).1, fun b hb => ?_, w7⟩
      obtain ⟨o, e, d⟩ := T.obj _ _ st5 b hb
      exact (I7.pin (b, o) (List.mem_append_right _ (List.mem_append_right _ (mem_pinsAt hb e)))).2.1
    cases f with
    | next => obtain ⟨σ7, H7, I7, n7⟩ := q7; exact again I7 n7
    | cont => obtain ⟨σ7, H7, I7, n7⟩ := q7; exact again I7 n7
    | brk => obtain ⟨σ7, H7, I7, q7⟩ := q7; exact ⟨σ7, H7, I7.unpinned, q7⟩
    | ret v => obtain ⟨x7, σ7, H7, I7, r7, q7⟩ := q7; exact ⟨x7, σ7, H7, I7.unpinned, r7, q7⟩
end

theorem for_list {K : PySem.W.Frag} {a : Addr} {xs : List V} {g : TG} {tb : TS} {D : Ends} {σ : St} {H : Hp} (Pv : Nat → St → Hp → Prop) (h0 : Pv 0 σ H) (hl : ∀ i σ H, i ≤ xs.length → Pv i σ H → SqL K H a xs)
    (hs : ∀ i x σ H, xs[i]? = some x → Pv i σ H → g x σ H fun σ2 H2 => tb { D with nx := Pv (i + 1), ct := Pv (i + 1), bk := D.nx } σ2 H2) (hd : ∀ σ H, Pv xs.length σ H → D.nx σ H) :
    ∃ W : Nat → Nat → St → Hp → Prop, (∃ m, W 0 m σ H) ∧ ∀ i m σ H, W i m σ H →
      ((Itl K a).stop i H ∧ D.nx σ H) ∨ ((Itl K a).go i H ∧ ∃ N : St → Hp → Prop, (∀ σ' H', N σ' H' → ∃ m', m' < m ∧ W (i + 1) m' σ' H') ∧ ∀ x H', (Itl K a).yld i H x H' → g x σ H' fun σ2 H2 => tb { D with nx := N, ct := N, bk := D.nx } σ2 H2) := by
  refine ⟨fun i m σ H => m = xs.length - i ∧ i ≤ xs.length ∧ Pv i σ H, ⟨xs.length, by simp, Nat.zero_le _, h0⟩, ?_⟩
  rintro i m σ H ⟨rfl, hi, p⟩
  have q := hl i σ H hi p
  by_cases hlt : i < xs.length
  · refine .inr ⟨⟨xs, xs[i], q, by simp [hlt]⟩, Pv (i + 1), fun σ' H' p' => ⟨xs.length - (i + 1), by omega, rfl, hlt, p'⟩, fun x H' y => ?_⟩
    obtain ⟨e, y⟩ := y
    subst e
    exact hs i x σ _ (y xs q) p
  · have e : i = xs.length := by omega
    subst e
    exact .inl ⟨⟨xs, q, Nat.le_refl _⟩, hd σ H p⟩
theorem for_tup {K : PySem.W.Frag} {a : Addr} {xs : List V} {g : TG} {tb : TS} {D : Ends} {σ : St} {H : Hp} (Pv : Nat → St → Hp → Prop) (h0 : Pv 0 σ H) (hl : ∀ i σ H, i ≤ xs.length → Pv i σ H → SqT K H a xs)
    (hs : ∀ i x σ H, xs[i]? = some x → Pv i σ H → g x σ H fun σ2 H2 => tb { D with nx := Pv (i + 1), ct := Pv (i + 1), bk := D.nx } σ2 H2) (hd : ∀ σ H, Pv xs.length σ H → D.nx σ H) :
    ∃ W : Nat → Nat → St → Hp → Prop, (∃ m, W 0 m σ H) ∧ ∀ i m σ H, W i m σ H →
      ((Itt K a).stop i H ∧ D.nx σ H) ∨ ((Itt K a).go i H ∧ ∃ N : St → Hp → Prop, (∀ σ' H', N σ' H' → ∃ m', m' < m ∧ W (i + 1) m' σ' H') ∧ ∀ x H', (Itt K a).yld i H x H' → g x σ H' fun σ2 H2 => tb { D with nx := N, ct := N, bk := D.nx } σ2 H2) := by
  refine ⟨fun i m σ H => m = xs.length - i ∧ i ≤ xs.length ∧ Pv i σ H, ⟨xs.length, by simp, Nat.zero_le _, h0⟩, ?_⟩
  rintro i m σ H ⟨rfl, hi, p⟩
  have q := hl i σ H hi p
  by_cases hlt : i < xs.length
  · refine .inr ⟨⟨xs, xs[i], q, by simp [hlt]⟩, Pv (i + 1), fun σ' H' p' => ⟨xs.length - (i + 1), by omega, rfl, hlt, p'⟩, fun x H' y => ?_⟩
    obtain ⟨e, y⟩ := y
    subst e
    exact hs i x σ _ (y xs q) p
  · have e : i = xs.length := by omega
    subst e
    exact .inl ⟨⟨xs, q, Nat.le_refl _⟩, hd σ H p⟩
theorem for_range {lo : Int} {n : Nat} {g : TG} {tb : TS} {D : Ends} {σ : St} {H : Hp} (Pv : Nat → St → Hp → Prop) (h0 : Pv 0 σ H)
    (hs : ∀ i σ H, i < n → Pv i σ H → g (.int (lo + i)) σ H fun σ2 H2 => tb { D with nx := Pv (i + 1), ct := Pv (i + 1), bk := D.nx } σ2 H2) (hd : ∀ σ H, Pv n σ H → D.nx σ H) :
    ∃ W : Nat → Nat → St → Hp → Prop, (∃ m, W 0 m σ H) ∧ ∀ i m σ H, W i m σ H →
      ((Itr lo n).stop i H ∧ D.nx σ H) ∨ ((Itr lo n).go i H ∧ ∃ N : St → Hp → Prop, (∀ σ' H', N σ' H' → ∃ m', m' < m ∧ W (i + 1) m' σ' H') ∧ ∀ x H', (Itr lo n).yld i H x H' → g x σ H' fun σ2 H2 => tb { D with nx := N, ct := N, bk := D.nx } σ2 H2) := by
  refine ⟨fun i m σ H => m = n - i ∧ i ≤ n ∧ Pv i σ H, ⟨n, by simp, Nat.zero_le _, h0⟩, ?_⟩
  rintro i m σ H ⟨rfl, hi, p⟩
  by_cases hlt : i < n
  · refine .inr ⟨hlt, Pv (i + 1), fun σ' H' p' => ⟨n - (i + 1), by omega, rfl, hlt, p'⟩, fun x H' y => ?_⟩
    obtain ⟨e, y⟩ := y
    subst e y
    exact hs i σ _ hlt p
  · have e : i = n := by omega
    subst e
    exact .inl ⟨Nat.le_refl _, hd σ H p⟩
end L2

namespace L2
open PySem PySem.Spec PyProof.Rows

noncomputable abbrev R2 := V → V → Hp → VK → Prop
noncomputable def OpR (X : Cx) (f : Value → Value → Sem Value) (r : R2) : Prop :=
  ∀ (pins : List (Addr × Obj)) (s : Shared) (σ : St) (H : Hp) (x y : V) (v u : Value) (Q : VK), Inv X pins σ H s → RelV x v → RelV y u → r x y H Q →
    wpAny (model X.prog X.w) X.A (f v u) (EP X pins σ Q) X.xe s
noncomputable def UnR (X : Cx) (f : Value → Sem Value) (r : V → Hp → VK → Prop) : Prop :=
  ∀ (pins : List (Addr × Obj)) (s : Shared) (σ : St) (H : Hp) (x : V) (v : Value) (Q : VK), Inv X pins σ H s → RelV x v → r x H Q →
    wpAny (model X.prog X.w) X.A (f v) (EP X pins σ Q) X.xe s
noncomputable def CallR (X : Cx) (f : Value) (r : List V → Hp → VK → Prop) : Prop :=
  ∀ (pins : List (Addr × Obj)) (s : Shared) (σ : St) (H : Hp) (xs : List V) (us : List Value) (Q : VK), Inv X pins σ H s → Vals xs us → r xs H Q →
    wpAny (model X.prog X.w) X.A (call f us) (EP X pins σ Q) X.xe s
noncomputable def tOp (r : R2) (ta tb : TE) : TE := fun σ H Q => ta σ H fun x H1 => tb σ H1 fun y H2 => r x y H2 Q
noncomputable def tUn (r : V → Hp → VK → Prop) (ta : TE) : TE := fun σ H Q => ta σ H fun x H1 => r x H1 Q
noncomputable def rI (C : Int → Int → Prop) (g : Int → Int → V) : R2 := fun x y H Q => ∃ i j, x = .int i ∧ y = .int j ∧ C i j ∧ Q (g i j) H
noncomputable def rI0 (g : Int → Int → V) : R2 := fun x y H Q => ∃ i j, x = .int i ∧ y = .int j ∧ Q (g i j) H
noncomputable def rU (g : Int → V) : V → Hp → VK → Prop := fun x H Q => ∃ i, x = .int i ∧ Q (g i) H

section
variable {X : Cx} {a b c : Expr} {ta tb tc : TE} {pos : Pos}

theorem binT (ha : PE X a ta) (hb : PE X b tb) {pins : List (Addr × Obj)} {s : Shared} {σ : St} {H : Hp} {R : V → V → Hp → Prop} (I : Inv X pins σ H s)
    (h : ta σ H fun x H1 => tb σ H1 fun y H2 => R x y H2) {Q : Value → Shared → Prop} {f : Value → Value → Sem Value}
    (hf : ∀ v u s2 x y H2, Inv X pins σ H2 s2 → RelV x v → RelV y u → R x y H2 → wpAny (model X.prog X.w) X.A (f v u) Q X.xe s2) :
    wpAny (model X.prog X.w) X.A (eval a X.env) (fun v s₁ => wpAny (model X.prog X.w) X.A (eval b X.env) (fun u s₂ => wpAny (model X.prog X.w) X.A (f v u) Q X.xe s₂) X.xe s₁) X.xe s := by
  refine thn (ha pins s σ H _ I h) fun v s1 ⟨x, H1, I1, r1, q1⟩ => ?_
  refine thn (hb pins s1 σ H1 _ I1 q1) fun u s2 ⟨y, H2, I2, r2, q2⟩ => ?_
  exact hf v u s2 x y H2 I2 r1 r2 q2

theorem pe_op {op : Operator} {r : R2} (ho : OpR X (binaryOp op) r) (ha : PE X a ta) (hb : PE X b tb) : PE X (.BinOp a op b pos) (tOp r ta tb) := by
  intro pins s σ H Q I h
  exact wpAny_BinOp (binT ha hb I h fun v u s2 x y H2 I2 rx ry q => ho pins s2 σ H2 x y v u Q I2 rx ry q)
theorem pe_un {op : UnaryOp} {r : V → Hp → VK → Prop} (ho : UnR X (unaryOp op) r) (ha : PE X a ta) : PE X (.UnaryOp op a pos) (tUn r ta) := by
  intro pins s σ H Q I h
  exact UnaryOp_ (thn (ha pins s σ H _ I h) fun v s1 ⟨x, H1, I1, r1, q1⟩ => ho pins s1 σ H1 x v Q I1 r1 q1)
theorem opI {f : Value → Value → Sem Value} {C : Int → Int → Prop} {g : Int → Int → Int}
    (rule : ∀ (i j : Int) (t u : Tok) (s : Shared) (Q : Value → Shared → Prop) (E : Value → Shared → Prop), C i j → Q (.int (g i j) s.toks) { s with toks := s.toks + 1 } → wpAny (model X.prog X.w) X.A (f (.int i t) (.int j u)) Q E s) :
    OpR X f (rI C fun i j => .int (g i j)) := by
  intro pins s σ H x y v u Q I rx ry h
  obtain ⟨i, j, rfl, rfl, hc, q⟩ := h
  obtain ⟨t, rfl⟩ := rx
  obtain ⟨t', rfl⟩ := ry
  exact rule i j t t' s _ _ hc ⟨.int (g i j), H, I.tok _, ⟨_, rfl⟩, q⟩
theorem opI0 {f : Value → Value → Sem Value} {g : Int → Int → Int}
    (rule : ∀ (i j : Int) (t u : Tok) (s : Shared) (Q : Value → Shared → Prop) (E : Value → Shared → Prop), Q (.int (g i j) s.toks) { s with toks := s.toks + 1 } → wpAny (model X.prog X.w) X.A (f (.int i t) (.int j u)) Q E s) :
    OpR X f (rI0 fun i j => .int (g i j)) := by
  intro pins s σ H x y v u Q I rx ry h
  obtain ⟨i, j, rfl, rfl, q⟩ := h
  obtain ⟨t, rfl⟩ := rx
  obtain ⟨t', rfl⟩ := ry
  exact rule i j t t' s _ _ ⟨.int (g i j), H, I.tok _, ⟨_, rfl⟩, q⟩
theorem opB0 {f : Value → Value → Sem Value} {g : Int → Int → Bool}
    (rule : ∀ (i j : Int) (t u : Tok) (s : Shared) (Q : Value → Shared → Prop) (E : Value → Shared → Prop), Q (.bool (g i j)) s → wpAny (model X.prog X.w) X.A (f (.int i t) (.int j u)) Q E s) :
    OpR X f (rI0 fun i j => .bl (g i j)) := by
  intro pins s σ H x y v u Q I rx ry h
  obtain ⟨i, j, rfl, rfl, q⟩ := h
  obtain ⟨t, rfl⟩ := rx
  obtain ⟨t', rfl⟩ := ry
  exact rule i j t t' s _ _ ⟨.bl (g i j), H, I, rfl, q⟩

noncomputable def CPow (i j : Int) : Prop := 0 ≤ j ∧ j ≤ 1000000 ∧ i.natAbs < 2 ^ 64
theorem op_add : OpR X (binaryOp .Add) (rI0 fun i j => .int (i + j)) := opI0 fun _ _ _ _ _ _ _ q => add_int q
theorem op_sub : OpR X (binaryOp .Sub) (rI0 fun i j => .int (i - j)) := opI0 fun _ _ _ _ _ _ _ q => sub_int q
theorem op_mod : OpR X (binaryOp .Mod) (rI (fun _ j => 0 < j) fun i j => .int (i % j)) := opI fun i j _ _ _ _ _ hc q => by
  have h1 : (0 : Int) < j := hc
  exact mod_int' (by omega) (by rw [Int.fmod_eq_emod_of_nonneg i (by omega)]; exact q)
theorem op_pow : OpR X (binaryOp .Pow) (rI CPow fun i j => .int (i ^ j.toNat)) := opI fun _ _ _ _ _ _ _ hc q => pow_int_small hc.1 hc.2.1 hc.2.2 q
theorem unI {f : Value → Sem Value} {g : Int → Int}
    (rule : ∀ (i : Int) (t : Tok) (s : Shared) (Q : Value → Shared → Prop) (E : Value → Shared → Prop), Q (.int (g i) s.toks) { s with toks := s.toks + 1 } → wpAny (model X.prog X.w) X.A (f (.int i t)) Q E s) :
    UnR X f (rU fun i => .int (g i)) := by
  intro pins s σ H x v Q I rx h
  obtain ⟨i, rfl, q⟩ := h
  obtain ⟨t, rfl⟩ := rx
  exact rule i t s _ _ ⟨.int (g i), H, I.tok _, ⟨_, rfl⟩, q⟩
theorem un_neg : UnR X (unaryOp .USub) (rU fun i => .int (-i)) := unI fun _ _ _ _ _ q => neg_int q
end

noncomputable def scal : V → V → Bool
  | .non, .non => true | .non, .int _ => true | .int _, .non => true | .non, .bl _ => true | .bl _, .non => true | .non, .str _ => true | .str _, .non => true
  | .int _, .int _ => true | .bl _, .bl _ => true | .str _, .str _ => true | .byt _, .byt _ => true
  | .int _, .str _ => true | .str _, .int _ => true | .bl _, .str _ => true | .str _, .bl _ => true
  | _, _ => false
noncomputable def rEq : R2 := fun x y H Q => scal x y = true ∧ Q (.bl (decide (x = y))) H
noncomputable def rNe : R2 := fun x y H Q => scal x y = true ∧ Q (.bl (!decide (x = y))) H

theorem dec_int {i j : Int} : decide (V.int i = V.int j) = (i == j) := by
  rw [Bool.eq_iff_iff]
  simp
theorem dec_bl {i j : Bool} : decide (V.bl i = V.bl j) = (i == j) := by
  rw [Bool.eq_iff_iff]
  simp
theorem dec_str {i j : Str} : decide (V.str i = V.str j) = (i == j) := by
  rw [Bool.eq_iff_iff]
  simp
theorem dec_byt {i j : Array UInt8} : decide (V.byt i = V.byt j) = (i.toList == j.toList) := by
  rw [Bool.eq_iff_iff]
  cases i
  cases j
  simp

section
variable {X : Cx} {a b c : Expr} {ta tb tc : TE} {pos : Pos}
theorem fin_bl {pins : List (Addr × Obj)} {σ : St} {H : Hp} {s : Shared} {Q : VK} {k k' : Bool} (I : Inv X pins σ H s) (q : Q (.bl k) H) (e : k = k') : EP X pins σ Q (.bool k') s := by
  subst e
  exact ⟨.bl k, H, I, rfl, q⟩
theorem op_eq : OpR X (compareOp .Eq) rEq := by
  intro pins s σ H x y v u Q I rx ry h
  obtain ⟨hs, q⟩ := h
  cases x with
  | non =>
    cases rx
    cases y with
    | non => cases ry; exact PySem.EqNone.eq_none_none (fin_bl I q (by simp))
    | bl j => cases ry; exact PySem.EqNone.eq_none_bool (fin_bl I q (by simp))
    | int j => obtain ⟨t', rfl⟩ := ry; exact PySem.EqNone.eq_none_int (fin_bl I q (by simp))
    | str j => obtain ⟨t', rfl⟩ := ry; exact PySem.EqNone.eq_none_str (fin_bl I q (by simp))
    | _ => exact absurd (show false = true from hs) Bool.false_ne_true
  | bl i =>
    cases rx
    cases y with
    | non => cases ry; exact PySem.EqNone.eq_bool_none (fin_bl I q (by simp))
    | bl j => cases ry; exact eq_bool (fin_bl I q dec_bl)
    | str j => obtain ⟨t', rfl⟩ := ry; exact PySem.EqMixed.eq_bool_str (fin_bl I q (by simp))
    | _ => exact absurd (show false = true from hs) Bool.false_ne_true
  | int i =>
    obtain ⟨t, rfl⟩ := rx
    cases y with
    | non => cases ry; exact PySem.EqNone.eq_int_none (fin_bl I q (by simp))
    | int j => obtain ⟨t', rfl⟩ := ry; exact eq_int (fin_bl I q dec_int)
    | str j => obtain ⟨t', rfl⟩ := ry; exact PySem.EqMixed.eq_int_str (fin_bl I q (by simp))
    | _ => exact absurd (show false = true from hs) Bool.false_ne_true
  | str i =>
    obtain ⟨t, rfl⟩ := rx
    cases y with
    | non => cases ry; exact PySem.EqNone.eq_str_none (fin_bl I q (by simp))
    | bl j => cases ry; exact PySem.EqMixed.eq_str_bool (fin_bl I q (by simp))
    | int j => obtain ⟨t', rfl⟩ := ry; exact PySem.EqMixed.eq_str_int (fin_bl I q (by simp))
    | str j => obtain ⟨t', rfl⟩ := ry; exact eq_str (fin_bl I q dec_str)
    | _ => exact absurd (show false = true from hs) Bool.false_ne_true
  | byt i =>
    obtain ⟨t, rfl⟩ := rx
    cases y with
    | byt j => obtain ⟨t', rfl⟩ := ry; exact PySem.W.eq_bytes (fin_bl I q dec_byt)
    | _ => exact absurd (show false = true from hs) Bool.false_ne_true
  | _ => cases y <;> exact absurd (show false = true from hs) Bool.false_ne_true
theorem op_ne : OpR X (compareOp .NotEq) rNe := by
  intro pins s σ H x y v u Q I rx ry h
  obtain ⟨hs, q⟩ := h
  cases x with
  | non =>
    cases rx
    cases y with
    | non => cases ry; exact PySem.EqNone.ne_none_none (fin_bl I q (by simp))
    | bl j => cases ry; exact PySem.EqNone.ne_none_bool (fin_bl I q (by simp))
    | int j => obtain ⟨t', rfl⟩ := ry; exact PySem.EqNone.ne_none_int (fin_bl I q (by simp))
    | str j => obtain ⟨t', rfl⟩ := ry; exact PySem.EqNone.ne_none_str (fin_bl I q (by simp))
    | _ => exact absurd (show false = true from hs) Bool.false_ne_true
  | bl i =>
    cases rx
    cases y with
    | non => cases ry; exact PySem.EqNone.ne_bool_none (fin_bl I q (by simp))
    | bl j => cases ry; exact ne_bool (fin_bl I q (congrArg not dec_bl))
    | str j => obtain ⟨t', rfl⟩ := ry; exact PySem.EqMixed.ne_bool_str (fin_bl I q (by simp))
    | _ => exact absurd (show false = true from hs) Bool.false_ne_true
  | int i =>
    obtain ⟨t, rfl⟩ := rx
    cases y with
    | non => cases ry; exact PySem.EqNone.ne_int_none (fin_bl I q (by simp))
    | int j => obtain ⟨t', rfl⟩ := ry; exact ne_int (fin_bl I q (congrArg not dec_int))
    | str j => obtain ⟨t', rfl⟩ := ry; exact PySem.EqMixed.ne_int_str (fin_bl I q (by simp))
    | _ => exact absurd (show false = true from hs) Bool.false_ne_true
  | str i =>
    obtain ⟨t, rfl⟩ := rx
    cases y with
    | non => cases ry; exact PySem.EqNone.ne_str_none (fin_bl I q (by simp))
    | bl j => cases ry; exact PySem.EqMixed.ne_str_bool (fin_bl I q (by simp))
    | int j => obtain ⟨t', rfl⟩ := ry; exact PySem.EqMixed.ne_str_int (fin_bl I q (by simp))
    | str j => obtain ⟨t', rfl⟩ := ry; exact ne_str (fin_bl I q (congrArg not dec_str))
    | _ => exact absurd (show false = true from hs) Bool.false_ne_true
  | byt i =>
    obtain ⟨t, rfl⟩ := rx
    cases y with
    | byt j => obtain ⟨t', rfl⟩ := ry; exact PySem.W.ne_bytes (fin_bl I q (congrArg not dec_byt))
    | _ => exact absurd (show false = true from hs) Bool.false_ne_true
  | _ => cases y <;> exact absurd (show false = true from hs) Bool.false_ne_true

theorem op_lt : OpR X (compareOp .Lt) (rI0 fun i j => .bl (decide (i < j))) := opB0 fun _ _ _ _ _ _ _ q => lt_int q
theorem op_le : OpR X (compareOp .LtE) (rI0 fun i j => .bl (decide (i ≤ j))) := opB0 fun _ _ _ _ _ _ _ q => le_int q
theorem op_gt : OpR X (compareOp .Gt) (rI0 fun i j => .bl (decide (j < i))) := opB0 fun _ _ _ _ _ _ _ q => gt_int q
theorem op_ge : OpR X (compareOp .GtE) (rI0 fun i j => .bl (decide (j ≤ i))) := opB0 fun _ _ _ _ _ _ _ q => ge_int q
theorem op_in_str : OpR X (compareOp .In) (fun x y H Q => ∃ i j, x = .str i ∧ y = .str j ∧ Q (.bl (!(Builtin.Str.occurrences j i 0 j.length 1).isEmpty)) H) := by
  intro pins s σ H x y v u Q I rx ry h
  obtain ⟨i, j, rfl, rfl, q⟩ := h
  obtain ⟨t, rfl⟩ := rx
  obtain ⟨t', rfl⟩ := ry
  exact in_str (fin_bl I q rfl)

theorem nomark (b : Expr) {op : CmpOp} (h : op ≠ .In := by decide) (h2 : op ≠ .NotIn := by decide) : behindInMarks op b = false := by
  have e1 : (op == CmpOp.In) = false := by cases op <;> first | rfl | exact absurd rfl h
  have e2 : (op == CmpOp.NotIn) = false := by cases op <;> first | rfl | exact absurd rfl h2
  cases b <;> simp [behindInMarks, e1, e2]
theorem pe_cmpR {op : CmpOp} {r : R2} (ho : OpR X (compareOp op) r) (ha : PE X a ta) (hb : PE X b tb) (hm : behindInMarks op b = false) : PE X (.Compare a [op] [b] pos) (tOp r ta tb) := by
  intro pins s σ H Q I h
  exact wpAny_Compare1 (binT ha hb I h fun v u s2 x y H2 I2 rx ry q => ho pins s2 σ H2 x y v u Q I2 rx ry q) hm
noncomputable def tTest (t : TE) : TT := fun σ H Q => t σ H fun x H' => ∃ k, x = .bl k ∧ Q k H'
theorem pt_cmpR {op : CmpOp} {r : R2} (ho : OpR X (compareOp op) r) (ha : PE X a ta) (hb : PE X b tb) (hm : behindInMarks op b = false) : PT X (.Compare a [op] [b] pos) (tTest (tOp r ta tb)) := by
  intro pins s σ H Q I h
  refine wpAny_isTrue_Compare1 (thn (ha pins s σ H _ I h) fun v s1 ⟨x, H1, I1, r1, q1⟩ => thn (hb pins s1 σ H1 _ I1 q1) fun u s2 ⟨y, H2, I2, r2, q2⟩ =>
    thn (ho pins s2 σ H2 x y v u _ I2 r1 r2 q2) fun c s3 ⟨z, H3, I3, r3, k, e, q3⟩ => ?_) hm
  subst e
  cases r3
  exact wpAny_truthy_bool ⟨H3, I3, q3⟩
theorem line63 : (sizeLine : Nat) < 2 ^ 63 := by rw [sizeLine_eq]; decide
theorem op_add_str : OpR X (binaryOp .Add) (fun x y H Q => ∃ i j, x = .str i ∧ y = .str j ∧ i.length + j.length ≤ sizeLine ∧ Q (.str (i ++ j)) H) := by
  intro pins s σ H x y v u Q I rx ry h
  obtain ⟨i, j, rfl, rfl, hz, q⟩ := h
  obtain ⟨t, rfl⟩ := rx
  obtain ⟨t', rfl⟩ := ry
  exact add_str (fun t' tk => ⟨.str (i ++ j), H, I.tok _, ⟨_, rfl⟩, q⟩) hz
theorem vals1 {x : V} {us : List Value} (r : Vals [x] us) : ∃ u, us = [u] ∧ RelV x u := by
  cases r with
  | cons r1 r2 => cases r2; exact ⟨_, rfl, r1⟩
theorem vals2 {x y : V} {us : List Value} (r : Vals [x, y] us) : ∃ u w', us = [u, w'] ∧ RelV x u ∧ RelV y w' := by
  cases r with
  | cons r1 r2 =>
    cases r2 with
    | cons r3 r4 => cases r4; exact ⟨_, _, rfl, r1, r3⟩
theorem call_int1 : CallR X (.type "int") (fun xs H Q => (∃ i, xs = [.int i] ∧ Q (.int i) H) ∨ ∃ k, xs = [.bl k] ∧ Q (.int (if k then 1 else 0)) H) := by
  intro pins s σ H xs us Q I r h
  rcases h with ⟨i, rfl, q⟩ | ⟨k, rfl, q⟩
  · obtain ⟨u, rfl, t, rfl⟩ := vals1 r
    exact call_int_int ⟨.int i, H, I, ⟨_, rfl⟩, q⟩
  · obtain ⟨u, rfl, r1⟩ := vals1 r
    cases r1
    exact call_int_bool ⟨.int (if k then 1 else 0), H, I.tok _, ⟨_, rfl⟩, q⟩
theorem call_str_int : CallR X (.type "str") (fun xs H Q => ∃ i, xs = [.int i] ∧ i.natAbs.log2 < 1920 ∧ Q (.str (toString i)) H) := by
  intro pins s σ H xs us Q I r h
  obtain ⟨i, rfl, hz, q⟩ := h
  obtain ⟨u, rfl, t, rfl⟩ := vals1 r
  exact PySem.P.str_of_int hz ⟨.str _, H, I.tok _, ⟨_, rfl⟩, q⟩
end
end L2

namespace L2
open PySem PySem.Spec PyProof.Rows

section
variable {prog : Program} {w : World} {A : Around} {E : Value → Shared → Prop} {s : Shared} {K : PySem.W.Frag} {x dx C f : Addr} {mA : Str → Option Value} {name : Str} {v : Value}

end

theorem RelO.some_of {v : V} {o : Option Value} (r : RelO (some v) o) : ∃ u, o = some u ∧ RelV v u := by
  cases o with
  | none => exact (show False from r).elim
  | some u => exact ⟨u, rfl, r⟩
section
variable {P : Program} {w : World} {H H' : Hp} {h h' : Heap} {a C dx : Addr} {fs fs' : List (Str × V)}
end

section
variable {X : Cx} {pins : List (Addr × Obj)} {σ : St} {H : Hp} {s : Shared} {a C dx : Addr} {fs : List (Str × V)} {f : Str} {v : V} {A : Around} {E : Value → Shared → Prop}

end

section
variable {X : Cx} {o e value : Expr} {f : Str} {pos pos' tpos : Pos} {ta tv : TE}
end

section
variable {X : Cx} {pins : List (Addr × Obj)} {σ : St} {H : Hp} {s : Shared} {A : Around} {E : Value → Shared → Prop} {Q : Value → Shared → Prop} {c : Value} {b : Bool}
end
end L2

namespace L2
open PySem PySem.Spec PyProof.Rows

structure Room (k : Nat) (A : Around) : Prop where
  hd : A.handled = none
  dp : A.depth + 3 * k + 5 < recursionLimit
  un : A.units + 16 * k + 200 < cLine
theorem Room.mono {j k : Nat} {A : Around} (r : Room k A) (h : j ≤ k) : Room j A := ⟨r.hd, by have := r.dp; omega, by have := r.un; omega⟩
theorem Room.deeper {k : Nat} {A : Around} (r : Room (k + 1) A) (env : Env) : Room k (A.deeper env) :=
  ⟨r.hd, by have := r.dp; show A.depth + 1 + 3 * k + 5 < _; omega, by have := r.un; show A.units + 3 + 16 * k + 200 < _; omega⟩
theorem Room.depth {k : Nat} {A : Around} (r : Room k A) : A.depth < recursionLimit := by have := r.dp; omega
theorem Room.units {k : Nat} {A : Around} (r : Room k A) : A.units + 64 < cLine := by have := r.un; omega
noncomputable def tNil : TA := fun _ H Q => Q [] H
noncomputable def tCons (ta : TE) (tr : TA) : TA := fun σ H Q => ta σ H fun x H1 => tr σ H1 fun xs H2 => Q (x :: xs) H2
section
variable {X : Cx} {e : Expr} {es : List Expr} {te : TE} {t : TA} {pos : Pos}
theorem pa_nil : PA X [] tNil := fun _ _ _ _ H Q I h => Calls.spliced_nil ⟨[], H, I, .nil, h⟩
theorem pa_cons (ha : PE X e te) (hr : PA X es t) (hs : starEach (e :: es) X.env = (false, eval e X.env) :: starEach es X.env := by rfl) : PA X (e :: es) (tCons te t) := by
  intro pos pins s σ H Q I h
  rw [hs]
  show wpAny _ _ (spliced ((false, eval e X.env) :: backTo pos (starEach es X.env))) _ _ s
  refine Calls.spliced_cons (thn (ha pins s σ H _ I h) fun u s1 ⟨x, H1, I1, r1, q1⟩ => ?_)
  exact thn (hr pos pins s1 σ H1 _ I1 q1) fun us s2 ⟨xs, H2, I2, r2, q2⟩ => ⟨x :: xs, H2, I2, .cons r1 r2, q2⟩

noncomputable def tTup (t : TA) : TE := fun σ H Q => t σ H fun xs H1 => xs.length ≤ sizeLine ∧ ∀ p, H1 p = none → Q (.ref p) (upd H1 p (.tup xs))
noncomputable def tLst (t : TA) : TE := fun σ H Q => t σ H fun xs H1 => xs.length ≤ sizeLine ∧ ∀ p, H1 p = none → Q (.ref p) (upd H1 p (.lst xs))
theorem pe_tup {x1} (h : PA X es t) : PE X (.Tuple es x1 pos) (tTup t) := by
  intro pins s σ H Q I hq
  refine wpAny_Tuple_spliced (thn (h pos pins s σ H _ I hq) fun us s1 ⟨xs, H1, I1, r, z, q⟩ => ⟨by rw [← r.length]; exact z, ?_⟩)
  have hf : H1 s1.heap.objs.size = none := I1.hok.fresh (Nat.le_refl _)
  refine ⟨.ref s1.heap.objs.size, upd H1 s1.heap.objs.size (.tup xs), I1.laid (t' := s1.toks) (fun b u e => Heap.get?_push_of_some _ e) (Nat.le_refl _) ?_, rfl, q _ hf⟩
  exact ⟨z, us, r, ⟨_, Heap.get?_push_size _ rfl, rfl, _, rfl, rfl⟩⟩
theorem pe_lst (h : PA X es t) : PE X (.List es pos) (tLst t) := by
  intro pins s σ H Q I hq
  refine wpAny_List_spliced (thn (h pos pins s σ H _ I hq) fun us s1 ⟨xs, H1, I1, r, z, q⟩ => ⟨by rw [← r.length]; exact z, ?_⟩)
  have hf : H1 s1.heap.objs.size = none := I1.hok.fresh (Nat.le_refl _)
  refine ⟨.ref s1.heap.objs.size, upd H1 s1.heap.objs.size (.lst xs), I1.laid (t' := s1.toks) (fun b u e => Heap.get?_push_of_some _ e) (Nat.le_refl _) ?_, rfl, q _ hf⟩
  exact ⟨z, us, 0, r, Heap.get?_push_size _ rfl⟩
end

noncomputable abbrev Sp := List V → Hp → VK → XK → Prop
noncomputable abbrev CXT := List Env → Hp → Shared → XK → Value → Shared → Prop

structure Env0 (P : Program) (w : World) (K : PySem.W.Frag) (mg : Str → Option Value) (base : Heap) (A : Around) (outer : List Env) (s : Shared) (H : Hp) : Prop where
  frames : A.frames = some outer
  mod : Mod K mg base
  bs : ∀ b o, base.get? b = some o → s.heap.get? b = some o ∧ H b = none
  bsz : base.objs.size ≤ s.heap.objs.size
  funs : s.heap.FunFrames base outer
  frf : ∀ b ∈ frs outer, H b = none
  hok : HOk P w H s.heap
  bare : AllBare s.gens
noncomputable def CE (outer : List Env) (P : Program) (w : World) (H : Hp) (s : Shared) (Q : VK) (u : Value) (s' : Shared) : Prop :=
  ∃ v H', s'.os = s.os ∧ AllBare s'.gens ∧ Un (frs outer) [] H H' s.heap s'.heap ∧ HOk P w H' s'.heap ∧ RelV v u ∧ Q v H'
noncomputable def CR (CX : CXT) (outer : List Env) (P : Program) (w : World) (H : Hp) (s : Shared) (Q : VK) (E : XK) (r : Result) (s' : Shared) : Prop :=
  match r with
  | .ok (.ret u) => CE outer P w H s Q u s'
  | .ok _ => False
  | .error e => CX outer H s E e s'
structure FnOk (P : Program) (w : World) (K : PySem.W.Frag) (mg : Str → Option Value) (base : Heap) (CX : CXT) (k : Nat) (f : Addr) (fd : FuncData) (ps : List Str) (sp : Sp) : Prop where
  len : ∀ vs H Q E, sp vs H Q E → vs.length = ps.length
  run : ∀ (A : Around) (outer : List Env) (s : Shared) (H : Hp) (args : Args) (us : List Value) (vs : List V) (Q : VK) (E : XK), Room k A → Env0 P w K mg base A outer s H → BindsTo s fd args (ps.zip us) → Vals vs us → sp vs H Q E →
    codeAny (model P w) A (.call (.ref f) args) (CR CX outer P w H s Q E) s
theorem FnOk.mono {P : Program} {w : World} {K : PySem.W.Frag} {mg : Str → Option Value} {base : Heap} {CX : CXT} {j k : Nat} {f : Addr} {fd : FuncData} {ps : List Str} {sp : Sp} (F : FnOk P w K mg base CX j f fd ps sp) (h : j ≤ k) :
    FnOk P w K mg base CX k f fd ps sp := ⟨F.len, fun A outer s H args us vs Q E hr => F.run A outer s H args us vs Q E (hr.mono h)⟩
section
variable {X : Cx} {pins : List (Addr × Obj)} {σ : St} {H : Hp} {s s' : Shared}
theorem Inv.env0 (I : Inv X pins σ H s) : Env0 X.prog X.w X.K X.mg X.base X.A X.stack s H :=
  ⟨I.ok.frames, I.ok.mod, I.bs, Nat.le_trans I.ok.bsz I.sz, I.stack, I.stkFree, I.hok, I.bare⟩
theorem Inv.after {Q : VK} {u : Value} (I : Inv X pins σ H s) (h : CE X.stack X.prog X.w H s Q u s') : EP X pins σ Q u s' := by
  obtain ⟨v, H', os, bare, un, hok, r, q⟩ := h
  obtain ⟨hh, g, d, t, os'⟩ := s'
  obtain rfl : os' = s.os := os
  exact ⟨v, H', I.call (h' := hh) (g' := g) (d' := d) (t' := t) (ch := []) un hok bare (fun b z => absurd z (by simp)), r, q⟩
end

noncomputable def tCall (sp : Sp) (dvs : List V) (E : XK) (t : TA) : TE := fun σ H Q => t σ H fun vs H1 => sp (vs ++ dvs) H1 Q E
noncomputable def Binds (K : PySem.W.Frag) (fd : FuncData) (ps : List Str) (ds : List Value) : Prop :=
  ∀ (s : Shared) (us : List Value), K.In s.heap → (us ++ ds).length = ps.length → BindsTo s fd ⟨us, []⟩ (ps.zip (us ++ ds))
theorem Binds.all {K : PySem.W.Frag} {fd : FuncData} {ps : List Str} (h : ∀ us : List Value, us.length = ps.length → bindArgs fd ⟨us, []⟩ = pure (ps.zip us)) : Binds K fd ps [] := fun s us _ hl => by
  rw [List.append_nil] at hl ⊢
  exact .of_eq (h us hl)

noncomputable def Passes (CX : CXT) (X : Cx) (E : XK) : Prop := ∀ (pins : List (Addr × Obj)) (σ : St) (H : Hp) (s : Shared) (e : Value) (s' : Shared), Inv X pins σ H s → CX X.stack H s E e s' → X.xe e s'

section
variable {X : Cx} {CX : CXT} {k : Nat} {f C : Addr} {fd : FuncData} {ps : List Str} {sp : Sp} {dvs : List V} {ds : List Value} {E : XK} {x m : Str} {p pos apos : Pos} {e o : Expr} {es : List Expr} {ta : TE} {t : TA}

theorem run_fn {pins : List (Addr × Obj)} {σ : St} {H : Hp} {s : Shared} {Q : VK} {us : List Value} {vs : List V} (F : FnOk X.prog X.w X.K X.mg X.base CX k f fd ps sp) (hr : Room k X.A) (hb : Binds X.K fd ps ds) (hd : Vals dvs ds) (hx : Passes CX X E)
    (I : Inv X pins σ H s) (r : Vals vs us) (h : sp (vs ++ dvs) H Q E) : wpAny (model X.prog X.w) X.A (call (.ref f) us) (EP X pins σ Q) X.xe s := by
  have r2 : Vals (vs ++ dvs) (us ++ ds) := r.append hd
  have hl : (us ++ ds).length = ps.length := by rw [← r2.length]; exact F.len _ _ _ _ h
  refine wpAny_call (codeAny_mono (F.run X.A X.stack s H ⟨us, []⟩ (us ++ ds) (vs ++ dvs) Q E hr I.env0 (hb s us I.kIn hl) r2 h) fun r s' hq => ?_)
  cases r with
  | error e => exact hx pins σ H s e s' I hq
  | ok fl =>
    cases fl with
    | ret u => exact I.after hq
    | next => exact False.elim hq
    | brk => exact False.elim hq
    | cont => exact False.elim hq

theorem pe_call (F : FnOk X.prog X.w X.K X.mg X.base CX k f fd ps sp) (hr : Room k X.A) (hg : Gl X x) (hm : X.mg x = some (.ref f)) (hk : PySem.W.keepIn X.K (.ref f) = true) (hb : Binds X.K fd ps ds) (hd : Vals dvs ds) (hx : Passes CX X E)
    (ha : PA X (e :: es) t) (hdb : (x == ("__debug__" : Str)) = false := by decide) (he : starEach (e :: es) X.env = (false, eval e X.env) :: starEach es X.env := by rfl) (hpl : (backTo pos (starEach es X.env)).any (·.1) = false := by rfl) :
    PE X (.Call (.Name x p) (e :: es) [] pos) (tCall sp dvs E t) := by
  intro pins s σ H Q I h
  refine wpAny_Call_Name_kw (ld_glob I hg hm ?_ hdb)
  refine PySem.W.callWith_K (h₀ := X.base) I.ok.mod.kin hk (thn (ha pos pins s σ H _ I h) fun us s1 ⟨vs, H1, I1, r, q⟩ => ⟨I1.kIn, ?_⟩) he hpl
  exact run_fn F hr hb hd hx I1 r q
end

section
variable {X : Cx} {CX : CXT} {k : Nat} {f C : Addr} {fd : FuncData} {ps ks : List Str} {sp : Sp} {E : XK} {x m : Str} {p pos apos kpos : Pos} {e o : Expr} {es : List Expr} {kws : List Keyword} {te ta : TE} {t tk : TA} {nm : Option Str}
variable {g : List Value → List Value → List Value} {gV : List V → List V → List V}
end

structure FnScope (N P : List Str) (sc : Scope) : Prop where
  kind : sc.kind = .function
  co : sc.isCoroutine = false
  gen : sc.isGenerator = false
  nd : N.Nodup
  pre : N.take P.length = P
  par : ∀ x ∈ P, sc.names.lookup x = some .local ∨ sc.names.lookup x = some .cell
  nofree : ∀ y ∈ sc.names, y.2 ≠ .free

theorem bindL_out {kindOf : Str → Option NameKind} {x : Str} : ∀ {binds : List (Str × Value)} {m : Str → Option Value}, (∀ v, (x, v) ∉ binds) → bindL kindOf binds m x = m x
  | [], _, _ => rfl
  | (n, v) :: r, m, h => by
    unfold bindL
    rw [bindL_out fun w hw => h w (List.mem_cons_of_mem _ hw)]
    split
    · have : x ≠ n := by rintro rfl; exact h v List.mem_cons_self
      simp [this]
    · rfl
theorem bindC_out {kindOf : Str → Option NameKind} {x : Str} : ∀ {binds : List (Str × Value)} {m : Str → Option Value}, (∀ v, (x, v) ∉ binds) → bindC kindOf binds m x = m x
  | [], _, _ => rfl
  | (n, v) :: r, m, h => by
    unfold bindC
    rw [bindC_out fun w hw => h w (List.mem_cons_of_mem _ hw)]
    split
    · rfl
    · have : x ≠ n := by rintro rfl; exact h v List.mem_cons_self
      simp [this]
theorem bindL_get {kindOf : Str → Option NameKind} {x : Str} {v : Value} : ∀ {P : List Str} {vs : List Value} {i : Nat} {m : Str → Option Value}, P.Nodup → P[i]? = some x → vs[i]? = some v → kindOf x = some .local →
    bindL kindOf (P.zip vs) m x = some v
  | [], _, _, _, _, h, _, _ => by simp at h
  | _ :: _, [], _, _, _, _, h, _ => by simp at h
  | p :: P, w :: vs, 0, m, nd, h1, h2, hk => by
    simp at h1 h2; subst h1; subst h2
    show bindL kindOf ((p, w) :: P.zip vs) m p = _
    unfold bindL
    rw [bindL_out fun v hv => (List.nodup_cons.mp nd).1 (List.of_mem_zip hv).1, if_pos hk]
    simp
  | p :: P, w :: vs, i + 1, m, nd, h1, h2, hk => by
    show bindL kindOf ((p, w) :: P.zip vs) m x = _
    unfold bindL
    exact bindL_get (i := i) (List.nodup_cons.mp nd).2 (by simpa using h1) (by simpa using h2) hk
theorem bindC_get {kindOf : Str → Option NameKind} {x : Str} {v : Value} : ∀ {P : List Str} {vs : List Value} {i : Nat} {m : Str → Option Value}, P.Nodup → P[i]? = some x → vs[i]? = some v → kindOf x ≠ some .local →
    bindC kindOf (P.zip vs) m x = some v
  | [], _, _, _, _, h, _, _ => by simp at h
  | _ :: _, [], _, _, _, _, h, _ => by simp at h
  | p :: P, w :: vs, 0, m, nd, h1, h2, hk => by
    simp at h1 h2; subst h1; subst h2
    show bindC kindOf ((p, w) :: P.zip vs) m p = _
    unfold bindC
    rw [bindC_out fun v hv => (List.nodup_cons.mp nd).1 (List.of_mem_zip hv).1, if_neg hk]
    simp
  | p :: P, w :: vs, i + 1, m, nd, h1, h2, hk => by
    show bindC kindOf ((p, w) :: P.zip vs) m x = _
    unfold bindC
    exact bindC_get (i := i) (List.nodup_cons.mp nd).2 (by simpa using h1) (by simpa using h2) hk

noncomputable def start (N : List Str) (vs : List V) : St := vs.map some ++ List.replicate (N.length - vs.length) none

noncomputable def cxOf (CX : CXT) (P : Program) (w : World) (K : PySem.W.Frag) (mg : Str → Option Value) (base : Heap) (N : List Str) (qual : Str) (scope : Scope) (f : Addr) (cd : Value) (A : Around) (outer : List Env) (s : Shared) (H : Hp) (E : XK) : Cx where
  prog := P
  w := w
  K := K
  mg := mg
  base := base
  A := A.deeper (envOfC qual scope s.heap.objs.size f cd)
  N := N
  s₀ := s
  H₀ := H
  env := envOfC qual scope s.heap.objs.size f cd
  outer := outer
  stack := envOfC qual scope s.heap.objs.size f cd :: outer
  ex := []
  calm := true
  fn := fun _ => true
  pn := []
  xe := fun e s' => wpAny (model P w) (A.deeper (envOfC qual scope s.heap.objs.size f cd)) (leaving (envOfC qual scope s.heap.objs.size f cd) e) (fun _ s'' => CX outer H s E e s'') (fun e' s'' => CX outer H s E e' s'') s'

theorem cell_has {sc : Scope} {n : Nat} {x : Str} (h : sc.names.lookup x = some .cell) : ∃ c, (cellsFrom n sc.names []).lookup x = some c := by
  have q := PySem.W.cellsFrom_some sc.names n [] (.inl h)
  exact Option.isSome_iff_exists.mp q

theorem inv_start {CX : CXT} {P : Program} {w : World} {K : PySem.W.Frag} {mg : Str → Option Value} {base : Heap} {N ps : List Str} {qual : Str} {scope : Scope} {f : Addr} {cd : Value} {A : Around} {outer : List Env} {s s1 : Shared} {H : Hp} {E : XK} {us : List Value} {vs : List V}
    (S : FnScope N ps scope) (hd : A.handled = none) (e0 : Env0 P w K mg base A outer s H) (hl : vs.length = ps.length) (r : Vals vs us)
    (x : InCallC s s.heap.objs.size (bindL (envOfC qual scope s.heap.objs.size f cd).kindOf (ps.zip us) fun _ => none) (cellsFrom (s.heap.objs.size + 1) scope.names []) (bindC (envOfC qual scope s.heap.objs.size f cd).kindOf (ps.zip us) fun _ => none) s1) :
    Inv (cxOf CX P w K mg base N qual scope f cd A outer s H E) [] (start N vs) H s1 := by
  have hpl : ps.length ≤ N.length := by have := congrArg List.length S.pre; rw [List.length_take] at this; omega
  obtain ⟨h1, tk, rfl, hk⟩ := x.done
  have noA : ∀ b : Addr, b ∉ (cxOf CX P w K mg base N qual scope f cd A outer s H E).ex := fun b z => absurd (show b ∈ ([] : List Addr) from z) (by simp)
  refine ⟨⟨e0.mod, S.kind, rfl, rfl, Nat.le_refl _, fun y z c h1 h2 => ?_, fun y hy => ?_, fun y c _ h => ?_, fun _ => hd, Around.frames_deeper e0.frames, .inr ⟨rfl, rfl⟩, fun b z => absurd z (noA b), e0.bs, e0.bsz, fun b _ _ => noA b, fun b z => absurd z (noA b), e0.funs, e0.frf⟩,
    rfl, e0.bare, Un.kept hk, ⟨_, x.toInCall.ns, fun i y v h1 h2 h3 => ?_⟩, fun y c h => ⟨_, x.cell y c h⟩, e0.hok.fresh (Nat.le_refl _), fun y c h => ?_, fun p hp => absurd (show p ∈ ([] : List (Addr × Obj)) from hp) (by simp), e0.hok.kept hk, ?_⟩
  · exact name_of_addr x.apart (PySem.mem_of_lookup h1) (PySem.mem_of_lookup h2)
  · have hy : scope.names.lookup y = some .cell ∨ scope.names.lookup y = some .free := hy
    rcases hy with hy | hy
    · exact cell_has hy
    · exact absurd rfl (S.nofree _ (PySem.mem_of_lookup hy))
  · exact Nat.le_of_lt (x.above y c (PySem.mem_of_lookup h))
  · have hi : i < vs.length := by
      unfold start at h2
      by_cases hi : i < vs.length
      · exact hi
      · rw [List.getElem?_append_right (by simpa using hi)] at h2
        rw [List.getElem?_replicate] at h2
        split at h2 <;> cases h2
    have ha : vs[i]? = some v := by
      unfold start at h2
      rw [List.getElem?_append_left (by simpa using hi), List.getElem?_map] at h2
      cases e : vs[i]? with
      | none => rw [e] at h2; cases h2
      | some a => rw [e] at h2; cases h2; rfl
    obtain ⟨u, hu, rv⟩ := r.get ha
    have hp : ps[i]? = some y := by
      rw [← S.pre, List.getElem?_take_of_lt (by omega)]; exact h1
    have ndP : ps.Nodup := by rw [← S.pre]; exact S.nd.sublist (List.take_sublist _ _)
    refine ⟨u, rv, ?_⟩
    rcases S.par y (List.mem_of_getElem? hp) with k | k
    · exact .inl ⟨k, bindL_get ndP hp hu k⟩
    · obtain ⟨c, e⟩ := cell_has (n := s.heap.objs.size + 1) k
      refine .inr ⟨.inl k, c, e, ?_⟩
      have q := x.cell y c e
      rw [bindC_get ndP hp hu (by show scope.names.lookup y ≠ _; rw [k]; decide)] at q
      exact q
  · exact e0.hok.fresh (Nat.le_of_lt (x.above y c (PySem.mem_of_lookup h)))
  · unfold start
    show _ = N.length
    rw [List.length_append, List.length_map, List.length_replicate]
    omega

theorem fn_of {CX : CXT} {P : Program} {w : World} {K : PySem.W.Frag} {mg : Str → Option Value} {base : Heap} {k : Nat} {f : Addr} {name qual : Str} {params : Arguments} {body : List Stmt} {scope : Scope} {dV kV doc pm cdv ct oc : Value} {an od : Option Addr}
    {osl : Array (Option Value)} {N ps : List Str} {sp : Sp} (lk : K.lookup f = some ⟨oc, od, .func (PySem.W.fnOf name qual params body scope dV kV doc pm an cdv ct), osl⟩) (hcd : PySem.W.codeIn K cdv qual = true) (S : FnScope N ps scope)
    (len : ∀ vs H Q E, sp vs H Q E → vs.length = ps.length)
    (hbody : ∀ (A : Around) (outer : List Env) (s : Shared) (H : Hp) (vs : List V) (Q : VK) (E : XK), Room k (A.deeper (envOfC qual scope s.heap.objs.size f cdv)) → sp vs H Q E →
      ∃ t, PSs (cxOf CX P w K mg base N qual scope f cdv A outer s H E) body t ∧ t { nx := fun _ H' => Q .non H', rt := Q } (start N vs) H) :
    FnOk P w K mg base CX (k + 1) f (PySem.W.fnOf name qual params body scope dV kV doc pm an cdv ct) ps sp := by
  refine ⟨len, fun A outer s H args us vs Q E hr e0 hb r hsp => ?_⟩
  have hl := len _ _ _ _ hsp
  have KX : K.In s.heap := e0.mod.kin.keeps fun b o e => (e0.bs b o e).1
  have lim : s.heap.NoLimit := e0.mod.nolimit.keeps fun b o e => (e0.bs b o e).1
  have hkind : ∀ y ∈ ps.zip us, scope.names.lookup y.1 = some .local ∨ (scope.names.lookup y.1 = some .cell ∧ ((cellsFrom (s.heap.objs.size + 1) scope.names []).lookup y.1).isSome = true) := fun ⟨n, v⟩ hy => by
    rcases S.par n (List.of_mem_zip hy).1 with q | q
    · exact .inl q
    · exact .inr ⟨q, PySem.W.cellsFrom_some _ _ _ (.inl q)⟩
  refine codeAny_call_function hr.depth (KX _ _ lk) rfl S.co S.gen rfl (PySem.W.codeRec_of KX hcd) (hb _ _ _ _ ?_)
  refine wpAny_newFunctionEnv_cells S.kind hkind fun env he s1 x => ?_
  subst he
  refine ⟨lim.keeps x.toInCall.keep, codeAny_func ?_⟩
  obtain ⟨t, ht, hq⟩ := hbody A outer s H vs Q E (hr.deeper _) hsp
  have I : Inv (cxOf CX P w K mg base N qual scope f cdv A outer s H E) [] (start N vs) H s1 := inv_start S hr.hd e0 hl r x
  refine wpAny_mono (ht [] s1 (start N vs) H _ I hq) (fun fl s' hs => ?_) fun e s' hs => hs
  have fin : ∀ {σ' : St} {H' : Hp} {v : V} {u : Value}, Inv (cxOf CX P w K mg base N qual scope f cdv A outer s H E) [] σ' H' s' → RelV v u → Q v H' → CE outer P w H s Q u s' :=
    fun {σ' H' v u} J rv q => ⟨v, H', J.os, J.bare, J.base, J.hok, rv, q⟩
  cases fl with
  | ret u =>
    obtain ⟨v, σ', H', J, rv, q⟩ := hs
    exact fin J rv q
  | next =>
    obtain ⟨σ', H', J, q⟩ := hs
    exact fin (v := V.non) (u := Value.none) J rfl q
  | brk =>
    obtain ⟨_, _, _, q⟩ := hs
    exact False.elim q
  | cont =>
    obtain ⟨_, _, _, q⟩ := hs
    exact False.elim q
end L2

namespace L2
open PySem PySem.Spec PyProof.Rows
section
variable {X : Cx} {x : Str} {p pos : Pos} {e : Expr} {es : List Expr} {t : TA} {id T : String} {r : List V → Hp → VK → Prop}

noncomputable def tCB (r : List V → Hp → VK → Prop) (t : TA) : TE := fun σ H Q => t σ H fun vs H1 => r vs H1 Q
theorem pe_callB (hc : CallR X (.builtin id) r) (hg : Gl X x) (hm : X.mg x = none) (hv : bootBuiltins x = some (.builtin id)) (ha : PA X (e :: es) t) (hn : x ≠ "__name__" := by decide) (hdb : (x == ("__debug__" : Str)) = false := by decide)
    (he : starEach (e :: es) X.env = (false, eval e X.env) :: starEach es X.env := by rfl) (hpl : (backTo pos (starEach es X.env)).any (·.1) = false := by rfl) : PE X (.Call (.Name x p) (e :: es) [] pos) (tCB r t) := by
  intro pins s σ H Q I h
  refine wpAny_Call_Name_kw (ld_blt I hg hm hv ?_ hn hdb)
  exact PyProof.Rows.callWith_builtin1 (thn (ha pos pins s σ H _ I h) fun us s1 ⟨vs, H1, I1, r1, q1⟩ => hc pins s1 σ H1 vs us Q I1 r1 q1) he hpl
theorem pe_callTy (hc : CallR X (.type T) r) (hg : Gl X x) (hm : X.mg x = none) (hv : bootBuiltins x = some (.type T)) (ha : PA X (e :: es) t) (hn : x ≠ "__name__" := by decide) (hdb : (x == ("__debug__" : Str)) = false := by decide)
    (he : starEach (e :: es) X.env = (false, eval e X.env) :: starEach es X.env := by rfl) (hpl : (backTo pos (starEach es X.env)).any (·.1) = false := by rfl) : PE X (.Call (.Name x p) (e :: es) [] pos) (tCB r t) := by
  intro pins s σ H Q I h
  refine wpAny_Call_Name_kw (ld_blt I hg hm hv ?_ hn hdb)
  exact PyProof.Rows.callWith_type1 (thn (ha pos pins s σ H _ I h) fun us s1 ⟨vs, H1, I1, r1, q1⟩ => hc pins s1 σ H1 vs us Q I1 r1 q1) he hpl
end
end L2

namespace HT
open PySem PyProof.Rows

section
open PySem.SeqAt
open PySem.AutoSeq1 (wpAny_loadPart')
open PySem.MeetsSeq PySem.MeetsSeq2 PySem.MeetsSeq3

end

section
variable {prog : Program} {w : World} {A : Around} {E : Value → Shared → Prop} {s : Shared}

noncomputable def sIx (n d : Nat) : Option Int → Nat
  | none => d
  | some v => if v < 0 then (v + (n : Int)).toNat else min v.toNat n
theorem sIx_none (n d : Nat) : sIx n d none = d := rfl
theorem sIx_nat (n d k : Nat) : sIx n d (some (k : Int)) = min k n := by
  show (if (k : Int) < 0 then ((k : Int) + (n : Int)).toNat else min (k : Int).toNat n) = min k n
  rw [if_neg (by omega), Int.toNat_natCast]
theorem sIx_le (n d : Nat) (hd : d ≤ n) (o : Option Int) : sIx n d o ≤ n := by
  cases o with
  | none => exact hd
  | some v =>
    show (if v < 0 then (v + (n : Int)).toNat else min v.toNat n) ≤ n
    by_cases hv : v < 0
    · rw [if_pos hv]; omega
    · rw [if_neg hv]; exact Nat.min_le_right _ _
theorem clip_eq (v : Int) (n d : Nat) : (if v < 0 then max (v + (n : Int)) 0 else min v (n : Int)) = ((sIx n d (some v) : Nat) : Int) := by
  show (if v < 0 then max (v + (n : Int)) 0 else min v (n : Int)) = (((if v < 0 then (v + (n : Int)).toNat else min v.toNat n) : Nat) : Int)
  by_cases hv : v < 0
  · simp only [if_pos hv]; omega
  · simp only [if_neg hv]; omega
theorem adjust_gen (lo hi : Option Int) (n : Nat) : Builtin.Slice.sliceAdjust lo hi 1 (n : Int) = (((sIx n 0 lo : Nat) : Int), ((sIx n n hi : Nat) : Int)) := by
  have h1 : ¬ ((1 : Int) < 0) := by omega
  unfold Builtin.Slice.sliceAdjust
  simp only [h1, if_false]
  refine Prod.ext ?_ ?_
  · cases lo with
    | none => rfl
    | some v => exact clip_eq v n 0
  · cases hi with
    | none => rfl
    | some v => exact clip_eq v n n
theorem places_gen (i j : Nat) : Builtin.Slice.slicePlaces (i : Int) (j : Int) 1 = j - i := by
  unfold Builtin.Slice.slicePlaces
  have h1 : (1 : Int) > 0 := by omega
  simp only [h1, if_true, Int.ediv_one]
  split <;> omega
theorem slicePart_ {v : Value} {o : Option Int} {Q : Option Int → Shared → Prop} (p : IsPart v o) (h : Q o s) : wpAny (model prog w) A (Builtin.Slice.slicePartIndex v) Q E s := by
  cases p with
  | none => exact slicePart_none h
  | int i t => exact slicePart_int h
theorem sliceApplied_gen {sl : Addr} {vl vu : Value} {lo hi : Option Int} {n : Nat} {Q : Int × Int × Nat → Shared → Prop} (hs : s.heap.IsSliceOf sl vl vu .none) (pl : IsPart vl lo) (pu : IsPart vu hi)
    (h : Q (((sIx n 0 lo : Nat) : Int), 1, sIx n n hi - sIx n 0 lo) s) : wpAny (model prog w) A (Builtin.Slice.sliceApplied (.ref sl) (pure (n : Int))) Q E s := by
  obtain ⟨os, hos, hcs, hds⟩ := id hs
  unfold Builtin.Slice.sliceApplied Builtin.Slice.sliceFields
  refine wpAny_bind (wpAny_bind (wpAny_field hos hds (x := vl) rfl (wpAny_bind (wpAny_field hos hds (x := vu) rfl (wpAny_bind (wpAny_field hos hds (x := .none) rfl (wpAny_pure ?_)))))))
  refine wpAny_bind (slicePart_none ?_)
  show wpAny _ _ (if ((1 : Int) == 0) = true then _ else _) _ _ s
  rw [if_neg (by decide)]
  refine wpAny_bind (slicePart_ pl (wpAny_bind (slicePart_ pu (wpAny_bind (wpAny_pure ?_)))))
  show wpAny _ _ (match Builtin.Slice.sliceAdjust lo hi 1 (n : Int) with | (lo, hi) => pure (lo, (1 : Int), Builtin.Slice.slicePlaces lo hi 1)) _ _ s
  rw [adjust_gen lo hi n]
  show wpAny _ _ (pure (((sIx n 0 lo : Nat) : Int), (1 : Int), Builtin.Slice.slicePlaces ((sIx n 0 lo : Nat) : Int) ((sIx n n hi : Nat) : Int) 1)) _ _ s
  rw [places_gen]
  exact wpAny_pure h
theorem pick_gen (xs : Array Value) (i k : Nat) : ((List.range k).filterMap fun (m : Nat) => xs[((i : Int) + (m : Int) * 1).toNat]?).toArray = ((xs.toList.drop i).take k).toArray := by
  have e : (fun (m : Nat) => xs[((i : Int) + (m : Int) * 1).toNat]?) = fun m => xs[i + m]? := by
    funext m
    have : ((i : Int) + (m : Int) * 1).toNat = i + m := by omega
    rw [this]
  rw [e]
  have := pick_run xs i k
  rw [List.filterMap_map] at this
  have e2 : ((fun x => xs[x]?) ∘ fun x => i + x) = fun m => xs[i + m]? := rfl
  rw [e2] at this
  rw [this]

theorem getItem_tuple_cut {t sl : Addr} {items : Array Value} {vl vu : Value} {lo hi : Option Int} {Q : Value → Shared → Prop} (ht : IsTup s.heap t items) (hs : s.heap.IsSliceOf sl vl vu .none) (pl : IsPart vl lo) (pu : IsPart vu hi)
    (hw : ¬ (sIx items.size 0 lo = 0 ∧ sIx items.size items.size hi = items.size))
    (h : Q (.ref s.heap.objs.size) { s with heap := s.heap.push { cls := .type "tuple", data := .seq ((items.toList.drop (sIx items.size 0 lo)).take (sIx items.size items.size hi - sIx items.size 0 lo)).toArray } })
    (hsz : items.size ≤ sizeLine) : wpAny (model prog w) A (getItem (.ref t) (.ref sl)) Q E s := by
  have htake : sizeOk (.seq ((items.toList.drop (sIx items.size 0 lo)).take (sIx items.size items.size hi - sIx items.size 0 lo)).toArray) := by
    show ((items.toList.drop (sIx items.size 0 lo)).take (sIx items.size items.size hi - sIx items.size 0 lo)).toArray.size ≤ sizeLine
    rw [List.size_toArray, List.length_take, List.length_drop, Array.length_toList]
    omega
  have hj : sIx items.size items.size hi ≤ items.size := sIx_le _ _ (Nat.le_refl _) hi
  obtain ⟨os, hos, hcs, hds⟩ := id hs
  have hTs : s.TypeIs (.ref sl) "slice" := ⟨os, hos, hcs⟩
  unfold getItem
  try with_reducible refine wpAny_holding ?_
  first | refine wpAny_bind (wpAny_pure ?_) | skip
  refine wpAny_bind (wpAny_sequenceKey ht.typeIs (by decide) ?_)
  refine wpAny_bind (wpAny_callSpecial?_slot (name := Str.ofString "__getitem__") ht.typeIs PyProof.Rows.slot_tuple_getitem
    (wpAny_call_entry PyProof.Rows.slot_tuple_getitem ht.typeIs entry_tuple_getitem ?_ (args_tuple_getitem _ _)))
  show wpAny _ _ (Builtin.Tuple.tupleItemsOf (.ref t) >>= _) _ _ s
  refine wpAny_bind (tupleItemsOf_ ht ?_)
  refine wpAny_bind (wpAny_typeOf hTs ?_)
  rw [if_pos (by decide)]
  refine wpAny_bind (sliceApplied_gen hs pl pu ?_)
  have hno : ¬ ((((sIx items.size 0 lo : Nat) : Int) == 0 && (1 : Int) == 1 && (sIx items.size items.size hi - sIx items.size 0 lo) == items.size) = true) := by
    intro q
    rw [Bool.and_eq_true, Bool.and_eq_true] at q
    have q1 : ((sIx items.size 0 lo : Nat) : Int) = 0 := eq_of_beq q.1.1
    have q2 : sIx items.size items.size hi - sIx items.size 0 lo = items.size := eq_of_beq q.2
    exact hw ⟨by omega, by omega⟩
  show wpAny _ _ (if (((sIx items.size 0 lo : Nat) : Int) == 0 && (1 : Int) == 1 && (sIx items.size items.size hi - sIx items.size 0 lo) == items.size) = true then _ else _) _ _ s
  rw [if_neg hno, pick_gen]
  first
    | exact wpAny_bind (m := Builtin.Tuple.tupleExact _) (wpAny_newObj_type (wpAny_pure ⟨_, rfl, wpAny_pure h⟩) htake)
    | exact wpAny_bind (m := Builtin.Tuple.tupleExact _) (wpAny_newObj_type (wpAny_bind (wpAny_pure (wpAny_pure ⟨_, rfl, wpAny_pure h⟩))) htake)
    | exact wpAny_bind (wpAny_bind (m := Builtin.Tuple.tupleExact _) (wpAny_newObj_type (wpAny_pure (wpAny_pure ⟨_, rfl, wpAny_pure h⟩)) htake))
    | exact wpAny_bind (wpAny_bind (m := Builtin.Tuple.tupleExact _) (wpAny_newObj_type (wpAny_pure ⟨_, rfl, wpAny_pure h⟩) htake))
end
end HT

namespace L2
open PySem PySem.Spec PyProof.Rows

noncomputable abbrev TO := St → Hp → (Option Int → Hp → Prop) → Prop
noncomputable def PO (X : Cx) (e : Option Expr) (t : TO) : Prop :=
  ∀ (pins : List (Addr × Obj)) (s : Shared) (σ : St) (H : Hp) (Q : Option Int → Hp → Prop), Inv X pins σ H s → t σ H Q →
    wpAny (model X.prog X.w) X.A (evalPart e X.env) (fun u s' => ∃ o H', Inv X pins σ H' s' ∧ IsPart u o ∧ Q o H') X.xe s
noncomputable def tNoPart : TO := fun _ H Q => Q none H
noncomputable def tPart (t : TE) : TO := fun σ H Q => t σ H fun x H1 => ∃ i, x = .int i ∧ Q (some i) H1

section
variable {X : Cx} {e : Expr} {te : TE} {lo hi : Option Expr} {tl th : TO} {pos p2 : Pos}

theorem po_none : PO X none tNoPart := by
  intro pins s σ H Q I h
  rw [evalPart_none]
  exact wpAny_pure ⟨none, H, I, .none, h⟩
theorem po_some (h : PE X e te) : PO X (some e) (tPart te) := by
  intro pins s σ H Q I hw
  rw [evalPart_some]
  refine thn (h pins s σ H _ I hw) fun u s1 ⟨x, H1, I1, r1, q1⟩ => ?_
  obtain ⟨i, rfl, q⟩ := q1
  obtain ⟨t, rfl⟩ := r1
  exact ⟨some i, H1, I1, .int i t, q⟩

noncomputable def SlR (X : Cx) (r : V → Option Int → Option Int → Hp → VK → Prop) : Prop :=
  ∀ (pins : List (Addr × Obj)) (s : Shared) (σ : St) (H : Hp) (x : V) (v vl vu : Value) (lo hi : Option Int) (sl : Addr) (Q : VK), Inv X pins σ H s → RelV x v → s.heap.IsSliceOf sl vl vu .none → IsPart vl lo → IsPart vu hi → r x lo hi H Q →
    ∃ T id, typeLookup (.type T) "__getitem__" = pure (some (.builtin id)) ∧ s.TypeIs v T ∧ wpAny (model X.prog X.w) X.A (getItem v (.ref sl)) (EP X pins σ Q) X.xe s
noncomputable def tSl (r : V → Option Int → Option Int → Hp → VK → Prop) (te : TE) (tl th : TO) : TE := fun σ H Q => te σ H fun x H1 => tl σ H1 fun l H2 => th σ H2 fun u H3 => r x l u H3 Q
theorem pe_slice {r : V → Option Int → Option Int → Hp → VK → Prop} (hr : SlR X r) (he : PE X e te) (hl : PO X lo tl) (hu : PO X hi th) : PE X (.Subscript e (.Slice lo hi none p2) pos) (tSl r te tl th) := by
  intro pins s σ H Q I h
  refine Subscript_ (thn (he pins s σ H _ I h) fun v s1 ⟨x, H1, I1, r1, q1⟩ => ?_)
  refine wpAny_Slice (thn (hl pins s1 σ H1 _ I1 q1) fun vl s2 ⟨l, H2, I2, pl, q2⟩ => thn (hu pins s2 σ H2 _ I2 q2) fun vu s3 ⟨u, H3, I3, pu, q3⟩ => ?_)
  rw [evalPart_none]
  refine wpAny_pure ?_
  have I4 : Inv X pins σ H3 { s3 with heap := s3.heap.push { cls := .type "slice", data := .fields #[vl, vu, .none] } } := I3.kept (t' := s3.toks) fun b ob q => Heap.get?_push_of_some _ q
  obtain ⟨T, id, hT, ht, hg⟩ := hr pins { s3 with heap := s3.heap.push { cls := .type "slice", data := .fields #[vl, vu, .none] } } σ H3 x v vl vu l u s3.heap.objs.size Q I4 r1 (Heap.IsSliceOf.new ..) pl pu q3
  show wpAny (model X.prog X.w) X.A (subscriptTail e (.Slice lo hi none p2) v (.ref s3.heap.objs.size)) (EP X pins σ Q) X.xe { s3 with heap := s3.heap.push { cls := .type "slice", data := .fields #[vl, vu, .none] } }
  exact tail_any (ops := [.ref s3.heap.objs.size, v]) ht hT hg (by with_unfolding_all rfl)

noncomputable def cutV (xs : List V) (lo hi : Option Int) : List V := (xs.drop (HT.sIx xs.length 0 lo)).take (HT.sIx xs.length xs.length hi - HT.sIx xs.length 0 lo)
theorem cutV_length (xs : List V) (lo hi : Option Int) : (cutV xs lo hi).length ≤ xs.length := by
  unfold cutV
  rw [List.length_take, List.length_drop]
  omega
noncomputable def rSlT (K : PySem.W.Frag) : V → Option Int → Option Int → Hp → VK → Prop := fun x lo hi H Q => ∃ a xs, x = .ref a ∧ SqT K H a xs ∧
  ¬ (HT.sIx xs.length 0 lo = 0 ∧ HT.sIx xs.length xs.length hi = xs.length) ∧ ∀ p, H p = none → Q (.ref p) (upd H p (.tup (cutV xs lo hi)))
theorem sl_tup : SlR X (rSlT X.K) := by
  intro pins s σ H x v vl vu lo hi sl Q I rx hs pl pu h
  obtain ⟨a, xs, rfl, hx, hw, q⟩ := h
  cases rx
  obtain ⟨its, r, ht, hz⟩ := I.tuple hx
  have hlen : its.toArray.size = xs.length := by rw [List.size_toArray]; exact r.length.symm
  refine ⟨"tuple", _, PyProof.Rows.slot_tuple_getitem.lookup, ht.typeIs, ?_⟩
  refine HT.getItem_tuple_cut ht hs pl pu (by rw [hlen]; exact hw) ?_ (by rw [hlen]; exact hz)
  rw [hlen]
  refine ⟨.ref s.heap.objs.size, _, I.laid (t' := s.toks) (o := .tup (cutV xs lo hi)) (fun b ob q => Heap.get?_push_of_some _ q) (Nat.le_refl _) ?_, rfl, q _ (I.hok.fresh (Nat.le_refl _))⟩
  exact ⟨Nat.le_trans (cutV_length xs lo hi) hz, _, (r.drop (HT.sIx xs.length 0 lo)).take (HT.sIx xs.length xs.length hi - HT.sIx xs.length 0 lo), TupX.new _ _⟩

end
end L2

namespace L2
open PySem PySem.Spec PyProof.Rows

noncomputable def ixN (n : Nat) (i : Int) : Option Nat := if 0 ≤ i then (if i < n then some i.toNat else none) else if -(n : Int) ≤ i then some (i + n).toNat else none
noncomputable def atI {α : Type} (xs : List α) (i : Int) : Option α := (ixN xs.length i).bind fun j => xs[j]?
theorem ixN_seq {n : Nat} {i : Int} {j : Nat} (h : ixN n i = some j) : seqIndex? i n = some j ∧ j < n ∧ -(n : Int) ≤ i ∧ i < n := by
  unfold ixN at h
  by_cases h0 : 0 ≤ i
  · rw [if_pos h0] at h
    by_cases h1 : i < n
    · rw [if_pos h1] at h
      have e : i.toNat = j := Option.some.inj h
      exact ⟨by rw [seqIndex_of h0 h1, e], by omega, by omega, h1⟩
    · rw [if_neg h1] at h; cases h
  · rw [if_neg h0] at h
    by_cases h1 : -(n : Int) ≤ i
    · rw [if_pos h1] at h
      have e : (i + n).toNat = j := Option.some.inj h
      exact ⟨by rw [seqIndex_neg (by omega) h1, e], by omega, h1, by omega⟩
    · rw [if_neg h1] at h; cases h
theorem atI_get {α : Type} {xs : List α} {i : Int} {v : α} (h : atI xs i = some v) : ∃ j, seqIndex? i xs.length = some j ∧ xs[j]? = some v ∧ j < xs.length ∧ -(xs.length : Int) ≤ i ∧ i < xs.length := by
  unfold atI at h
  cases e : ixN xs.length i with
  | none => rw [e] at h; cases h
  | some j =>
    rw [e] at h
    obtain ⟨h1, h2, h3, h4⟩ := ixN_seq e
    exact ⟨j, h1, h, h2, h3, h4⟩
theorem atI_nat {α : Type} {xs : List α} {j : Nat} {v : α} (h : xs[j]? = some v) : atI xs (j : Int) = some v := by
  have hj : j < xs.length := (List.getElem?_eq_some_iff.mp h).1
  have e : ixN xs.length (j : Int) = some j := by
    unfold ixN
    rw [if_pos (by omega), if_pos (by omega)]; simp
  unfold atI; rw [e]; exact h
noncomputable def PlainIx (b : Expr) : Prop := ∀ o i, subscripted b false o i = operate [o, i] (getItem o i)
noncomputable def IxR (X : Cx) (r : R2) : Prop :=
  ∀ (value slice : Expr) (pins : List (Addr × Obj)) (s : Shared) (σ : St) (H : Hp) (x y : V) (v u : Value) (Q : VK), Inv X pins σ H s → RelV x v → RelV y u → r x y H Q →
    subscripted slice false v u = operate [v, u] (getItem v u) → wpAny (model X.prog X.w) X.A (subscriptTail value slice v u) (EP X pins σ Q) X.xe s
noncomputable def MtR (X : Cx) (id : String) (r : V → List V → Hp → VK → Prop) : Prop :=
  ∀ (pins : List (Addr × Obj)) (s : Shared) (σ : St) (H : Hp) (x : V) (xs : List V) (v : Value) (us : List Value) (Q : VK), Inv X pins σ H s → RelV x v → Vals xs us → r x xs H Q →
    wpAny (model X.prog X.w) X.A (call (.builtin id) (v :: us)) (EP X pins σ Q) X.xe s
section
variable {X : Cx} {a b : Expr} {ta tb : TE} {pos : Pos}
theorem pe_ix {r : R2} (hr : IxR X r) (ha : PE X a ta) (hb : PE X b tb) (hs : PlainIx b) : PE X (.Subscript a b pos) (tOp r ta tb) := by
  intro pins s σ H Q I h
  exact Subscript_ (binT ha hb I h fun v u s2 x y H2 I2 rx ry q => hr a b pins s2 σ H2 x y v u Q I2 rx ry q (hs _ _))

noncomputable def rIxL (K : PySem.W.Frag) : R2 := fun x y H Q => ∃ p xs i v, x = .ref p ∧ y = .int i ∧ SqL K H p xs ∧ atI xs i = some v ∧ Q v H
noncomputable def rIxT (K : PySem.W.Frag) : R2 := fun x y H Q => ∃ p xs i v, x = .ref p ∧ y = .int i ∧ SqT K H p xs ∧ atI xs i = some v ∧ Q v H
noncomputable def rIxS : R2 := fun x y H Q => ∃ z i c, x = .str z ∧ y = .int i ∧ z.length ≤ sizeLine ∧ atI z.cps.toList i = some c ∧ Q (.str ⟨#[c]⟩) H
theorem ix_list : IxR X (rIxL X.K) := by
  intro value slice pins s σ H x y v u Q I rx ry h hs
  obtain ⟨p, xs, i, z, rfl, rfl, hq, he, q⟩ := h
  cases rx
  obtain ⟨t, rfl⟩ := ry
  obtain ⟨its, r, pl, hz⟩ := I.list hq
  obtain ⟨j, h1, h2, h3, h4, h5⟩ := atI_get he
  obtain ⟨w, ew, rw'⟩ := r.get h2
  have hl := r.length
  have hn := line63
  have fin : EP X pins σ Q w s := ⟨z, H, I, rw', q⟩
  by_cases h0 : 0 ≤ i
  · have hj : i.toNat = j := by
      rw [seqIndex_of h0 h5] at h1
      exact Option.some.inj h1
    exact item_listR pl.isList h0 (by omega) (by rw [hj]; simpa using ew) fin hs
  · have hj : (i + (its.toArray.size : Int)).toNat = j := by
      rw [seqIndex_neg (by omega) h4] at h1
      rw [List.size_toArray, ← hl]
      exact Option.some.inj h1
    exact subscriptTail_builtinR (x := w) pl.isList.typeIs slot_list_getitem.lookup
      (wpAny_getItem_list_neg (Q := fun r s' => r = w ∧ EP X pins σ Q r s') pl.isList (by omega) (by rw [List.size_toArray] <;> omega) (by omega) (by rw [hj]; simpa using ew) ⟨rfl, fin⟩) hs
theorem ix_tup : IxR X (rIxT X.K) := by
  intro value slice pins s σ H x y v u Q I rx ry h hs
  obtain ⟨p, xs, i, z, rfl, rfl, hq, he, q⟩ := h
  cases rx
  obtain ⟨t, rfl⟩ := ry
  obtain ⟨its, r, pl, hz⟩ := I.tuple hq
  obtain ⟨j, h1, h2, h3, h4, h5⟩ := atI_get he
  obtain ⟨w, ew, rw'⟩ := r.get h2
  have hl := r.length
  have hn := line63
  have fin : EP X pins σ Q w s := ⟨z, H, I, rw', q⟩
  exact subscriptTail_builtinR (x := w) pl.typeIs slot_tuple_getitem.lookup
    (getItem_tuple (j := j) (Q := fun r s' => r = w ∧ EP X pins σ Q r s') pl (by omega) (by omega) (by rw [List.size_toArray, ← hl]; exact h1) (by simpa using ew) ⟨rfl, fin⟩) hs
theorem ix_str : IxR X rIxS := by
  intro value slice pins s σ H x y v u Q I rx ry h hs
  obtain ⟨z, i, c, rfl, rfl, hz, he, q⟩ := h
  obtain ⟨t, rfl⟩ := rx
  obtain ⟨t', rfl⟩ := ry
  obtain ⟨j, h1, h2, h3, h4, h5⟩ := atI_get he
  have hl : z.cps.toList.length = z.length := by simp [Str.length]
  rw [hl] at h1 h4 h5
  have hn := line63
  exact tail_any (typeIs_str s z t) slot_str_getitem.lookup (getItem_str (c := c) (by
    have e1 : decide (i < -(2 ^ 63 : Int)) = false := decide_eq_false (by omega)
    have e2 : decide (i ≥ 2 ^ 63) = false := decide_eq_false (by omega)
    rw [e1, e2, Bool.or_false]) (by rw [h1]; simpa using h2) ⟨.str ⟨#[c]⟩, H, I.tok _, ⟨_, rfl⟩, q⟩) hs
theorem mapSeq_set (its : List Value) (n j : Nat) (u : Value) : Obj.mapSeq (·.setIfInBounds j u) { cls := .type "list", data := .seq its.toArray n } = { cls := .type "list", data := .seq (its.set j u).toArray n } := by
  simp [Obj.mapSeq]
theorem Inv.lst {pins : List (Addr × Obj)} {σ : St} {H : Hp} {s : Shared} {p : Addr} {xs : List V} (I : Inv X pins σ H s) (h : H p = some (.lst xs)) :
    ∃ (its : List Value) (n : Nat), Vals xs its ∧ s.heap.get? p = some { cls := .type "list", data := .seq its.toArray n } ∧ xs.length ≤ sizeLine := by
  obtain ⟨z, its, n, r, e⟩ := I.hok p _ h
  exact ⟨its, n, r, e, z⟩
theorem Inv.lstUpd {pins : List (Addr × Obj)} {σ : St} {H : Hp} {s : Shared} {p : Addr} {xs ys : List V} {its its' : List Value} {n n' : Nat} {f : Obj → Obj} (I : Inv X pins σ H s) (h : H p = some (.lst xs))
    (ho : s.heap.get? p = some { cls := .type "list", data := .seq its.toArray n }) (hf : f { cls := .type "list", data := .seq its.toArray n } = { cls := .type "list", data := .seq its'.toArray n' }) (r : Vals ys its') (hz : ys.length ≤ sizeLine) (t : Nat) :
    Inv X pins σ (upd H p (.lst ys)) { s with heap := s.heap.update p f, toks := t } := by
  have e : (s.heap.update p f).get? p = some { cls := .type "list", data := .seq its'.toArray n' } := by
    rw [Heap.get?_update_self f ho (by rw [hf] <;> rfl), hf]
  refine I.write (x := p) (e := p) (by rw [h]; trivial) (.inl rfl) (fun b u hb q => (Heap.get?_update_other _ _ (Ne.symm hb)).trans q) ⟨_, e⟩ ?_
  exact ⟨hz, its', n', r, e⟩
noncomputable def rSetL : V → V → V → Hp → (Hp → Prop) → Prop := fun o i v H Q => ∃ p xs k j, o = .ref p ∧ i = .int k ∧ H p = some (.lst xs) ∧ ixN xs.length k = some j ∧ Q (upd H p (.lst (xs.set j v)))
theorem set_list : PSet X rSetL := by
  intro pins s σ H o i v ov iv u Q I ro ri rv h
  obtain ⟨p, xs, k, j, rfl, rfl, hp, hj, q⟩ := h
  cases ro
  obtain ⟨t, rfl⟩ := ri
  obtain ⟨its, n, r, ho, hz⟩ := I.lst hp
  obtain ⟨h1, h2, h3, h4⟩ := ixN_seq hj
  have hl := r.length
  have hn := line63
  have I' : Inv X pins σ (upd H p (.lst (xs.set j v))) { s with heap := s.heap.update p (Obj.mapSeq (·.setIfInBounds j u)) } :=
    I.lstUpd hp ho (mapSeq_set its n j u) (r.set rv j) (by rw [List.length_set]; exact hz) s.toks
  by_cases h0 : 0 ≤ k
  · have hk : k.toNat = j := by
      rw [seqIndex_of h0 h4] at h1
      exact Option.some.inj h1
    exact PySem.W.ki_setAt ho h0 (by omega) (by rw [List.size_toArray, ← hl]; exact h4) (by rw [hk]; exact ⟨_, I', q⟩)
  · have hk : (k + (its.toArray.size : Int)).toNat = j := by
      rw [seqIndex_neg (by omega) h3] at h1
      rw [List.size_toArray, ← hl]
      exact Option.some.inj h1
    exact PySem.W.ki_setBack ho (by omega) (by rw [List.size_toArray, ← hl]; exact h3) (by omega) (by rw [hk]; exact ⟨_, I', q⟩)

theorem slice_bounds (lo hi : Option Int) (n : Nat) : (sliceBounds lo hi none n).1 = ((HT.sIx n 0 lo : Nat) : Int) ∧ (sliceBounds lo hi none n).2.1 = ((HT.sIx n n hi : Nat) : Int) ∧ (sliceBounds lo hi none n).2.2 = 1 := by
  refine ⟨?_, ?_, rfl⟩
  · cases lo with
    | none => simp [sliceBounds, HT.sIx]
    | some i =>
      simp only [sliceBounds, HT.sIx, Option.getD_none, show (1 : Int) > 0 by decide, if_true]
      by_cases h : i < 0
      · simp only [h, if_true] <;> omega
      · simp only [h, if_false] <;> omega
  · cases hi with
    | none => simp [sliceBounds, HT.sIx]
    | some i =>
      simp only [sliceBounds, HT.sIx, Option.getD_none, show (1 : Int) > 0 by decide, if_true]
      by_cases h : i < 0
      · simp only [h, if_true] <;> omega
      · simp only [h, if_false] <;> omega
theorem slicePick_cut (its : List Value) (lo hi : Option Int) : slicePick its.toArray lo hi none = ((its.drop (HT.sIx its.length 0 lo)).take (HT.sIx its.length its.length hi - HT.sIx its.length 0 lo)).toArray := by
  obtain ⟨h1, h2, h3⟩ := slice_bounds lo hi its.toArray.size
  unfold slicePick
  rw [h1, h2, h3]
  simp only [sliceRange_one, pick_run, List.size_toArray] <;> rfl
noncomputable def rSlL (K : PySem.W.Frag) : V → Option Int → Option Int → Hp → VK → Prop := fun x lo hi H Q => ∃ a xs, x = .ref a ∧ SqL K H a xs ∧ ∀ p, H p = none → Q (.ref p) (upd H p (.lst (cutV xs lo hi)))
theorem sl_list : SlR X (rSlL X.K) := by
  intro pins s σ H x v vl vu lo hi sl Q I rx hs pl pu h
  obtain ⟨a, xs, rfl, hx, q⟩ := h
  cases rx
  obtain ⟨its, r, ht, hz⟩ := I.list hx
  have hlen := r.length
  refine ⟨"list", _, slot_list_getitem.lookup, ht.isList.typeIs, ?_⟩
  refine wpAny_getItem_list_slice ht.isList hs pl pu .none (by simp) ?_ (by rw [List.size_toArray] <;> omega)
  rw [slicePick_cut, ← hlen]
  refine ⟨.ref s.heap.objs.size, _, I.laid (t' := s.toks) (o := .lst (cutV xs lo hi)) (fun b ob q => Heap.get?_push_of_some _ q) (Nat.le_refl _) ?_, rfl, q _ (I.hok.fresh (Nat.le_refl _))⟩
  exact ⟨Nat.le_trans (cutV_length xs lo hi) hz, _, 0, (r.drop (HT.sIx xs.length 0 lo)).take (HT.sIx xs.length xs.length hi - HT.sIx xs.length 0 lo), Heap.get?_push_size _ rfl⟩

noncomputable def flatV : V → Bool
  | .non => true
  | .bl _ => true
  | .int _ => true
  | .str _ => true
  | _ => false
noncomputable def eqV : V → V → Bool
  | .non, .non => true
  | .bl a, .bl b => a == b
  | .bl a, .int b => (if a then 1 else 0) == b
  | .int a, .bl b => a == (if b then 1 else 0)
  | .int a, .int b => a == b
  | .str a, .str b => a == b
  | _, _ => false
theorem eqAt_V {A : Around} {s : Shared} {y x : V} {u v : Value} (ry : RelV y u) (rx : RelV x v) (fy : flatV y = true) (fx : flatV x = true) : SeqAt.EqAt A s u v (eqV y x) := by
  cases y with
  | non =>
    cases ry
    cases x with
    | non => cases rx; exact SeqAt.EqAt.same _
    | bl b => cases rx; exact SeqAt.EqAt.none_bool b
    | int b => obtain ⟨t, rfl⟩ := rx; exact SeqAt.EqAt.none_int b t
    | str b => obtain ⟨t, rfl⟩ := rx; exact SeqAt.EqAt.none_str b t
    | _ => exact absurd (show false = true from fx) Bool.false_ne_true
  | bl a =>
    cases ry
    cases x with
    | non => cases rx; exact SeqAt.EqAt.bool_none a
    | bl b => cases rx; exact SeqAt.EqAt.bool_bool a b
    | int b => obtain ⟨t, rfl⟩ := rx; exact SeqAt.EqAt.bool_int a b t
    | str b => obtain ⟨t, rfl⟩ := rx; exact SeqAt.EqAt.bool_str a b t
    | _ => exact absurd (show false = true from fx) Bool.false_ne_true
  | int a =>
    obtain ⟨t', rfl⟩ := ry
    cases x with
    | non => cases rx; exact SeqAt.EqAt.int_none a t'
    | bl b => cases rx; exact SeqAt.EqAt.int_bool a t' b
    | int b => obtain ⟨t, rfl⟩ := rx; exact SeqAt.EqAt.int_int a t' b t
    | str b => obtain ⟨t, rfl⟩ := rx; exact SeqAt.EqAt.int_str a t' b t
    | _ => exact absurd (show false = true from fx) Bool.false_ne_true
  | str a =>
    obtain ⟨t', rfl⟩ := ry
    cases x with
    | non => cases rx; exact SeqAt.EqAt.str_none a t'
    | bl b => cases rx; exact SeqAt.EqAt.str_bool a t' b
    | int b => obtain ⟨t, rfl⟩ := rx; exact SeqAt.EqAt.str_int a t' b t
    | str b => obtain ⟨t, rfl⟩ := rx; exact SeqAt.EqAt.str_str a t' b t
    | _ => exact absurd (show false = true from fx) Bool.false_ne_true
  | _ => exact absurd (show false = true from fy) Bool.false_ne_true
theorem call_len_seq : CallR X (.builtin "len") (fun xs H Q => ∃ p ys, xs = [.ref p] ∧ (SqL X.K H p ys ∨ SqT X.K H p ys) ∧ Q (.int ys.length) H) := by
  intro pins s σ H xs us Q I r h
  obtain ⟨p, ys, rfl, hq, q⟩ := h
  obtain ⟨u, rfl, rx⟩ := vals1 r
  cases rx
  have hn := line63
  rcases hq with hq | hq
  · obtain ⟨its, r', pl, hz⟩ := I.list hq
    have hlen := r'.length
    exact Calls.call_len_list pl.isList (by simp only [List.size_toArray] <;> omega) ⟨.int ys.length, H, I.tok _, ⟨s.toks + 1, by rw [List.size_toArray, hlen]⟩, q⟩
  · obtain ⟨its, r', pl, hz⟩ := I.tuple hq
    have hlen := r'.length
    exact len_tuple pl (by simp only [List.size_toArray] <;> omega) ⟨.int ys.length, H, I.tok _, ⟨s.toks + 1, by rw [List.size_toArray, hlen]⟩, q⟩
theorem call_len_str : CallR X (.builtin "len") (fun xs H Q => ∃ z, xs = [.str z] ∧ z.length ≤ sizeLine ∧ Q (.int z.length) H) := by
  intro pins s σ H xs us Q I r h
  obtain ⟨z, rfl, hz, q⟩ := h
  obtain ⟨u, rfl, t, rfl⟩ := vals1 r
  have hn := line63
  exact len_str (by omega) ⟨.int z.length, H, I.tok _, ⟨_, rfl⟩, q⟩
theorem call_tuple_of : CallR X (.type "tuple") (fun xs H Q => ∃ p ys, xs = [.ref p] ∧ ((SqL X.K H p ys ∧ ∀ l, H l = none → Q (.ref l) (upd H l (.tup ys))) ∨ (SqT X.K H p ys ∧ Q (.ref p) H))) := by
  intro pins s σ H xs us Q I r h
  obtain ⟨p, ys, rfl, h⟩ := h
  obtain ⟨u, rfl, rx⟩ := vals1 r
  cases rx
  rcases h with ⟨hq, q⟩ | ⟨hq, q⟩
  · obtain ⟨its, r', pl, hz⟩ := I.list hq
    have hlen := r'.length
    refine call_tuple_list pl.isList (fun h' kp => ?_) (by simp only [List.size_toArray] <;> omega)
    have I1 : Inv X pins σ H { s with heap := h' } := I.kept (t' := s.toks) kp
    have I2 : Inv X pins σ (upd H h'.objs.size (.tup ys)) { s with heap := h'.push { cls := .type "tuple", data := .seq its.toArray } } :=
      I1.laid (t' := s.toks) (fun b o e => Heap.get?_push_of_some _ e) (Nat.le_refl _) (show ObjOk X.prog X.w _ _ _ (.tup ys) from ⟨hz, its, r', TupX.new _ _⟩)
    exact ⟨.ref h'.objs.size, _, I2, rfl, q _ (I1.hok.fresh (Nat.le_refl _))⟩
  · obtain ⟨its, r', pl, hz⟩ := I.tuple hq
    exact call_tuple_same pl ⟨.ref p, H, I, rfl, q⟩

noncomputable def tyV (K : PySem.W.Frag) (T : String) (x : V) (H : Hp) : Prop := match x with
  | .str _ => T = "str"
  | .int _ => T = "int"
  | .ref p => (T = "list" ∧ ∃ xs, SqL K H p xs) ∨ (T = "tuple" ∧ ∃ o, K.lookup p = some o ∧ o.cls = .type "tuple" ∧ o.dict = none) ∨
      (T = "dict" ∧ ((∃ kvs, H p = some (.dK kvs)) ∨ ∃ kvs, H p = some (.dT kvs))) ∨ (T = "set" ∧ ∃ S n, H p = some (.set S n))
  | _ => False
theorem tyV_is {pins : List (Addr × Obj)} {σ : St} {H : Hp} {s : Shared} {T : String} {x : V} {v : Value} (I : Inv X pins σ H s) (r : RelV x v) (ty : tyV X.K T x H) :
    s.TypeIs v T ∧ ∀ a, v = .ref a → ∃ ob, s.heap.get? a = some ob ∧ ob.dict = none := by
  cases x with
  | str z =>
    obtain ⟨t, rfl⟩ := r
    cases (show T = "str" from ty)
    exact ⟨typeIs_str s z t, fun _ e => nomatch e⟩
  | int i =>
    obtain ⟨t, rfl⟩ := r
    cases (show T = "int" from ty)
    exact ⟨typeIs_int s i t, fun _ e => nomatch e⟩
  | ref p =>
    cases r
    rcases ty with ⟨rfl, xs, hq⟩ | ⟨rfl, o, hk, hc, hd⟩ | ⟨rfl, hk⟩ | ⟨rfl, S, n, hk⟩
    · obtain ⟨its, _, pl, _⟩ := I.list hq
      refine ⟨pl.isList.typeIs, fun a e => ?_⟩
      cases e
      obtain ⟨o, n, e, c, hd, _⟩ := pl
      exact ⟨o, e, hd⟩
    · refine ⟨⟨o, I.kIn p o hk, hc⟩, fun a e => ?_⟩
      cases e
      exact ⟨o, I.kIn _ o hk, hd⟩
    · have z : ∃ o, s.heap.get? p = some o ∧ o.ExactDict := by
        rcases hk with ⟨kvs, hk⟩ | ⟨kvs, hk⟩
        · obtain ⟨_, _, _, _, o, _, _, e, ex, _⟩ := I.hok p _ hk
          exact ⟨o, e, ex⟩
        · obtain ⟨_, _, _, _, o, _, _, e, ex, _⟩ := I.hok p _ hk
          exact ⟨o, e, ex⟩
      obtain ⟨o, e, ex⟩ := z
      refine ⟨⟨o, e, ex.1⟩, fun a e2 => ?_⟩
      cases e2
      exact ⟨o, e, ex.2.1⟩
    · obtain ⟨o, _, _, _, e, ex, _⟩ := I.hok p _ hk
      refine ⟨⟨o, e, ex.1⟩, fun a e2 => ?_⟩
      cases e2
      exact ⟨o, e, ex.2.1⟩
  | _ => exact False.elim ty
noncomputable def tBM0 (K : PySem.W.Frag) (T : String) (r : V → List V → Hp → VK → Prop) (to : TE) : TE := fun σ H Q => to σ H fun x H1 => tyV K T x H1 ∧ r x [] H1 Q
noncomputable def tBM (K : PySem.W.Frag) (T : String) (r : V → List V → Hp → VK → Prop) (to : TE) (t : TA) : TE := fun σ H Q => to σ H fun x H1 => tyV K T x H1 ∧ t σ H1 fun xs H2 => r x xs H2 Q
variable {o e : Expr} {es : List Expr} {to : TE} {t : TA} {name : Str} {apos cpos : Pos} {T id : String} {r : V → List V → Hp → VK → Prop}
theorem pe_bm0 (pa : PlainAttrs T) (slot : Slot T name id) (hty : typeOf (.builtin id) = pure (.type "method_descriptor")) (hm : MtR X id r) (ho : PE X o to)
    (hbase : attributeBase o name X.env (eval o X.env) = eval o X.env := by rfl) (hline : (apos.endLine == cpos.line) = true := by rfl) : PE X (.Call (.Attribute o name apos) [] [] cpos) (tBM0 X.K T r to) := by
  intro pins s σ H Q I h
  refine wpAny_Call_method0_late hbase hline (thn (ho pins s σ H _ I h) fun v s1 ⟨x, H1, I1, r1, ty, q1⟩ => ?_)
  obtain ⟨h1, h2⟩ := tyV_is I1 r1 ty
  exact ⟨T, id, pa, slot, hty, h1, h2, Calls.callWith_builtin rfl (PySem.evalArgs_none (hm pins s1 σ H1 x [] v [] Q I1 r1 .nil q1))⟩
theorem pe_bm (pa : PlainAttrs T) (slot : Slot T name id) (hty : typeOf (.builtin id) = pure (.type "method_descriptor")) (hm : MtR X id r) (ho : PE X o to) (ha : PA X (e :: es) t)
    (hbase : attributeBase o name X.env (eval o X.env) = eval o X.env := by rfl)
    (hfew : ((backTo cpos (starEach (e :: es) X.env)).all (fun x => !x.1) && (backToKw cpos (keywordEach [] X.env)).all (fun x => x.1.isSome)
      && decide ((e :: es).length + ([] : List Keyword).length + (if ([] : List Keyword).isEmpty then 0 else 1) < 30)) = true := by rfl)
    (hline : (apos.endLine == cpos.line) = true := by rfl) (hs : starEach (e :: es) X.env = (false, eval e X.env) :: starEach es X.env := by rfl) (hplain : (backTo cpos (starEach es X.env)).any (·.1) = false := by rfl) :
    PE X (.Call (.Attribute o name apos) (e :: es) [] cpos) (tBM X.K T r to t) := by
  intro pins s σ H Q I h
  refine wpAny_Call_method_late hbase hfew hline rfl (thn (ho pins s σ H _ I h) fun v s1 ⟨x, H1, I1, r1, ty, q1⟩ => ?_)
  obtain ⟨h1, h2⟩ := tyV_is I1 r1 ty
  refine ⟨T, id, pa, slot, hty, h1, h2, ?_⟩
  have hA := ha cpos pins s1 σ H1 _ I1 q1
  rw [hs] at hA ⊢
  refine Calls.callWith_builtin (by show (false || (backTo cpos (starEach es X.env)).any (·.1)) = false; rw [hplain] <;> rfl) (Calls.evalArgs_plain ?_)
  exact thn hA fun us s2 ⟨vs, H2, I2, r2, q2⟩ => hm pins s2 σ H2 x vs v us Q I2 r1 r2 q2
end
end L2

namespace L2
open PySem PySem.Spec PyProof.Rows

noncomputable def MtM (X : Cx) (id : String) (r : V → List V → Hp → VK → Prop) : Prop :=
  ∀ (pins : List (Addr × Obj)) (s : Shared) (σ : St) (H : Hp) (x : V) (xs : List V) (v : Value) (us : List Value) (Q : VK), Inv X pins σ H s → RelV x v → Vals xs us → r x xs H Q →
    wpAny (model X.prog X.w) X.A (call (.builtin id) (v :: us)) (EP X pins σ Q) X.xe s

theorem Vals.one {x : V} {us : List Value} (h : Vals [x] us) : ∃ u, us = [u] ∧ RelV x u := by
  cases h with
  | cons r t =>
    cases t
    exact ⟨_, rfl, r⟩
theorem Vals.zero : ∀ {us : List Value}, Vals [] us → us = []
  | _, .nil => rfl
section
variable {X : Cx} {pins : List (Addr × Obj)} {σ : St} {H : Hp} {s : Shared} {l b : Addr} {xs ys zs : List V}

theorem Inv.lset {its its' : List Value} {n : Nat} {f : Array Value → Array Value} {t' : Nat} (I : Inv X pins σ H s) (hH : H l = some (.lst xs))
    (e : s.heap.get? l = some { cls := .type "list", data := .seq its.toArray n }) (hf : f its.toArray = its'.toArray) (hv : Vals ys its') (hz : ys.length ≤ sizeLine) :
    Inv X pins σ (upd H l (.lst ys)) { s with heap := s.heap.update l (Obj.mapSeq f), toks := t' } := by
  have q := PySem.IsL.update e f
  rw [hf] at q
  refine I.write (x := l) (e := l) (by rw [hH]; exact trivial) (.inl rfl) (fun b' u hb hu => (Heap.get?_update_other s.heap (Obj.mapSeq f) (Ne.symm hb)).trans hu) ⟨_, q⟩ ?_
  exact ⟨hz, its', _, hv, q⟩
theorem Inv.lnew {its : List Value} {t' : Nat} (I : Inv X pins σ H s) (hv : Vals ys its) (hz : ys.length ≤ sizeLine) :
    Inv X pins σ (upd H s.heap.objs.size (.lst ys)) { s with heap := s.heap.push { cls := .type "list", data := .seq its.toArray }, toks := t' } :=
  I.laid (fun _ _ q => Heap.get?_push_of_some _ q) (Nat.le_refl _) ⟨hz, its, 0, hv, Heap.get?_push_size _ rfl⟩
theorem Inv.fresh (I : Inv X pins σ H s) : H s.heap.objs.size = none := I.hok.fresh (Nat.le_refl _)
theorem Inv.lstM (I : Inv X pins σ H s) (hH : H l = some (.lst xs)) : xs.length ≤ sizeLine ∧ ∃ (its : List Value) (n : Nat), Vals xs its ∧ xs.length = its.length ∧ s.heap.get? l = some { cls := .type "list", data := .seq its.toArray n } := by
  obtain ⟨z, its, n, r, e⟩ := I.hok l _ hH
  exact ⟨z, its, n, r, r.length, e⟩

end

section
variable {X : Cx}

noncomputable def rAppend : V → List V → Hp → VK → Prop := fun x vs H Q => ∃ l xs y, x = .ref l ∧ vs = [y] ∧ H l = some (.lst xs) ∧ xs.length < sizeLine ∧ Q .non (upd H l (.lst (xs ++ [y])))
theorem mt_append : MtM X "list.append" rAppend := by
  intro pins s σ H x vs v us Q I rx rv h
  obtain ⟨l, xs, y, rfl, rfl, hH, hz, q⟩ := h
  cases rx
  obtain ⟨u, rfl, ru⟩ := rv.one
  obtain ⟨z, its, n, r, hl, e⟩ := I.lstM hH
  refine call_meets F.slot_list_append ⟨_, e, rfl⟩ F.entry_list_append (F.args_list_append_2 _ _) (PySem.list_append l its.toArray n u (by rw [List.size_toArray]; omega)) ⟨e, ?_⟩
  refine ⟨.non, _, I.lset (its' := its ++ [u]) hH e (by simp) (r.append (.cons ru .nil)) ?_, rfl, q⟩
  rw [List.length_append, List.length_singleton]
  omega

noncomputable def rCat : R2 := fun x y H Q => ∃ l b xs zs, x = .ref l ∧ y = .ref b ∧ H l = some (.lst xs) ∧ H b = some (.lst zs) ∧ xs.length + zs.length ≤ sizeLine ∧ ∀ p, H p = none → Q (.ref p) (upd H p (.lst (xs ++ zs)))
theorem op_cat : OpR X (binaryOp .Add) rCat := by
  intro pins s σ H x y v u Q I rx ry h
  obtain ⟨l, b, xs, zs, rfl, rfl, hH, hB, hz, q⟩ := h
  cases rx
  cases ry
  obtain ⟨z, its, n, r, hl, e⟩ := I.lstM hH
  obtain ⟨z2, its2, n2, r2, hl2, e2⟩ := I.lstM hB
  refine PySem.P.add_list e e2 ?_ (by rw [List.size_toArray, List.size_toArray]; omega)
  have ea : its.toArray ++ its2.toArray = (its ++ its2).toArray := by simp
  rw [ea]
  exact ⟨.ref _, _, I.lnew (t' := s.toks) (r.append r2) (by rw [List.length_append]; omega), rfl, q _ I.fresh⟩
end

section
variable {prog : Program} {w : World} {A : Around} {E : Value → Shared → Prop} {s : Shared}
end

section
variable {X : Cx}
end
end L2

namespace L2
open PySem PySem.Spec PyProof.Rows

section
variable {κ : Type} [DecidableEq κ]
noncomputable def valV (kvs : List (κ × V)) (k : κ) : Option V := (kvs.find? fun kv => decide (kv.1 = k)).map (·.2)
noncomputable def putK (kvs : List (κ × V)) (k : κ) (v : V) : List (κ × V) :=
  if (kvs.any fun kv => decide (kv.1 = k)) = true then kvs.map (fun kv => if kv.1 = k then (kv.1, v) else kv) else kvs ++ [(k, v)]
theorem valV_pos {p : κ × V} {r : List (κ × V)} {k : κ} (e : p.1 = k) : valV (p :: r) k = some p.2 := by simp [valV, List.find?_cons, e]
theorem valV_neg {p : κ × V} {r : List (κ × V)} {k : κ} (e : ¬ p.1 = k) : valV (p :: r) k = valV r k := by simp [valV, List.find?_cons, e]
theorem valV_any (k : κ) : ∀ kvs : List (κ × V), (kvs.any fun kv => decide (kv.1 = k)) = (valV kvs k).isSome
  | [] => rfl
  | p :: r => by
    rw [List.any_cons]
    by_cases e : p.1 = k
    · simp only [valV_pos e, decide_eq_true e, Bool.true_or, Option.isSome_some]
    · rw [valV_neg e, decide_eq_false e, Bool.false_or]; exact valV_any k r
theorem length_putK (kvs : List (κ × V)) (k : κ) (v : V) : (putK kvs k v).length ≤ kvs.length + 1 := by
  unfold putK
  split
  · rw [List.length_map]; omega
  · rw [List.length_append, List.length_cons, List.length_nil]; omega
theorem RelO.isSome_eq {o : Option V} {u : Option Value} (r : RelO o u) : o.isSome = u.isSome := by
  cases o with
  | none => cases u with
    | none => rfl
    | some _ => exact (show False from r).elim
  | some _ => cases u with
    | none => exact (show False from r).elim
    | some _ => rfl
theorem KV.val {kvs : List (κ × V)} {vs : List (κ × Value)} (r : KV kvs vs) (k : κ) : RelO (valV kvs k) (valueAt vs k) := by
  unfold KV at r
  induction r with
  | nil => exact True.intro
  | @cons p q ps qs h t ih =>
    obtain ⟨h1, h2⟩ := h
    by_cases e : p.1 = k
    · have e' : q.1 = k := h1.symm.trans e
      have b : valueAt (q :: qs) k = some q.2 := by simp [valueAt, List.find?_cons, e']
      rw [valV_pos e, b]; exact h2
    · have e' : ¬ q.1 = k := fun z => e (h1.trans z)
      have b : valueAt (q :: qs) k = valueAt qs k := by simp [valueAt, List.find?_cons, e']
      rw [valV_neg e, b]; exact ih
theorem KV.any {kvs : List (κ × V)} {vs : List (κ × Value)} (r : KV kvs vs) (k : κ) : (kvs.any fun kv => decide (kv.1 = k)) = vs.any fun kv => decide (kv.1 = k) := by
  unfold KV at r
  induction r with
  | nil => rfl
  | cons h t ih => rw [List.any_cons, List.any_cons, ih, h.1]
theorem KV.repl {kvs : List (κ × V)} {vs : List (κ × Value)} (r : KV kvs vs) (k : κ) {y : V} {u : Value} (ry : RelV y u) :
    KV (kvs.map fun kv => if kv.1 = k then (kv.1, y) else kv) (vs.map fun kv => if kv.1 = k then (kv.1, u) else kv) := by
  unfold KV at r ⊢
  induction r with
  | nil => exact .nil
  | @cons p q ps qs h t ih =>
    rw [List.map_cons, List.map_cons]
    refine .cons ?_ ih
    obtain ⟨h1, h2⟩ := h
    by_cases e : p.1 = k
    · rw [if_pos e, if_pos (h1.symm.trans e)]; exact ⟨h1, ry⟩
    · rw [if_neg e, if_neg (fun z => e (h1.trans z))]; exact ⟨h1, h2⟩
theorem KV.put {kvs : List (κ × V)} {vs : List (κ × Value)} (r : KV kvs vs) (k : κ) {y : V} {u : Value} (ry : RelV y u) : KV (putK kvs k y) (stored vs k u) := by
  unfold putK stored
  rw [r.any k]
  by_cases e : (vs.any fun kv => decide (kv.1 = k)) = true
  · rw [if_pos e, if_pos e]; exact r.repl k ry
  · rw [if_neg e, if_neg e]; exact Paired.snoc r ⟨rfl, ry⟩
theorem KV.length {kvs : List (κ × V)} {vs : List (κ × Value)} (r : KV kvs vs) : kvs.length = vs.length := Paired.length r
end

theorem kV_is {P : Program} {w : World} {k : Key} {u : Value} (r : RelV (kV k) u) : (mixKind P w).is k u = true := by
  cases k with
  | inl i => obtain ⟨t, e⟩ := (show ∃ t, u = Value.int i t from r); subst e; exact mixKind_int P w i t
  | inr x => obtain ⟨t, e⟩ := (show ∃ t, u = Value.str x t from r); subst e; exact mixKind_str P w x t
theorem items_are {P : Program} {w : World} : ∀ {ks : List Key} {us : List Value}, Vals (ks.map kV) us → ItemsAre (mixKind P w) ks us
  | [], _, r => by rw [List.map_nil] at r; cases r; exact .nil
  | k :: ks, _, r => by
    rw [List.map_cons] at r
    cases r with
    | cons h t => exact .cons (kV_is h) (items_are t)

noncomputable abbrev KT (H : Hp) : List (List Key × V) → List (List Key × Addr × Value) → Prop := Paired fun p q => p.1 = q.1 ∧ H q.2.1 = some (.tup (p.1.map kV)) ∧ RelV p.2 q.2.2
theorem KT.val {H : Hp} {kvs : List (List Key × V)} {xs : List (List Key × Addr × Value)} (r : KT H kvs xs) (k : List Key) : RelO (valV kvs k) ((atKey xs k).map (·.2)) := by
  induction r with
  | nil => exact True.intro
  | @cons p q ps qs h t ih =>
    obtain ⟨h1, _, h2⟩ := h
    by_cases e : p.1 = k
    · have e' : q.1 = k := h1.symm.trans e
      have b : atKey (q :: qs) k = some q.2 := by simp [atKey, List.find?_cons, e']
      rw [valV_pos e, b]; exact h2
    · have e' : ¬ q.1 = k := fun z => e (h1.trans z)
      have b : atKey (q :: qs) k = atKey qs k := by simp [atKey, List.find?_cons, e']
      rw [valV_neg e, b]; exact ih
theorem KT.repl {H : Hp} {kvs : List (List Key × V)} {xs : List (List Key × Addr × Value)} (r : KT H kvs xs) (k : List Key) {y : V} {u : Value} (ry : RelV y u) :
    KT H (kvs.map fun kv => if kv.1 = k then (kv.1, y) else kv) (xs.map (putAt k u)) := by
  induction r with
  | nil => exact .nil
  | @cons p q ps qs h t ih =>
    rw [List.map_cons, List.map_cons]
    refine .cons ?_ ih
    obtain ⟨h1, h2, h3⟩ := h
    unfold putAt
    by_cases e : p.1 = k
    · rw [if_pos e, if_pos (h1.symm.trans e)]; exact ⟨h1, h2, ry⟩
    · rw [if_neg e, if_neg (fun z => e (h1.trans z))]; exact ⟨h1, h2, h3⟩
theorem KT.put {H : Hp} {kvs : List (List Key × V)} {xs : List (List Key × Addr × Value)} (r : KT H kvs xs) (k : List Key) {b : Addr} {y : V} {u : Value} (hb : H b = some (.tup (k.map kV))) (ry : RelV y u) :
    KT H (putK kvs k y) (storedH xs k b u) := by
  have e : (kvs.any fun kv => decide (kv.1 = k)) = (atKey xs k).isSome := by
    rw [valV_any, (r.val k).isSome_eq, Option.isSome_map]
  unfold putK storedH
  rw [e]
  by_cases q : (atKey xs k).isSome = true
  · rw [if_pos q, if_pos q]; exact r.repl k ry
  · rw [if_neg q, if_neg q]; exact Paired.snoc r ⟨rfl, hb, ry⟩
theorem KT.keeps {H H' : Hp} {kvs : List (List Key × V)} {xs : List (List Key × Addr × Value)} (r : KT H kvs xs) (ht : ∀ b ys, H b = some (.tup ys) → H' b = some (.tup ys)) : KT H' kvs xs :=
  Paired.mapP r fun _ _ z => ⟨z.1, ht _ _ z.2.1, z.2.2⟩

section
variable {P : Program} {w : World} {H : Hp} {h : Heap} {a : Addr}
theorem rd_of {u : HO} (ok : HOk P w H h) (e : Rd H a u) : ObjOk P w H h a u := e.ok ok
theorem dk_rd {kvs : List (Key × V)} (ok : HOk P w H h) (e : Rd H a (.dK kvs)) : kvs.length ≤ sizeLine ∧ (a == sysModules) = false ∧ ∃ vs, KV kvs vs ∧ h.DictOf (mixKind P w) a vs :=
  show ObjOk P w H h a (.dK kvs) from rd_of ok e
theorem dk_of {kvs : List (Key × V)} (ok : HOk P w H h) (e : H a = some (.dK kvs)) : kvs.length ≤ sizeLine ∧ (a == sysModules) = false ∧ ∃ vs, KV kvs vs ∧ h.DictOf (mixKind P w) a vs := dk_rd ok (.inl e)
theorem key_of {ks : List Key} (ok : HOk P w H h) (e : H a = some (.tup (ks.map kV))) : (tupleKind (mixKind P w)).is h ks a := by
  obtain ⟨_, its, r, o, h1, h2, n, h3, _⟩ := (show ObjOk P w H h a (.tup (ks.map kV)) from ok a _ e)
  exact ⟨o, its.toArray, n, h1, h2, h3, by simpa using items_are r⟩
theorem dt_rd {kvs : List (List Key × V)} (ok : HOk P w H h) (e : Rd H a (.dT kvs)) : kvs.length ≤ sizeLine ∧ (a == sysModules) = false ∧
    ∃ xs, KT H kvs xs ∧ h.DictOfH (tupleKind (mixKind P w)) a xs := by
  obtain ⟨z, y, xs, r, o, es, ep, h1, h2, h3, h4, h5⟩ := (show ObjOk P w H h a (.dT kvs) from rd_of ok e)
  refine ⟨z, y, xs, r, o, es, ep, h1, h2, h3, h4, fun x hx => ?_, h5⟩
  have all : ∀ {l : List (List Key × V)} {m : List (List Key × Addr × Value)}, KT H l m → ∀ x ∈ m, (tupleKind (mixKind P w)).is h x.1 x.2.1 := by
    intro l m q
    induction q with
    | nil => intro x hx; exact nomatch hx
    | @cons p q ps qs hq t ih =>
      intro x hx
      rcases List.mem_cons.mp hx with e | hx
      · subst e
        exact key_of ok (by rw [← hq.1]; exact hq.2.1)
      · exact ih x hx
  exact all r x hx
theorem dt_of {kvs : List (List Key × V)} (ok : HOk P w H h) (e : H a = some (.dT kvs)) : kvs.length ≤ sizeLine ∧ (a == sysModules) = false ∧
    ∃ xs, KT H kvs xs ∧ h.DictOfH (tupleKind (mixKind P w)) a xs := dt_rd ok (.inl e)
end

noncomputable def DGet (H : Hp) (a : Addr) (y : V) (r : Option V) : Prop :=
  (∃ kvs k, Rd H a (.dK kvs) ∧ y = kV k ∧ r = valV kvs k) ∨ ∃ kvs k b, Rd H a (.dT kvs) ∧ y = .ref b ∧ H b = some (.tup (k.map kV)) ∧ r = valV kvs k
noncomputable def DPut (H : Hp) (a : Addr) (y v : V) (H' : Hp) : Prop :=
  (∃ kvs k, H a = some (.dK kvs) ∧ y = kV k ∧ kvs.length < sizeLine ∧ H' = upd H a (.dK (putK kvs k v))) ∨
  ∃ kvs k b, H a = some (.dT kvs) ∧ y = .ref b ∧ H b = some (.tup (k.map kV)) ∧ kvs.length < sizeLine ∧ H' = upd H a (.dT (putK kvs k v))
theorem DPut.k {H : Hp} {a : Addr} {kvs : List (Key × V)} {k : Key} {v : V} (e : H a = some (.dK kvs)) (hl : kvs.length < sizeLine) : DPut H a (kV k) v (upd H a (.dK (putK kvs k v))) := .inl ⟨kvs, k, e, rfl, hl, rfl⟩
section
variable {X : Cx} {pins : List (Addr × Obj)} {σ : St} {H : Hp} {s : Shared} {a : Addr} {y v : V} {u r : Value} {o : Option V} {A : Around} {E : Value → Shared → Prop}

theorem Inv.big (I : Inv X pins σ H s) : sysModules < s.heap.objs.size := by
  have h : mainGlobals < s.heap.objs.size := (I.mod.glob.keeps I.bk).lt
  exact Nat.lt_trans (by decide) h

theorem d_getItem {Q : Value → Shared → Prop} (hu : A.units + 1 < cLine) (I : Inv X pins σ H s) (g : DGet H a y (some v)) (ry : RelV y u) (h : ∀ w' s', Inv X pins σ H s' → RelV v w' → Q w' s') :
    wpAny (model X.prog X.w) A (getItem (.ref a) u) Q E s := by
  rcases g with ⟨kvs, k, e, ey, l⟩ | ⟨kvs, k, b, e, ey, eb, l⟩
  · subst ey
    obtain ⟨z, hd, vs, rel, dd⟩ := dk_rd I.hok e
    obtain ⟨w', hw, rw'⟩ := RelO.some_of (v := v) (o := valueAt vs k) (by rw [l]; exact rel.val k)
    exact wpAny_getItem_of (kV_is ry) dd.mapOf hw (h w' _ (I.tok _) rw')
  · subst ey
    cases (show u = Value.ref b from ry)
    obtain ⟨z, hd, xs, rel, dd⟩ := dt_rd I.hok e
    obtain ⟨w', hw, rw'⟩ := RelO.some_of (v := v) (o := (atKey xs k).map (·.2)) (by rw [l]; exact rel.val k)
    obtain ⟨p, hp, hp2⟩ := Option.map_eq_some_iff.mp hw
    refine wpAny_getItem_heap (tupleKind_room_in1 hu) (key_of I.hok eb) dd hp ?_
    rw [hp2]
    exact h w' _ (I.tok _) rw'
theorem d_write {h' : Heap} {t' : Nat} {ob : HO} (I : Inv X pins σ H s) (mu : Mut (H a)) (hs : Heap.SameBut a s.heap h') (he : ∃ q, h'.get? a = some q) (new : ObjOk X.prog X.w (upd H a ob) h' a ob) :
    Inv X pins σ (upd H a ob) { s with heap := h', toks := t' } :=
  I.write (x := a) (e := a) mu (.inl rfl) (fun b q hb z => (hs.2 b hb).trans z) he new
theorem dk_new {P : Program} {w : World} {H' : Hp} {h' : Heap} {kvs : List (Key × V)} {vs : List (Key × Value)} (z : kvs.length ≤ sizeLine) (hd : (a == sysModules) = false) (rel : KV kvs vs) (dd : h'.DictOf (mixKind P w) a vs) :
    ObjOk P w H' h' a (.dK kvs) := ⟨z, hd, vs, rel, dd⟩
theorem d_setItem {H' : Hp} {Q : Unit → Shared → Prop} (hu : A.units + 1 < cLine) (I : Inv X pins σ H s) (g : DPut H a y v H') (ry : RelV y u) (rv : RelV v r) (h : ∀ s', Inv X pins σ H' s' → Q () s') :
    wpAny (model X.prog X.w) A (setItem (.ref a) u r) Q E s := by
  rcases g with ⟨kvs, k, e, ey, l, eH⟩ | ⟨kvs, k, b, e, ey, eb, l, eH⟩
  · subst ey eH
    obtain ⟨z, hd, vs, rel, dd⟩ := dk_of I.hok e
    have hz : vs.length ≤ sizeLine := by rw [← rel.length]; exact z
    have hl : (putK kvs k v).length ≤ sizeLine := by have := length_putK kvs k v; omega
    refine wpAny_setItem_pairs (hsz := hz) (kV_is ry) dd fun h' dd' hs => h _ ?_
    have he : ∃ q, h'.get? a = some q := let ⟨q, _, _, hq, _⟩ := dd'; ⟨q, hq⟩
    exact d_write I (by rw [e]; exact True.intro) hs he (dk_new hl hd (rel.put k rv) dd')
  · subst ey eH
    cases (show u = Value.ref b from ry)
    obtain ⟨z, hd, xs, rel, dd⟩ := dt_of I.hok e
    have hz : xs.length ≤ sizeLine := by rw [← Paired.length rel]; exact z
    have hl : (putK kvs k v).length ≤ sizeLine := by have := length_putK kvs k v; omega
    refine wpAny_setItem_heap (hsz := hz) (tupleKind_room_in1 hu) (key_of I.hok eb) dd fun h' dd' hs => h _ ?_
    obtain ⟨q, es, ep, hq, h2, h3, h4, _, h5⟩ := dd'
    refine d_write I (by rw [e]; exact True.intro) hs ⟨q, hq⟩ ⟨hl, hd, _, (rel.put k eb rv).keeps fun c ys ec => ?_, q, es, ep, hq, h2, h3, h4, h5⟩
    rw [upd_ne (ne_of ec e (fun z => nomatch z))]
    exact ec
end

section
variable {X : Cx} {pins : List (Addr × Obj)} {σ : St} {H : Hp} {s : Shared} {a : Addr} {kvs : List (Key × V)} {k : Key} {u : Value} {A : Around} {E : Value → Shared → Prop}
end

noncomputable def NoSl (i : Expr) : Prop := ∀ ov iv, subscripted i false ov iv = operate [ov, iv] (getItem ov iv)
theorem subD_of {prog : Program} {w : World} {A : Around} {E : Value → Shared → Prop} {s : Shared} {env : Env} {value slice : Expr} {pos : Pos} {T id : String} {Q : Value → Shared → Prop}
    (hl : typeLookup (.type T) "__getitem__" = pure (some (.builtin id))) (hs : NoSl slice)
    (h : wpAny (model prog w) A (eval value env) (fun o s₁ => wpAny (model prog w) A (eval slice env) (fun i s₂ => s₂.TypeIs o T ∧ wpAny (model prog w) A (getItem o i) Q E s₂) E s₁) E s) :
    wpAny (model prog w) A (eval (.Subscript value slice pos) env) Q E s := by
  refine Subscript_ (wpAny_mono h (fun o s₁ h₁ => wpAny_mono h₁ (fun i s₂ h₂ => ?_) fun _ _ x => x) fun _ _ x => x)
  obtain ⟨hT, h₂⟩ := h₂
  unfold subscriptTail
  refine wpAny_bind ?_
  rw [getitemInPython_of_ne hT.not_modules]
  refine wpAny_bind (wpAny_specialOf hT hl ?_)
  have fin : wpAny (model prog w) A (subscripted slice false o i) (fun r s₃ => wpAny (model prog w) A (letTemporaryGo value o r >>= fun _ => pure r) Q E s₃) E s₂ := by
    rw [hs o i]
    exact wpAny_operating (wpAny_mono h₂ (fun r s₃ h₃ => wpAny_bind (wpAny_letTemporaryGo (wpAny_pure h₃))) fun _ _ x => x)
  first
    | exact wpAny_pure (wpAny_bind fin)
    | exact wpAny_bind (wpAny_pure (wpAny_bind fin))
    | exact wpAny_bind fin

theorem dict_typeIs {X : Cx} {pins : List (Addr × Obj)} {σ : St} {H : Hp} {s : Shared} {a : Addr} {y : V} {o : Option V} (I : Inv X pins σ H s) (g : DGet H a y o) : s.TypeIs (.ref a) "dict" := by
  rcases g with ⟨kvs, k, e, _, _⟩ | ⟨kvs, k, b, e, _, _, _⟩
  · obtain ⟨_, _, vs, _, dd⟩ := dk_rd I.hok e
    exact dd.typeIs
  · obtain ⟨_, _, xs, _, dd⟩ := dt_rd I.hok e
    exact dd.typeIs
noncomputable def tDGet (td ty : TE) : TE := fun σ H Q => td σ H fun x H1 => ty σ H1 fun y H2 => ∃ a v, x = .ref a ∧ DGet H2 a y (some v) ∧ Q v H2
noncomputable def sDPut (td ty tv : TE) : TS := fun D σ H => tv σ H fun v H1 => td σ H1 fun x H2 => ty σ H2 fun y H3 => ∃ a H4, x = .ref a ∧ DPut H3 a y v H4 ∧ D.nx σ H4
section
variable {X : Cx} {o i e value : Expr} {pos pos' tpos : Pos} {td ty tv : TE}
theorem pe_dget (hu : X.A.units + 1 < cLine) (ho : PE X o td) (hi : PE X i ty) (hs : NoSl i) : PE X (.Subscript o i pos) (tDGet td ty) := by
  intro pins s σ H Q I h
  refine subD_of PySem.F.slot_dict_getitem.lookup hs (thn (ho pins s σ H _ I h) fun u s1 ⟨x, H1, I1, rx, q1⟩ => thn (hi pins s1 σ H1 _ I1 q1) fun iv s2 ⟨y, H2, I2, ry, a, v, ex, g, q2⟩ => ?_)
  subst ex
  obtain rfl : u = Value.ref a := rx
  exact ⟨dict_typeIs I2 g, d_getItem hu I2 g ry fun w' s3 I3 rw' => ⟨v, H2, I3, rw', q2⟩⟩
theorem ps_dput (hu : X.A.units + 1 < cLine) (ho : PE X o td) (hi : PE X i ty) (hv : PE X value tv) (hs : swapsWith value (some (.Subscript o i pos')) pos.line X.env = pure false) :
    PS X (.Assign [.Subscript o i pos'] value pos) (sDPut td ty tv) := by
  intro pins s σ H D I h
  refine wpAny_Assign_Subscript (thn (hv pins s σ H _ I h) fun r s1 ⟨v, H1, I1, rv, q1⟩ => thn (ho pins s1 σ H1 _ I1 q1) fun u s2 ⟨x, H2, I2, rx, q2⟩ => thn (hi pins s2 σ H2 _ I2 q2) fun iv s3 ⟨y, H3, I3, ry, a, H4, ex, g, q3⟩ => ?_) hs
  subst ex
  obtain rfl : u = Value.ref a := rx
  exact d_setItem hu I3 g ry rv fun s4 I4 => ⟨σ, H4, I4, q3⟩
end

theorem dk_empty {P : Program} {w : World} {H : Hp} (h : Heap) (hb : sysModules < h.objs.size) : ObjOk P w H (h.push { cls := .type "dict", data := .dict #[] }) h.objs.size (.dK []) :=
  ⟨Nat.zero_le _, beq_eq_false_iff_ne.mpr (Ne.symm (Nat.ne_of_lt hb)), [], .nil, Heap.DictOf.new h⟩
noncomputable def tDNewK : TE := fun _ H Q => ∀ p, H p = none → Q (.ref p) (upd H p (.dK []))
section
variable {X : Cx} {pos : Pos}
theorem pe_dnewK : PE X (.Dict [] [] pos) tDNewK := fun pins s σ H Q I h =>
  wpAny_Dict_empty ⟨.ref s.heap.objs.size, _, I.laid (a := s.heap.objs.size) (o := .dK []) (t' := s.toks) (fun _ _ q => Heap.get?_push_of_some _ q) (Nat.le_refl _) (dk_empty s.heap I.big), rfl, h _ (I.hok.fresh (Nat.le_refl _))⟩
end

section
variable {X : Cx} {pins : List (Addr × Obj)} {σ : St} {H : Hp} {s : Shared} {a : Addr} {y d : V} {u r : Value} {o : Option V} {A : Around} {E : Value → Shared → Prop}
end

section
variable {X : Cx} {o e f : Expr} {apos cpos : Pos} {td ty tx : TE}
end

section
variable {X : Cx} {pins : List (Addr × Obj)} {σ : St} {H : Hp} {s : Shared} {a : Addr} {kvs : List (Key × V)} {A : Around} {E : Value → Shared → Prop}
end

section
variable {X : Cx} {pins : List (Addr × Obj)} {σ : St} {H : Hp} {s : Shared} {a : Addr} {y : V} {u : Value} {A : Around} {E : Value → Shared → Prop}
end
end L2

namespace Att
open PySem PySem.W PySem.Calls PyProof.Rows

theorem ints_of_wellAll {P : Params} {h : Heap} : ∀ (ns : List Int) (vs : List Value), WellAll P h vs (ns.map WData.int) → IntsAre vs ns := by
  intro ns
  induction ns with
  | nil =>
    intro vs w
    rw [List.map_nil] at w
    cases w
    exact .nil
  | cons n ns ih =>
    intro vs w
    rw [List.map_cons] at w
    cases w with
    | cons a b =>
      cases a
      exact .cons _ _ (ih _ b)

theorem script_of {l : OpenLaw} {n : Nat} (hn : l.most = some n) {P : Params} {h : Heap} {args : List WData} {vals : List Value}
    (hpre : l.row.toRowW.claim.pre args = true) (hwl : WellAll P h vals args) :
    ∃ a vs ns, vals = [Value.ref a] ∧ args = [WData.list (ns.map WData.int)] ∧ h.get? a = some { cls := .type "list", data := .seq vs.toArray } ∧ IntsAre vs ns ∧ ns.length ≤ n := by
  have hsh : WShape.hasAll [] args [.list .int] = true := (pre_splitW hpre).1
  have hc : l.pre.holds [] { args := args } = true := (pre_splitW hpre).2
  obtain ⟨d, r, rfl, h1, h2⟩ := hasAllW_cons hsh
  obtain rfl := hasAllW_nil h2
  obtain ⟨xs, rfl, h3⟩ := hasW_list h1
  obtain ⟨ns, rfl⟩ := items_int h3
  have hlen : ns.length ≤ n := by
    unfold OpenLaw.pre at hc
    have h4 : (WTm.not (.lt (.lit (.int (n : Int))) (.len (.arg 0)))).holds [] { args := [.list (ns.map .int)] } = true := by
      have h4 := (holds_andW hc).1
      rw [hn] at h4
      exact h4
    have h5 := condW_of h4 (w_not (w_lt w_lit (w_len_list (w_arg rfl))))
    rw [List.length_map] at h5
    refine Nat.le_of_not_lt fun q => ?_
    have q' : (n : Int) < ((ns.length : Nat) : Int) := by omega
    first
      | (rw [decide_eq_true q'] at h5; exact absurd h5 (by decide))
      | (simp at h5; omega)
  cases hwl with
  | cons w1 w2 =>
    cases w2
    cases w1 with
    | list ho hall => exact ⟨_, _, ns, rfl, rfl, ho, ints_of_wellAll ns _ hall, hlen⟩

theorem post_true (l : OpenLaw) (args : List WData) : l.row.toRowW.claim.post args (.bool true) args = true :=
  postW_of (r := l.row.toRowW) (X := (true == true))
    (show WShape.has [] (.bool true) .bool = true by first | rfl | decide | simp [WShape.has, WShape.arms, WShape.armsAll])
    (show (WTm.eq .res (.lit (.bool true))).value [] { args := args, res := some (.bool true), after := args } = some (.bool (true == true)) from w_eq_bool (w_res rfl) w_lit) rfl

theorem attach_call {l : OpenLaw} {n : Nat} {q : Program} {loose : List Str} {XP : (Str → Option Value) → Heap → Prop} {YP : World → Heap → Prop} {d : DefRec}
    (hn : l.most = some n) (hdf : d.params.defaults = [])
    (call : ∀ (w : World) (s₀ s₁ : Shared) (mg mb : Str → Option Value) (fa : Addr) (o : Obj) (pm cd doc : Value) (a : Addr) (vs : List Value) (ns : List Int),
      Ground q loose [] XP w s₀ mg mb s₁.heap → YP w s₁.heap →
      s₁.heap.get? fa = some o → o.data = .func (docDef d.name d.params d.body d.scope pm cd doc) → s₁.heap.CodeRec cd d.name → mg d.name = some (.ref fa) →
      s₁.heap.get? a = some { cls := .type "list", data := .seq vs.toArray } → IntsAre vs ns → ns.length ≤ n → s₁.gens = #[] →
      codeAny (model l.prog w) callerA (.call (.ref fa) ⟨[.ref a], []⟩) (fun r s' => r = .ok (.ret (.bool true)) ∧ OldK s₁.heap s'.heap ∧ s'.os = s₁.os ∧ AllBare s'.gens) s₁) :
    WalkO q loose XP YP l.row.toRowW d [] (fun f vs => PySem.call f vs) := by
  intro w s₀ s₁ mg mb G Y fa o pm cd doc dV kV ho hd hcd hD hmg hg args vals as hpre hlay hrd hwl hlo
  obtain rfl : dV = .none := Dflts.none hD hdf
  obtain rfl : kV = .none := Dflts.noKw hD
  obtain ⟨a, vs, ns, rfl, rfl, hobj, hints, hlen⟩ := script_of hn hpre hwl
  refine enter_call (codeAny_mono (call w s₀ s₁ mg mb fa o pm cd doc a vs ns G Y ho (fd_plain hd) hcd hmg hobj hints hlen hg) fun r s' hq => ?_)
  obtain ⟨rfl, h2, h3, h4⟩ := hq
  exact ⟨.inl ⟨.bool true, .bool true, [], rfl, fun _ => rfl, .bool true, post_true l _, fun _ => ⟨List.Pairwise.nil, fun _ hm => (nomatch hm)⟩⟩, h2, h3, h4⟩

section
variable {prog : Program} {w : World} {A : Around} {E : Value → Shared → Prop} {s : Shared} {K : Frag}

end
end Att

namespace L2
open PySem PySem.Spec PyProof.Rows

theorem vals_ints : ∀ {vs : List Value} {ns : List Int}, IntsAre vs ns → Vals (ns.map V.int) vs
  | _, _, .nil => .nil
  | _, _, .cons n t h => .cons ⟨t, rfl⟩ (vals_ints h)

noncomputable def Only (H : Hp) : Prop := ∀ b, H b = none ∨ ∃ o xs, H b = some (.frz o (.lst xs))

theorem law_call {P : Program} {w : World} {K : PySem.W.Frag} {mg mb : Str → Option Value} {CX : CXT} {k : Nat} {fa a : Addr} {fd : FuncData} {x : Str} {sp : Sp} {s₁ : Shared} {vs : List Value} {ns : List Int}
    (KX : K.In s₁.heap) (hns : s₁.heap.Ns mainGlobals mg) (hb : s₁.heap.Ns builtinsNs mb) (hbb : ∀ x : Str, x ≠ "__name__" → mb x = bootBuiltins x) (hlim : s₁.heap.NoLimit) (hg : s₁.gens = #[])
    (ha : s₁.heap.get? a = some { cls := .type "list", data := .seq vs.toArray }) (hi : IntsAre vs ns) (hl : ns.length ≤ sizeLine) (hr : Room k callerA)
    (F : ∀ base : Heap, K.In base → base.Ns mainGlobals mg → FnOk P w K mg base CX k fa fd [x] sp) (hbind : ∀ (s : Shared) (u : Value), BindsTo s fd ⟨[u], []⟩ [(x, u)])
    (hsp : ∀ H : Hp, Only H → SqL K H a (ns.map V.int) → sp [.ref a] H (fun v _ => v = .bl true) fun _ _ _ => False)
    (hCX : ∀ H e s', CX [] H s₁ (fun _ _ _ => False) e s' → False) :
    codeAny (model P w) callerA (.call (.ref fa) ⟨[.ref a], []⟩) (fun r s' => r = .ok (.ret (.bool true)) ∧ OldK s₁.heap s'.heap ∧ s'.os = s₁.os ∧ AllBare s'.gens) s₁ := by
  have rv := vals_ints hi
  have lenV := hi.length
  -- from an abstract heap in which nothing but the script may be tracked
  have core : ∀ H : Hp, Only H → SqL K H a (ns.map V.int) → HOk P w H s₁.heap → (∀ b, H b ≠ none → b = a) → (H a ≠ none → K.lookup a = none) →
      codeAny (model P w) callerA (.call (.ref fa) ⟨[.ref a], []⟩) (fun r s' => r = .ok (.ret (.bool true)) ∧ OldK s₁.heap s'.heap ∧ s'.os = s₁.os ∧ AllBare s'.gens) s₁ := by
    intro H hO hS hok hA hK
    have base_of : ∀ {b : Addr} {o : Obj}, s₁.heap.get? b = some o → H b = none → (hidT s₁.heap H).get? b = some o := fun e n => hidT_get e n
    have noA : ∀ {b : Addr} {o : Obj} {es : Array DictEntry} {ep : Nat}, s₁.heap.get? b = some o → o.data = .dict es ep → H b = none := fun {b o es ep} e d => by
      cases q : H b with
      | none => rfl
      | some u =>
        have e' : b = a := hA b (by rw [q]; simp)
        subst e'
        rw [ha] at e; cases e
        have d' : Data.seq vs.toArray _ = Data.dict es ep := d
        cases d'
    have nsK : ∀ {b : Addr} {m : Str → Option Value}, s₁.heap.Ns b m → (hidT s₁.heap H).Ns b m := fun {b m} ⟨o, es, ep, e, d, r⟩ => ⟨o, es, ep, base_of e (noA e d), d, r⟩
    have hKb : K.In (hidT s₁.heap H) := fun b o e => base_of (KX b o e) (by
      cases q : H b with
      | none => rfl
      | some u =>
        have e' : b = a := hA b (by rw [q]; simp)
        subst e'
        rw [hK (by rw [q]; simp)] at e; cases e)
    have hM : Mod K mg (hidT s₁.heap H) := ⟨hKb, nsK hns, ⟨mb, nsK hb, hbb⟩, let ⟨mc, h1, h2⟩ := hlim; ⟨mc, nsK h1, h2⟩⟩
    have e0 : Env0 P w K mg (hidT s₁.heap H) callerA [] s₁ H := ⟨rfl, hM, fun b o e => of_hidT e, Nat.le_of_eq (hidT_size _ _), trivial, fun b hb => absurd (show b ∈ ([] : List Addr) from hb) (by simp), hok, .of_eq hg⟩
    refine codeAny_mono ((F _ hKb (nsK hns)).run callerA [] s₁ H ⟨[.ref a], []⟩ [.ref a] [.ref a] _ _ hr e0 (hbind s₁ (.ref a)) (.cons rfl .nil) (hsp H hO hS)) fun r s' h => ?_
    cases r with
    | error e => exact (hCX H e s' h).elim
    | ok fl =>
      cases fl with
      | next => exact False.elim h
      | brk => exact False.elim h
      | cont => exact False.elim h
      | ret u =>
        obtain ⟨v, H', os, bare, un, hok', r', q⟩ := h
        have q' : v = .bl true := q
        subst q'
        obtain rfl : u = Value.bool true := r'
        refine ⟨rfl, OldK.of_keep fun b o e => ?_, os, bare⟩
        cases q : H b with
        | none => exact un.keep b o e q (by intro z; exact absurd (show b ∈ ([] : List Addr) from z) (by simp)) (by simp)
        | some u =>
          rcases hO b with z | ⟨ob, xs, z⟩
          · rw [q] at z; cases z
          · have z2 := un.frzs b ob _ z
            obtain ⟨e1, _⟩ := hok b _ z
            obtain ⟨e2, _⟩ := hok' b _ z2
            rw [e] at e1; cases e1
            exact e2
  cases hk : K.lookup a with
  | some o =>
    -- the script is one of the module's own objects
    have e := KX a o hk
    rw [ha] at e
    cases e
    refine core (fun _ => none) (fun _ => .inl rfl) (.inr ⟨_, vs.toArray, _, hk, rfl, rfl, rfl, by rw [List.size_toArray, lenV]; exact hl, by simpa using rv⟩) (fun b u z => by have z' : (none : Option HO) = some u := z; cases z') (fun b z => absurd rfl z) fun z => absurd rfl z
  | none =>
    refine core (fun b => if b = a then some (.frz { cls := .type "list", data := .seq vs.toArray } (.lst (ns.map V.int))) else none) (fun b => ?_) (.inl (.inr ⟨{ cls := .type "list", data := .seq vs.toArray }, if_pos rfl⟩)) (fun b u z => ?_) (fun b z => ?_) fun _ => hk
    · by_cases hb : b = a
      · exact .inr ⟨_, _, if_pos hb⟩
      · exact .inl (if_neg hb)
    · by_cases hb : b = a
      · have z' := (if_pos hb).symm.trans z
        cases z'
        subst hb
        exact ⟨ha, by rw [List.length_map]; exact hl, vs, _, rv, ha⟩
      · have z' := (if_neg hb).symm.trans z
        cases z'
    · by_cases hb : b = a
      · exact hb
      · exact absurd (if_neg hb) z
end L2

namespace L2
open PySem PySem.Spec PyProof.Rows

theorem walk_of {l : PySem.W.OpenLaw} {n k : Nat} {q : Program} {loose : List Str} {XP : (Str → Option Value) → Heap → Prop} {YP : World → Heap → Prop} {d : DefRec} {K : Params → PySem.W.Frag} {CX : World → CXT} {sp : World → Sp} {x : Str}
    (hn : l.most = some n) (hn2 : n ≤ sizeLine) (hdf : d.params.defaults = []) (hr : Room k callerA)
    (hY : ∀ (w : World) (h : Heap), YP w h → (K w.params).In h)
    (F : ∀ (w : World) (mg : Str → Option Value) (fa : Addr) (h : Heap), (K w.params).In h → h.Ns mainGlobals mg → mg d.name = some (.ref fa) →
      ∃ fd : FuncData, (∀ (s : Shared) (u : Value), BindsTo s fd ⟨[u], []⟩ [(x, u)]) ∧
        ∀ base : Heap, (K w.params).In base → base.Ns mainGlobals mg → FnOk l.prog w (K w.params) mg base (CX w) k fa fd [x] (sp w))
    (hsp : ∀ (w : World) (H : Hp) (a : Addr) (ns : List Int), ns.length ≤ n → Only H → SqL (K w.params) H a (ns.map V.int) → sp w [.ref a] H (fun v _ => v = .bl true) fun _ _ _ => False)
    (hCX : ∀ (w : World) (H : Hp) (s : Shared) (e : Value) (s' : Shared), CX w [] H s (fun _ _ _ => False) e s' → False) :
    PySem.W.WalkO q loose XP YP l.row.toRowW d [] (fun f vs => PySem.call f vs) := by
  refine Att.attach_call hn hdf fun w s₀ s₁ mg mb fa o pm cd doc a vs ns G Y ho hd hcd hmg hobj hints hlen hg => ?_
  have KX := hY w _ Y
  obtain ⟨fd, hb, hF⟩ := F w mg fa _ KX G.T.g hmg
  exact law_call KX G.T.g G.T.b G.T.builtins G.T.nolimit hg hobj hints (Nat.le_trans hlen hn2) hr hF hb (fun H hO hS => hsp w H a ns hlen hO hS) fun H e s' => hCX w H s₁ e s'
end L2

namespace L2
open PySem PySem.Spec PyProof.Rows

noncomputable def defArgs (s : Stmt) : Arguments := match s with
  | .FunctionDef _ a _ _ _ _ _ _ _ _ => a
  | _ => { posonlyargs := [], args := [], vararg := none, kwonlyargs := [], kw_defaults := [], kwarg := none, defaults := [] }
noncomputable def defBody (s : Stmt) : List Stmt := match s with
  | .FunctionDef _ _ b _ _ _ _ _ _ _ => b
  | _ => []
noncomputable def defScope (s : Stmt) : Scope := match s with
  | .FunctionDef _ _ _ _ _ _ sc _ _ _ => sc
  | _ => { kind := .function, names := [], isGenerator := false, isCoroutine := false }

noncomputable abbrev CX0 : CXT := fun _ _ _ _ _ _ => False
noncomputable abbrev E0 : XK := fun _ _ _ => False
theorem pass0 {X : Cx} : Passes CX0 X E0 := fun _ _ _ _ _ _ _ h => h.elim

structure Fun (K : PySem.W.Frag) (x qual : Str) (st : Stmt) (f : Addr) (fd : FuncData) : Prop where
  ex : ∃ (oc : Value) (od : Option Addr) (kV doc pm : Value) (an : Option Addr) (cdv ct : Value) (osl : Array (Option Value)),
    fd = PySem.W.fnOf x qual (defArgs st) (defBody st) (defScope st) .none kV doc pm an cdv ct ∧ K.lookup f = some ⟨oc, od, .func fd, osl⟩ ∧ PySem.W.codeIn K cdv qual = true
  kp : PySem.W.keepIn K (.ref f) = true
section
variable {P : Program} {w : World} {K : PySem.W.Frag} {mg : Str → Option Value} {base : Heap}
theorem Fun.ok {x qual : Str} {st : Stmt} {f : Addr} {fd : FuncData} {N ps : List Str} {k : Nat} {sp : Sp} (F : Fun K x qual st f fd) (S : FnScope N ps (defScope st)) (len : ∀ vs H Q E, sp vs H Q E → vs.length = ps.length)
    (hbody : ∀ (cdv : Value) (A : Around) (outer : List Env) (s : Shared) (H : Hp) (vs : List V) (Q : VK) (E : XK), Room k (A.deeper (envOfC qual (defScope st) s.heap.objs.size f cdv)) → sp vs H Q E →
      ∃ t, PSs (cxOf CX0 P w K mg base N qual (defScope st) f cdv A outer s H E).nox (defBody st) t ∧ t { nx := fun _ H' => Q .non H', rt := Q } (start N vs) H) : FnOk P w K mg base CX0 (k + 1) f fd ps sp := by
  obtain ⟨oc, od, kV, doc, pm, an, cdv, ct, osl, rfl, lk, hcd⟩ := F.ex
  refine fn_of lk hcd S len fun A outer s H vs Q E hr hsp => ?_
  obtain ⟨t, h, q⟩ := hbody cdv A outer s H vs Q E hr hsp
  exact ⟨t, h.nox, q⟩
theorem Fun.binds {x qual : Str} {st : Stmt} {f : Addr} {fd : FuncData} {ps : List Str} (F : Fun K x qual st f fd)
    (h : ∀ (kV doc pm : Value) (an : Option Addr) (cdv ct : Value) (us : List Value), us.length = ps.length → bindArgs (PySem.W.fnOf x qual (defArgs st) (defBody st) (defScope st) .none kV doc pm an cdv ct) ⟨us, []⟩ = pure (ps.zip us)) : Binds K fd ps [] := by
  obtain ⟨oc, od, kV, doc, pm, an, cdv, ct, osl, rfl, lk, hcd⟩ := F.ex
  exact .all (h kV doc pm an cdv ct)
theorem fun_mk {x qual : Str} {st : Stmt} {f : Addr} {oc : Value} {od an : Option Addr} {osl : Array (Option Value)} {kV doc pm cdv ct : Value} (l : K.lookup f = some ⟨oc, od, .func (PySem.W.fnOf x qual (defArgs st) (defBody st) (defScope st) .none kV doc pm an cdv ct), osl⟩)
    (c : PySem.W.codeIn K cdv qual = true) (k : PySem.W.keepIn K (.ref f) = true) : Fun K x qual st f (PySem.W.fnOf x qual (defArgs st) (defBody st) (defScope st) .none kV doc pm an cdv ct) := ⟨⟨oc, od, kV, doc, pm, an, cdv, ct, osl, rfl, l, c⟩, k⟩
end
theorem hu_of {A : Around} {k : Nat} (hr : Room k A) : A.units + 1 < cLine := Nat.lt_of_le_of_lt (Nat.add_le_add_left (by decide : 1 ≤ 64) _) hr.units
section
variable {X : Cx}
theorem pv (i : Nat) {x : Str} {pos : Pos} (hN : X.N[i]? = some x := by rfl) (hv : Vis X.env.scope x := by first | exact Or.inl rfl | exact Or.inr (Or.inl rfl) | exact Or.inr (Or.inr rfl)) (hd : (x == ("__debug__" : Str)) = false := by decide)
    (hcd : (x == ("__classdict__" : Str)) = false := by decide) : PE X (.Name x pos) (tVar i) := pe_var hN hv hd hcd
end

theorem iteF {A B : Prop} (h : B) : if false = true then A else B := by
  rw [if_neg Bool.false_ne_true]
  exact h
theorem iteT {A B : Prop} (h : A) : if true = true then A else B := by
  rw [if_pos rfl]
  exact h
theorem ite2 {c A B : Prop} [Decidable c] (h1 : c → A) (h2 : ¬ c → B) : if c then A else B := by
  by_cases h : c
  · rw [if_pos h]
    exact h1 h
  · rw [if_neg h]
    exact h2 h
noncomputable def Same (H H' : Hp) : Prop := ∀ b o, H b = some o → H' b = some o
theorem Same.refl (H : Hp) : Same H H := fun _ _ h => h
theorem Same.trans {H H1 H2 : Hp} (a : Same H H1) (b : Same H1 H2) : Same H H2 := fun c o h => b c o (a c o h)
theorem Same.free {H H' : Hp} (e : Same H H') {l : Addr} (h : H' l = Option.none) : H l = Option.none := by
  cases q : H l with
  | none => rfl
  | some o =>
    rw [e l o q] at h
    cases h
theorem Same.seq {K : PySem.W.Frag} {H H' : Hp} {a : Addr} {xs : List V} (e : Same H H') (h : SqL K H a xs) : SqL K H' a xs := by
  rcases h with (h | ⟨o, h⟩) | h
  · exact .inl (.inl (e _ _ h))
  · exact .inl (.inr ⟨o, e _ _ h⟩)
  · exact .inr h

end L2

namespace L2
open PySem PySem.Spec PyProof.Rows
section
variable {X : Cx}
end
section
variable {κ : Type} [DecidableEq κ]
end
end L2

namespace L2
open PySem PySem.Spec PyProof.Rows

theorem closure_of {scope : Scope} {env : Env} (h : ∀ p ∈ scope.names, p.2 = .free → ∃ c, env.cells.lookup p.1 = some c) :
    ∃ cl, closureFor scope env = pure cl ∧ (∀ x c, cl.lookup x = some c → env.cells.lookup x = some c) ∧ (∀ p ∈ scope.names, p.2 = .free → ∃ c, cl.lookup p.1 = some c) := by
  have key : ∀ (names : List (Str × NameKind)) (acc : List (Str × Addr)), (∀ p ∈ names, p.2 = .free → ∃ c, env.cells.lookup p.1 = some c) → (∀ x c, acc.lookup x = some c → env.cells.lookup x = some c) →
      ∃ cl, (forIn names acc (fun (x : Str × NameKind) (r : List (Str × Addr)) => (if (x.2 == NameKind.free) = true then (do let a ← cellOf env x.1; pure (ForInStep.yield ((x.1, a) :: r))) else pure (ForInStep.yield r) : Sem (ForInStep (List (Str × Addr))))) : Sem (List (Str × Addr))) = pure cl ∧
        (∀ x c, cl.lookup x = some c → env.cells.lookup x = some c) ∧ (∀ x c, acc.lookup x = some c → ∃ c, cl.lookup x = some c) ∧ (∀ p ∈ names, p.2 = .free → ∃ c, cl.lookup p.1 = some c) := by
    intro names
    induction names with
    | nil => intro acc _ ha; exact ⟨acc, rfl, ha, fun x c e => ⟨c, e⟩, fun p hp => by cases hp⟩
    | cons p r ih =>
      intro acc hn ha
      obtain ⟨n, k⟩ := p
      by_cases hk : k = .free
      · subst hk
        obtain ⟨c, hc⟩ := hn (n, .free) List.mem_cons_self rfl
        have ha' : ∀ x d, ((n, c) :: acc).lookup x = some d → env.cells.lookup x = some d := fun x d e => by
          rw [List.lookup_cons] at e
          cases hx : x == n with
          | true => rw [hx] at e; cases e; rw [eq_of_beq hx]; exact hc
          | false => rw [hx] at e; exact ha x d e
        obtain ⟨cl, e, h1, h2, h3⟩ := ih ((n, c) :: acc) (fun p hp => hn p (List.mem_cons_of_mem _ hp)) ha'
        have hcell : cellOf env n = pure c := by unfold cellOf; rw [hc]
        refine ⟨cl, ?_, h1, fun x d ex => ?_, fun p hp hf => ?_⟩
        · rw [List.forIn_cons]
          show (if (NameKind.free == NameKind.free) = true then (do let a ← cellOf env n; pure (ForInStep.yield ((n, a) :: acc))) else _) >>= _ = _
          rw [if_pos (show (NameKind.free == NameKind.free) = true from rfl), hcell]
          exact e
        · cases hx : x == n with
          | true => exact h2 x c (by rw [List.lookup_cons, hx])
          | false => exact h2 x d (by rw [List.lookup_cons, hx]; exact ex)
        · rcases List.mem_cons.mp hp with rfl | hp
          · exact h2 n c (by rw [List.lookup_cons, beq_self_eq_true])
          · exact h3 p hp hf
      · obtain ⟨cl, e, h1, h2, h3⟩ := ih acc (fun p hp => hn p (List.mem_cons_of_mem _ hp)) ha
        refine ⟨cl, ?_, h1, h2, fun p hp hf => ?_⟩
        · rw [List.forIn_cons]
          show (if (k == NameKind.free) = true then _ else _) >>= _ = _
          rw [if_neg (by simpa using hk)]
          exact e
        · rcases List.mem_cons.mp hp with rfl | hp
          · exact absurd hf hk
          · exact h3 p hp hf
  obtain ⟨cl, e, h1, _, h3⟩ := key scope.names [] h (fun x c e => by cases e)
  refine ⟨cl, ?_, h1, h3⟩
  show (forIn scope.names [] _ >>= fun r => pure r) = pure cl
  rw [bind_pure]
  exact e

theorem look_self {α : Type} (x : Str) (k : α) (l : List (Str × α)) : List.lookup x ((x, k) :: l) = some k := by rw [List.lookup_cons, beq_self_eq_true]
theorem look_next {α : Type} {x n : Str} (k : α) (l : List (Str × α)) (h : (x == n) = false) : List.lookup x ((n, k) :: l) = List.lookup x l := by rw [List.lookup_cons, h]
theorem lookup_relabel {env : Env} {x : Str} : ∀ (names : List (Str × NameKind)),
    (names.map fun (n, k) => if (k == NameKind.free && env.scope.kind == .function && env.kindOf n == some .cell) then (n, NameKind.cell) else (n, k)).lookup x =
      (names.lookup x).map fun k => if (k == NameKind.free && env.scope.kind == .function && env.kindOf x == some .cell) then NameKind.cell else k
  | [] => rfl
  | (n, k) :: r => by
    have ih := @lookup_relabel env x r
    show List.lookup x ((if (k == NameKind.free && env.scope.kind == .function && env.kindOf n == some .cell) = true then (n, NameKind.cell) else (n, k)) :: _) = _
    cases hx : x == n with
    | true =>
      have e : x = n := eq_of_beq hx
      subst e
      rw [look_self]
      by_cases hc : (k == NameKind.free && env.scope.kind == .function && env.kindOf x == some .cell) = true
      · rw [if_pos hc, look_self]
        show _ = some (if (k == NameKind.free && env.scope.kind == .function && env.kindOf x == some .cell) = true then NameKind.cell else k)
        rw [if_pos hc]
      · rw [if_neg hc, look_self]
        show _ = some (if (k == NameKind.free && env.scope.kind == .function && env.kindOf x == some .cell) = true then NameKind.cell else k)
        rw [if_neg hc]
    | false =>
      rw [look_next _ _ hx]
      by_cases hc : (k == NameKind.free && env.scope.kind == .function && env.kindOf n == some .cell) = true
      · rw [if_pos hc, look_next _ _ hx]; exact ih
      · rw [if_neg hc, look_next _ _ hx]; exact ih

noncomputable def cxC (X : Cx) (scope : Scope) (cl : List (Str × Addr)) (N : List Str) (fp : List Addr) (s : Shared) (H : Hp) : Cx where
  prog := X.prog
  w := X.w
  K := X.K
  mg := X.mg
  base := X.base
  A := X.A
  N := N
  s₀ := s
  H₀ := H
  env := compEnvC scope cl s.heap.objs.size X.env
  outer := X.stack
  stack := X.stack
  ex := fp
  fn := fun _ => false
  calm := X.calm
  pn := []
  xe := fun _ _ => False

noncomputable def PTs (X : Cx) (ifs : List Expr) (t : TT) : Prop :=
  ∀ (pins : List (Addr × Obj)) (s : Shared) (σ : St) (H : Hp) (Q : Bool → Hp → Prop), Inv X pins σ H s → t σ H Q →
    wpAny (model X.prog X.w) X.A (forIn ifs true fun c r => if r = true then do let ok ← isTrue c X.env (eval c X.env); pure (ForInStep.yield ok) else pure (ForInStep.yield r)) (TP X pins σ Q) X.xe s
noncomputable def tYes : TT := fun _ H Q => Q true H
theorem pts_nil {X : Cx} : PTs X [] tYes := fun _ _ _ H _ I h => wpAny_tests_nil ⟨H, I, h⟩
noncomputable def frees (js : List Nat) (σ : St) : St := js.map fun j => σ.getD j none
noncomputable abbrev stC (k : Nat) (js : List Nat) (σ : St) : St := List.replicate k none ++ frees js σ

noncomputable def rdC (k : Nat) (js : List Nat) (g : TG) (tt : TT) (te : TE) (J : It) (σ : St) (H1 : Hp) (Q : VK) : Prop := ∀ D, H1 D = none →
  ∃ W : Nat → Nat → List V → Hp → Prop, (∃ m, W 0 m [] (upd H1 D (.lst []))) ∧ ∀ i m ys H2, W i m ys H2 → H2 D = some (.lst ys) ∧
    ((J.stop i H2 ∧ Q (.ref D) H2) ∨ (J.go i H2 ∧ ∀ x H3, J.yld i H2 x H3 → g x (stC k js σ) H3 fun σ4 H4 => (∃ ow : St, ow.length = k ∧ σ4 = ow ++ frees js σ) ∧
      tt σ4 H4 fun b H5 => if b = true then te σ4 H5 fun y H6 => H6 D = some (.lst ys) ∧ ys.length < sizeLine ∧ ∃ m', m' < m ∧ W (i + 1) m' (ys ++ [y]) (upd H6 D (.lst (ys ++ [y])))
        else ∃ m', m' < m ∧ W (i + 1) m' ys H5))
noncomputable def tComp (k : Nat) (js : List Nat) (wi : TI) (g : TG) (tt : TT) (te : TE) : TE := fun σ H Q => wi σ H fun J H1 => rdC k js g tt te J σ H1 Q

structure CompOk (sc : Scope) (N0 : List Str) (scope : Scope) (N : List Str) (k : Nat) (js : List Nat) : Prop where
  kind : scope.kind = .function
  cell : ∀ y ∈ scope.names, y.2 ≠ .cell
  names : ∀ y ∈ scope.names, y.2 = .local → scope.names.lookup y.1 = some .local
  free : ∀ p ∈ scope.names, p.2 = .free → sc.names.lookup p.1 = some .cell ∨ sc.names.lookup p.1 = some .free
  fn : ∀ x ∈ N.drop k, scope.names.lookup x = some .free
  at' : js.map (fun j => N0[j]?) = (N.drop k).map some
  le : k ≤ N.length
  nd : N.Nodup

theorem mem_of_look {names : List (Str × NameKind)} {x : Str} {k : NameKind} (h : names.lookup x = some k) : (x, k) ∈ names := PySem.mem_of_lookup h

section
variable {X : Cx} {elt tg iter : Expr} {ifs : List Expr} {scope : Scope} {cpos : Pos} {N : List Str} {k : Nat} {js : List Nat} {cl : List (Str × Addr)} {g : TG} {tt : TT} {te : TE}

theorem inv_block {pins : List (Addr × Obj)} {σ : St} {H : Hp} {s : Shared} {fp : List Addr} {h₁ : Heap} {t' : Nat} {m : Str → Option Value} (C : CompOk X.env.scope X.N scope N k js)
    (hcl1 : ∀ x c, cl.lookup x = some c → X.env.cells.lookup x = some c) (hcl2 : ∀ p ∈ scope.names, p.2 = .free → ∃ c, cl.lookup p.1 = some c)
    (I : Inv X pins σ H s) (f2 : ∀ b ∈ fp, FpOk X pins H b) (flt : ∀ b ∈ fp, b < s.heap.objs.size) (hns : h₁.Ns s.heap.objs.size m) (keep : ∀ b o, s.heap.get? b = some o → h₁.get? b = some o) :
    Inv (cxC X scope cl N fp s H) [] (stC k js σ) H { s with heap := h₁, toks := t' } := by
  have relk : ∀ x, (cxC X scope cl N fp s H).env.kindOf x = (scope.names.lookup x).map fun k => if (k == NameKind.free && X.env.scope.kind == .function && X.env.kindOf x == some .cell) then NameKind.cell else k := fun x => lookup_relabel scope.names
  have wasfree : ∀ x, ((cxC X scope cl N fp s H).env.kindOf x = some .cell ∨ (cxC X scope cl N fp s H).env.kindOf x = some .free) → scope.names.lookup x = some .free := fun x hx => by
    rw [relk x] at hx
    cases e : scope.names.lookup x with
    | none => rw [e] at hx; rcases hx with hx | hx <;> cases hx
    | some kd =>
      rw [e] at hx
      by_cases hk : kd = .free
      · rw [hk]
      · have hk' : (kd == NameKind.free) = false := by simpa using hk
        rw [Option.map_some, hk', Bool.false_and, Bool.false_and, if_neg Bool.false_ne_true] at hx
        rcases hx with hx | hx
        · exact absurd (Option.some.inj hx) (C.cell _ (mem_of_look e))
        · exact absurd (Option.some.inj hx) hk
  have clt : ∀ x c, cl.lookup x = some c → c < s.heap.objs.size := fun x c e => by
    obtain ⟨v, z⟩ := I.cell x c (hcl1 x c e)
    exact z.lt
  have ok : (cxC X scope cl N fp s H).Ok :=
    { mod := I.ok.mod
      kind := by show (relabel scope X.env).kind = _; exact C.kind
      glob := I.ok.glob
      blt := I.ok.blt
      above := Nat.le_refl _
      inj := fun x y c e1 e2 => I.ok.inj x y c (hcl1 x c e1) (hcl1 y c e2)
      has := fun x hx => hcl2 (x, .free) (mem_of_look (wasfree x hx)) rfl
      cab := fun x c z => by cases z
      hd := I.ok.hd
      frames := I.ok.frames
      stk := .inl rfl
      exf := fun b hb => ⟨Nat.ne_of_lt (flt b hb), fun x c e => (f2 b hb).2.2.2.2.1 x c (hcl1 x c e)⟩
      bs := fun b o e => I.bs b o e
      bsz := Nat.le_trans I.ok.bsz I.sz
      noex := fun b o e hb => by
        rcases (f2 b hb).2.2.2.1 with z | z
        · exact I.ok.noex b o e z
        · exact absurd (Nat.lt_of_lt_of_le (Heap.lt_size (I.ok.bs b o e).1) z) (Nat.lt_irrefl _)
      exfs := fun b hb z => by
        rcases List.mem_cons.mp (I.stkSub b z) with q | q
        · exact (f2 b hb).2.1 q
        · exact (f2 b hb).2.2.1 q
      funs := I.stack
      frf := I.stkFree }
  have hlen : (stC k js σ).length = N.length := by
    have q := congrArg List.length C.at'
    rw [List.length_map, List.length_map, List.length_drop] at q
    have := C.le
    show (List.replicate k none ++ frees js σ).length = N.length
    rw [List.length_append, List.length_replicate, frees, List.length_map]
    omega
  refine ⟨ok, rfl, I.bare, Un.kept keep, ⟨m, hns, fun i x v e1 e2 e3 => ?_⟩, fun x c e => ?_, I.hok.fresh (Nat.le_refl _), fun x c e => I.freeC x c (hcl1 x c e), fun p hp => absurd (show p ∈ ([] : List (Addr × Obj)) from hp) (by simp), I.hok.kept keep, hlen⟩
  · have e1 : N[i]? = some x := e1
    have hik : k ≤ i := by
      by_cases hik : k ≤ i
      · exact hik
      · have e2' : (List.replicate k (none : Option V) ++ frees js σ)[i]? = some (some v) := e2
        rw [List.getElem?_append_left (by rw [List.length_replicate]; omega), List.getElem?_replicate] at e2'
        split at e2' <;> cases e2'
    obtain ⟨d, rfl⟩ : ∃ d, i = k + d := ⟨i - k, by omega⟩
    have e2' : (List.replicate k (none : Option V) ++ frees js σ)[k + d]? = some (some v) := e2
    rw [List.getElem?_append_right (by rw [List.length_replicate]; omega), List.length_replicate, Nat.add_sub_cancel_left, frees, List.getElem?_map] at e2'
    have ed : (N.drop k)[d]? = some x := by rw [List.getElem?_drop]; exact e1
    cases ej : js[d]? with
    | none => rw [ej] at e2'; cases e2'
    | some j =>
      rw [ej] at e2'
      have ev : σ.getD j none = some v := Option.some.inj e2'
      have ej2 : X.N[j]? = some x := by
        have q := congrArg (fun l => l[d]?) C.at'
        simp only [List.getElem?_map, ej, ed, Option.map_some] at q
        exact Option.some.inj q
      have eσ : σ[j]? = some (some v) := by
        rw [List.getD_eq_getElem?_getD] at ev
        cases z : σ[j]? with
        | none => rw [z] at ev; cases ev
        | some w => rw [z] at ev; exact congrArg some ev
      have hfx : scope.names.lookup x = some .free := C.fn x (List.mem_of_getElem? ed)
      have hX : X.env.scope.names.lookup x = some .cell ∨ X.env.scope.names.lookup x = some .free := C.free (x, .free) (mem_of_look hfx) rfl
      obtain ⟨mX, _, lX⟩ := I.loc
      obtain ⟨u, ru, lu⟩ := lX j x v ej2 eσ (hX.elim (fun z => .inr (.inl z)) fun z => .inr (.inr z))
      refine ⟨u, ru, .inr ⟨?_, ?_⟩⟩
      · rw [relk x, hfx]
        show some (if _ then _ else _) = _ ∨ some (if _ then _ else _) = _
        split
        · exact .inl rfl
        · exact .inr rfl
      · rcases lu with ⟨z, _⟩ | ⟨_, c, ec, ic⟩
        · have z : X.env.scope.names.lookup x = some .local := z
          rcases hX with q | q <;> rw [q] at z <;> cases z
        · obtain ⟨c', ec'⟩ := hcl2 (x, .free) (mem_of_look hfx) rfl
          have : c' = c := Option.some.inj ((hcl1 x c' ec').symm.trans ec)
          subst this
          obtain ⟨o, ho, hd⟩ := ic
          exact ⟨c', ec', o, keep _ _ ho, hd⟩
  · obtain ⟨v, o, ho, hd⟩ := I.cell x c (hcl1 x c e)
    exact ⟨v, o, keep _ _ ho, hd⟩

theorem comp_run {pins : List (Addr × Obj)} {σ : St} {H2 : Hp} {s2 : Shared} {E : Value → Shared → Prop} {it : Addr} {fp : List Addr} {tn : Nat → Heap → Prop} {J : It} {Q : VK} {RR : Value → Addr → Result → Shared → Prop}
    (hc : X.calm = true) (C : CompOk X.env.scope X.N scope N k js) (hcl1 : ∀ x c, cl.lookup x = some c → X.env.cells.lookup x = some c) (hcl2 : ∀ p ∈ scope.names, p.2 = .free → ∃ c, cl.lookup p.1 = some c)
    (hg : ∀ fp s H, PG (cxC X scope cl N fp s H) tg g) (ht : ∀ fp s H, PTs (cxC X scope cl N fp s H) ifs tt) (he : ∀ fp s H, PE (cxC X scope cl N fp s H) elt te)
    (I : Inv X pins σ H2 s2) (T : Turn X.prog X.w X.K tg J fp it tn) (st : tn 0 s2.heap) (f2 : ∀ b ∈ fp, FpOk X pins H2 b) (rd : rdC k js g tt te J σ H2 Q)
    (fin : ∀ D L H' s', Inv X pins σ H' s' → FpOk X pins H' L → (∃ m, s'.heap.Ns L m) → Q (.ref D) H' → RR (.ref D) L (.ok .next) s') :
    wpAny (model X.prog X.w) X.A (newList []) (fun acc s₃ => wpAny (model X.prog X.w) X.A (newFunctionEnv scope X.env.globals cl [] X.env.qual none .none (some X.env)) (fun cenv s₄ =>
      codeAny (model X.prog X.w) X.A (.compStart (.ListComp elt [⟨tg, iter, ifs, 0⟩] scope cpos) 0 (.ref it) acc { cenv with scope := relabel scope X.env }) (RR acc cenv.locals) s₄) E s₃) E s2 := by
  refine wpAny_newObj_type (wpAny_newFunctionEnv C.cell (by intro y hy; simp at hy) (fun h₁ hns₁ hsb₁ => ?_) C.kind)
  dsimp only at hns₁ hsb₁ ⊢
  have hD : H2 s2.heap.objs.size = none := I.hok.fresh (Nat.le_refl _)
  have Id : Inv X pins σ (upd H2 s2.heap.objs.size (.lst [])) { s2 with heap := s2.heap.push { cls := .type "list", dict := none, data := .seq ([] : List Value).toArray } } :=
    I.laid (t' := s2.toks) (fun b u e => Heap.get?_push_of_some _ e) (Nat.le_refl _) ⟨Nat.zero_le _, [], 0, .nil, Heap.get?_push_size _ rfl⟩
  have kD : ∀ b o, s2.heap.get? b = some o → (s2.heap.push { cls := .type "list", dict := none, data := .seq ([] : List Value).toArray }).get? b = some o := fun b o e => Heap.get?_push_of_some _ e
  generalize hHd : s2.heap.push { cls := .type "list", dict := none, data := .seq ([] : List Value).toArray } = Hd at hns₁ hsb₁ Id kD ⊢
  have szd : Hd.objs.size = s2.heap.objs.size + 1 := by rw [← hHd, Heap.size_push]
  have keep : ∀ b o, Hd.get? b = some o → h₁.get? b = some o := fun b o e => hsb₁.extBut b o (Nat.ne_of_lt (Heap.lt_size e)) (Heap.get?_push_of_some _ e)
  have flt2 : ∀ b ∈ fp, b < s2.heap.objs.size := fun b hb => by
    obtain ⟨o, e, _⟩ := T.obj _ _ st b hb
    exact Heap.lt_size e
  have fd : ∀ b ∈ fp, FpOk X pins (upd H2 s2.heap.objs.size (.lst [])) b := fun b hb =>
    ⟨by rw [upd_ne (Nat.ne_of_lt (flt2 b hb))]; exact (f2 b hb).1, (f2 b hb).2⟩
  obtain ⟨W, ⟨m0, w0⟩, turn⟩ := rd _ hD
  generalize hY : cxC X scope cl N fp { s2 with heap := Hd } (upd H2 s2.heap.objs.size (.lst [])) = Y
  have hg := hg fp { s2 with heap := Hd } (upd H2 s2.heap.objs.size (.lst []))
  have ht := ht fp { s2 with heap := Hd } (upd H2 s2.heap.objs.size (.lst []))
  have he := he fp { s2 with heap := Hd } (upd H2 s2.heap.objs.size (.lst []))
  have loop : ∀ s₃ : Shared, s₃ = { s2 with heap := h₁, toks := s2.toks + ([] : List (Str × Value)).length } →
      codeAny (model X.prog X.w) X.A (.compLoop (.ListComp elt [⟨tg, iter, ifs, 0⟩] scope cpos) 0 (.ref it) (.ref s2.heap.objs.size) (compEnvC scope cl Hd.objs.size X.env))
        (RR (.ref s2.heap.objs.size) Hd.objs.size) s₃ := by
    rintro s₃ rfl
    have IY : Inv Y [] (stC k js σ) (upd H2 s2.heap.objs.size (.lst [])) { s2 with heap := h₁, toks := s2.toks + ([] : List (Str × Value)).length } := by
      rw [← hY]
      exact inv_block (t' := s2.toks + ([] : List (Str × Value)).length) C hcl1 hcl2 Id fd (fun b hb => Nat.lt_of_lt_of_le (flt2 b hb) (by show s2.heap.objs.size ≤ Hd.objs.size; omega)) hns₁ keep
    rw [hY] at hg ht he
    have yprog : Y.prog = X.prog := by rw [← hY]; rfl
    have yw : Y.w = X.w := by rw [← hY]; rfl
    have yK : Y.K = X.K := by rw [← hY]; rfl
    have yA : Y.A = X.A := by rw [← hY]; rfl
    have yc : Y.calm = true := by rw [← hY]; exact hc
    have yenv : Y.env = compEnvC scope cl Hd.objs.size X.env := by rw [← hY]; rfl
    have yxe : Y.xe = fun _ _ => False := by rw [← hY]; rfl
    have ybase : ∀ {pn σ' H' s'}, Inv Y pn σ' H' s' → Un (frs X.stack) fp (upd H2 s2.heap.objs.size (.lst [])) H' Hd s'.heap ∧ s'.os = s2.os := fun {pn σ' H' s'} J => by
      have u := J.base
      have o := J.os
      rw [← hY] at u o
      exact ⟨u, o⟩
    have statY : ∀ {H' : Hp}, (∀ b ∈ fp, H' b = none) → ∀ b ∈ fp, FpOk Y [] H' b := fun {H'} hn b hb => by
      rw [← hY]
      refine ⟨hn b hb, Nat.ne_of_lt (Nat.lt_of_lt_of_le (flt2 b hb) (by show s2.heap.objs.size ≤ Hd.objs.size; omega)), ?_, .inl hb, fun x c e => (f2 b hb).2.2.2.2.1 x c (hcl1 x c e), fun p hp => absurd (show p ∈ ([] : List (Addr × Obj)) from hp) (by simp)⟩
      intro z
      rcases List.mem_cons.mp (I.stkSub b z) with q | q
      · exact (f2 b hb).2.1 q
      · exact (f2 b hb).2.2.1 q
    have st₁ : tn 0 h₁ := T.keep _ _ _ st fun b hb o e => keep b o (kD b o e)
    refine codeAny_loop rfl (fun n s' => ∃ i ys H', Inv Y [] (stC k js σ) H' s' ∧ tn i s'.heap ∧ (∀ b ∈ fp, H' b = none) ∧ W i n ys H') ?_ m0 ⟨0, [], _, IY, st₁, fun b hb => (fd b hb).1, w0⟩
    rintro n s3 ⟨i, ys, H3, I3, st3, fr3, w3⟩
    show wpAny _ X.A ((compTurn (.ListComp elt [⟨tg, iter, ifs, 0⟩] scope cpos) 0 (.ref it) (.ref s2.heap.objs.size) (compEnvC scope cl Hd.objs.size X.env)).onRaise (fun x => do noteFrame x (compEnvC scope cl Hd.objs.size X.env); theTreesLotGoes x)) _ _ s3
    refine wpAny_noted ?_
    rw [compTurn_list]
    obtain ⟨hDs, tr⟩ := turn i n ys H3 w3
    have hPE : ∀ {α : Type} {t : Sem α} {R R' : α → Shared → Prop} {E' : Value → Shared → Prop} {s : Shared}, wpAny (model Y.prog Y.w) Y.A t R Y.xe s → (∀ a s, R a s → R' a s) → wpAny (model X.prog X.w) X.A t R' E' s := fun {α t R R' E' s} h hQ => by
      rw [yprog, yw, yA, yxe] at h
      exact wpAny_mono h hQ fun _ _ z => z.elim
    rcases tr with ⟨stop, qn⟩ | ⟨go, step⟩
    · refine wpAny_bind (wpAny_standAt (wpAny_bind ?_))
      have dn := T.done Y yprog yw yK yc i [] s3 (stC k js σ) H3 (fun _ _ => False) I3 (statY fr3) st3 stop
      rw [yA] at dn
      refine wpAny_mono dn (fun r s4 ⟨hr, I4⟩ => ?_) fun _ _ z => z.elim
      subst hr
      obtain ⟨u4, o4⟩ := ybase I4
      refine wpAny_pure (fin _ _ H3 s4 ?_ ?_ ?_ qn)
      · refine I.call' (ch := fp) o4 ((Un.laid (fun b o e => kD b o e) (Nat.le_refl _) hD).trans u4) (by have := I4.hok; rw [yprog, yw] at this; exact this) I4.bare fun b hb => ?_
        obtain ⟨_, q1, q2, q3, q4, q5⟩ := f2 b hb
        exact ⟨q3, q1, q4, q5⟩
      · refine I.fpOk (by show s2.heap.objs.size ≤ Hd.objs.size; omega) ?_
        have := I4.free
        rw [yenv] at this
        exact this
      · obtain ⟨m, hn, _⟩ := I4.loc
        rw [yenv] at hn
        exact ⟨m, hn⟩
    · refine wpAny_bind (wpAny_standAt (wpAny_bind ?_))
      have itm := T.item Y yprog yw yK yc i [] s3 (stC k js σ) H3 (fun _ _ => False) I3 (statY fr3) st3 go
      rw [yA] at itm
      refine wpAny_mono itm (fun r s4 ⟨u, hr, h4⟩ => ?_) fun _ _ z => z.elim
      subst hr
      refine wpAny_bind (wpAny_mono h4 (fun _ s5 ⟨x, H5, I5, r5, y5, st5, fr5⟩ => ?_) fun _ _ z => z.elim)
      have I5' := I5.pinned (statY fr5) (T.obj _ _ st5)
      have as := hg _ s5 (stC k js σ) H5 x u _ I5' r5 (step x H5 y5)
      rw [yenv] at as
      refine wpAny_bind (hPE as fun _ s6 ⟨σ6, H6, I6, ⟨ow, eow, e6⟩, q6⟩ => ?_)
      have again : ∀ {H7 : Hp} {s7 : Shared} {zs : List V}, Inv Y ([] ++ pinsAt fp s5.heap) σ6 H7 s7 → (∃ m', m' < n ∧ W (i + 1) m' zs H7) →
          ∃ m, m < n ∧ ∃ i ys H', Inv Y [] (stC k js σ) H' s7 ∧ tn i s7.heap ∧ (∀ b ∈ fp, H' b = none) ∧ W i m ys H' := fun {H7 s7 zs} I7 ⟨m', hm, w7⟩ => by
        have J7 : Inv Y ([] ++ pinsAt fp s5.heap) (stC k js σ) H7 s7 := by
          refine I7.weak ?_ fun j v e => ?_
          · rw [e6]
            show (List.replicate k none ++ frees js σ).length = _
            rw [List.length_append, List.length_append, List.length_replicate, eow]
          · have e : (List.replicate k (none : Option V) ++ frees js σ)[j]? = some (some v) := e
            rw [e6]
            by_cases hj : j < k
            · rw [List.getElem?_append_left (by rw [List.length_replicate]; exact hj), List.getElem?_replicate] at e
              split at e <;> cases e
            · rw [List.getElem?_append_right (by rw [List.length_replicate]; omega), List.length_replicate] at e
              rw [List.getElem?_append_right (by omega), eow]
              exact e
        refine ⟨m', hm, i + 1, zs, H7, J7.unpinned, T.keep _ _ _ st5 fun b hb o e => (I7.pin (b, o) (List.mem_append_right _ (List.mem_append_right _ (mem_pinsAt hb e)))).1, fun b hb => ?_, w7⟩
        obtain ⟨o, e, d⟩ := T.obj _ _ st5 b hb
        exact (I7.pin (b, o) (List.mem_append_right _ (List.mem_append_right _ (mem_pinsAt hb e)))).2.1
      have tst := ht _ s6 σ6 H6 _ I6 q6
      rw [yenv] at tst
      refine wpAny_bind (hPE tst fun b s7 ⟨H7, I7, q7⟩ => ?_)
      cases b with
      | false => exact wpAny_pure ⟨rfl, again I7 q7⟩
      | true =>
        have ev := he _ s7 σ6 H7 _ I7 q7
        rw [yenv] at ev
        refine wpAny_bind (wpAny_bind (hPE ev fun v s8 ⟨y, H8, I8, r8, q8, z8, w8⟩ => ?_))
        refine wpAny_bind (hPE (mt_append (X := Y) _ s8 σ6 H8 (.ref s2.heap.objs.size) [y] (.ref s2.heap.objs.size) [v] (fun _ H9 => H9 = upd H8 s2.heap.objs.size (.lst (ys ++ [y]))) I8 rfl (.cons r8 .nil) ⟨_, ys, y, rfl, rfl, q8, z8, rfl⟩) fun _ s9 ⟨_, H9, I9, _, e9⟩ => ?_)
        subst e9
        exact wpAny_pure (wpAny_pure ⟨rfl, again I9 w8⟩)
  exact codeAny_compStart_list (loop _ rfl) (T.self _ 0 _ _ _ (T.keep _ _ _ st fun b hb o e => keep b o (kD b o e)) (loop _ rfl))

theorem hcl_of {pins : List (Addr × Obj)} {σ : St} {H : Hp} {s : Shared} (I : Inv X pins σ H s) (C : CompOk X.env.scope X.N scope N k js) : ∀ p ∈ scope.names, p.2 = .free → ∃ c, X.env.cells.lookup p.1 = some c :=
  fun p hp hf => I.ok.has p.1 (C.free p hp hf)

theorem pe_comp {wi : TI} {sc : Scope} {N0 : List Str} (hc : X.calm = true) (C : CompOk sc N0 scope N k js) (hi : PI X tg iter wi)
    (hg : ∀ cl fp s H, PG (cxC X scope cl N fp s H) tg g) (ht : ∀ cl fp s H, PTs (cxC X scope cl N fp s H) ifs tt) (he : ∀ cl fp s H, PE (cxC X scope cl N fp s H) elt te)
    (hs : ∀ x, foldedSetIterable iter X.env x = pure x := by intro _; rfl) (hsc : X.env.scope = sc := by rfl) (hN0 : X.N = N0 := by rfl) : PE X (.ListComp elt [⟨tg, iter, ifs, 0⟩] scope cpos) (tComp k js wi g tt te) := by
  subst hsc hN0
  intro pins s σ H Q I h
  obtain ⟨cl, e, h1, h2⟩ := closure_of (hcl_of I C)
  rw [eval_ListComp]
  refine wpAny_comprehension_free (use := none) rfl hs e C.kind C.names (thn (hi pins s σ H _ I h) fun v s1 q => thn q fun itv s2 q2 => ?_)
  obtain ⟨it, fp, tn, J, H2, rfl, I2, T, st, f2, rd⟩ := q2
  refine comp_run (RR := fun acc L => compPost (model X.prog X.w) X.A X.xe none (EP X pins σ Q) acc L) hc C h1 h2 (hg cl) (ht cl) (he cl) I2 T st f2 rd ?_
  intro D L H' s' I' ⟨f0, f1, _, f3, f4, f5⟩ ⟨m, hn⟩ q
  refine ⟨m, hn, fun h' sb => ⟨.ref D, H', ?_, rfl, q⟩⟩
  exact I'.turned (t' := s'.toks) (fun b o hb e => (sb.2 b hb).trans e) f0 f1 f3 f4 f5

theorem ps_setComp {wi : TI} {i : Nat} {x : Str} {pos pos' : Pos} {sc : Scope} {N0 : List Str} (hN : X.N.Nodup) (hi' : X.N[i]? = some x) (hx : Loc X.env.scope x) (hc : X.calm = true) (C : CompOk sc N0 scope N k js) (hi : PI X tg iter wi)
    (hg : ∀ cl fp s H, PG (cxC X scope cl N fp s H) tg g) (ht : ∀ cl fp s H, PTs (cxC X scope cl N fp s H) ifs tt) (he : ∀ cl fp s H, PE (cxC X scope cl N fp s H) elt te)
    (hsw : swapsWith (.ListComp elt [⟨tg, iter, ifs, 0⟩] scope cpos) (some (.Name x pos')) pos.line X.env = pure true := by rfl)
    (hs : ∀ x, foldedSetIterable iter X.env x = pure x := by intro _; rfl) (hsc : X.env.scope = sc := by rfl) (hN0 : X.N = N0 := by rfl) (hf : X.fn x = true ∨ X.env.scope.names.lookup x = some .local := by first | exact .inl rfl | exact .inr rfl | assumption) :
    PS X (.Assign [.Name x pos'] (.ListComp elt [⟨tg, iter, ifs, 0⟩] scope cpos) pos) (tAsg (tComp k js wi g tt te) (gName i)) := by
  subst hsc hN0
  intro pins s σ H D I h
  obtain ⟨cl, e, h1, h2⟩ := closure_of (hcl_of I C)
  rw [exec_Assign_Name_used _ _ _ _ hsw]
  refine wpAny_bind (wpAny_standAt (wpAny_bind ?_))
  show wpAny _ X.A (do let _ ← comprehension (.ListComp elt [⟨tg, iter, ifs, 0⟩] scope cpos) scope X.env _ (newList []) false (eval iter X.env) (some (assign (.Name x pos') X.env))) _ _ s
  refine wpAny_bind (wpAny_mono (wpAny_comprehension_free (use := some (assign (.Name x pos') X.env)) (Q := fun _ s' => SP X pins D .next s') rfl hs e C.kind C.names
    (thn (hi pins s σ H _ I h) fun v s1 q => thn q fun itv s2 q2 => ?_)) (fun _ s' hq => wpAny_pure (wpAny_pure hq)) fun _ _ z => z)
  obtain ⟨it, fp, tn, J, H2, rfl, I2, T, st, f2, rd⟩ := q2
  refine comp_run (RR := fun acc L => compPost (model X.prog X.w) X.A X.xe (some (assign (.Name x pos') X.env)) (fun _ s' => SP X pins D .next s') acc L) hc C h1 h2 (hg cl) (ht cl) (he cl) I2 T st f2 rd ?_
  intro A' L H' s' I' ⟨f0, f1, f2', f3, f4, f5⟩ ⟨m, hn⟩ q
  show wpAny _ X.A (assign (.Name x pos') X.env (.ref A')) _ _ s'
  refine wpAny_assign_Name (store_ok2 (v := V.ref A') I' hN hi' hx rfl (fun s'' I'' ⟨a, sb, ha⟩ => ?_) hf)
  have hLa : L ≠ a := by
    rcases ha with rfl | ha
    · exact f1
    · exact fun z => f4 x a ha z.symm
  refine ⟨m, hn.sameBut sb hLa, fun h' sb' => ⟨σ.set i (some (.ref A')), H', ?_, q⟩⟩
  exact I''.turned (t' := s''.toks) (fun b o hb e => (sb'.2 b hb).trans e) f0 f1 f3 f4 f5
end

noncomputable abbrev turnC (k : Nat) (js : List Nat) (g : TG) (tt : TT) (te : TE) (σ : St) (D : Addr) (x : V) (ys : List V) (H : Hp) (N : List V → Hp → Prop) : Prop :=
  g x (stC k js σ) H fun σ4 H4 => (∃ ow : St, ow.length = k ∧ σ4 = ow ++ frees js σ) ∧
    tt σ4 H4 fun b H5 => if b = true then te σ4 H5 fun y H6 => H6 D = some (.lst ys) ∧ ys.length < sizeLine ∧ N (ys ++ [y]) (upd H6 D (.lst (ys ++ [y]))) else N ys H5
section
variable {K : PySem.W.Frag} {a : Addr} {xs : List V} {k : Nat} {js : List Nat} {g : TG} {tt : TT} {te : TE} {σ : St} {H1 : Hp} {Q : VK}
theorem comp_list (Pv : Addr → Nat → List V → Hp → Prop) (h0 : ∀ D, H1 D = none → Pv D 0 [] (upd H1 D (.lst [])))
    (hl : ∀ D i ys H, i ≤ xs.length → Pv D i ys H → SqL K H a xs)
    (hs : ∀ D i x ys H (N : List V → Hp → Prop), H1 D = none → H D = some (.lst ys) → xs[i]? = some x → Pv D i ys H → (∀ zs H', H' D = some (.lst zs) → Pv D (i + 1) zs H' → N zs H') → turnC k js g tt te σ D x ys H N)
    (hd : ∀ D ys H, H1 D = none → H D = some (.lst ys) → Pv D xs.length ys H → Q (.ref D) H) : rdC k js g tt te (Itl K a) σ H1 Q := by
  intro D hD
  refine ⟨fun i m ys H => m = xs.length - i ∧ i ≤ xs.length ∧ H D = some (.lst ys) ∧ Pv D i ys H, ⟨xs.length, by simp, Nat.zero_le _, upd_same, h0 D hD⟩, ?_⟩
  rintro i m ys H ⟨rfl, hi, hDy, p⟩
  refine ⟨hDy, ?_⟩
  have q := hl D i ys H hi p
  by_cases hlt : i < xs.length
  · refine .inr ⟨⟨xs, xs[i], q, by simp [hlt]⟩, fun x H' y => ?_⟩
    obtain ⟨e, y⟩ := y
    subst e
    exact hs D i x ys _ (fun zs H' => ∃ m', m' < xs.length - i ∧ m' = xs.length - (i + 1) ∧ i + 1 ≤ xs.length ∧ H' D = some (.lst zs) ∧ Pv D (i + 1) zs H') hD hDy (y xs q) p fun zs H' e p' => ⟨xs.length - (i + 1), by omega, rfl, hlt, e, p'⟩
  · have e : i = xs.length := by omega
    subst e
    exact .inl ⟨⟨xs, q, Nat.le_refl _⟩, hd D ys H hD hDy p⟩
theorem comp_tup (Pv : Addr → Nat → List V → Hp → Prop) (h0 : ∀ D, H1 D = none → Pv D 0 [] (upd H1 D (.lst [])))
    (hl : ∀ D i ys H, i ≤ xs.length → Pv D i ys H → SqT K H a xs)
    (hs : ∀ D i x ys H (N : List V → Hp → Prop), H1 D = none → H D = some (.lst ys) → xs[i]? = some x → Pv D i ys H → (∀ zs H', H' D = some (.lst zs) → Pv D (i + 1) zs H' → N zs H') → turnC k js g tt te σ D x ys H N)
    (hd : ∀ D ys H, H1 D = none → H D = some (.lst ys) → Pv D xs.length ys H → Q (.ref D) H) : rdC k js g tt te (Itt K a) σ H1 Q := by
  intro D hD
  refine ⟨fun i m ys H => m = xs.length - i ∧ i ≤ xs.length ∧ H D = some (.lst ys) ∧ Pv D i ys H, ⟨xs.length, by simp, Nat.zero_le _, upd_same, h0 D hD⟩, ?_⟩
  rintro i m ys H ⟨rfl, hi, hDy, p⟩
  refine ⟨hDy, ?_⟩
  have q := hl D i ys H hi p
  by_cases hlt : i < xs.length
  · refine .inr ⟨⟨xs, xs[i], q, by simp [hlt]⟩, fun x H' y => ?_⟩
    obtain ⟨e, y⟩ := y
    subst e
    exact hs D i x ys _ (fun zs H' => ∃ m', m' < xs.length - i ∧ m' = xs.length - (i + 1) ∧ i + 1 ≤ xs.length ∧ H' D = some (.lst zs) ∧ Pv D (i + 1) zs H') hD hDy (y xs q) p fun zs H' e p' => ⟨xs.length - (i + 1), by omega, rfl, hlt, e, p'⟩
  · have e : i = xs.length := by omega
    subst e
    exact .inl ⟨⟨xs, q, Nat.le_refl _⟩, hd D ys H hD hDy p⟩
end
noncomputable def scopeOf (e : Expr) : Scope := match e with
  | .ListComp _ _ s _ => s
  | _ => { kind := .function, names := [], isGenerator := false, isCoroutine := false }
end L2

namespace L2
open PySem PySem.Spec PyProof.Rows

theorem log2_lt {n k : Nat} (h : n < 2 ^ (k + 1)) : n.log2 ≤ k := by
  by_cases h0 : n = 0
  · subst h0; simp
  · exact Nat.lt_succ_iff.mp ((Nat.log2_lt h0).mpr h)
theorem bits_of {a : Int} (h : a.natAbs < 2 ^ 1000) : Builtin.Int.intBits a ≤ 2 ^ 20 := by
  unfold Builtin.Int.intBits
  split
  · exact Nat.zero_le _
  · have := log2_lt (n := a.natAbs) (k := 999) h
    have e : (2 : Nat) ^ 20 = 1048576 := by decide
    omega
theorem mulOk {a b : Int} (ha : a.natAbs < 2 ^ 1000) (hb : b.natAbs < 2 ^ 1000) : IntMulOk a b := IntMulOk.of_bits (bits_of ha) (bits_of hb)
section
variable {X : Cx} {a b : Expr} {ta tb : TE} {pos : Pos}
theorem op_mulB : OpR X (binaryOp .Mult) (rI (fun i j => i.natAbs < 2 ^ 1000 ∧ j.natAbs < 2 ^ 1000) fun i j => .int (i * j)) := opI fun _ _ _ _ _ _ _ hc q => mul_int q (mulOk hc.1 hc.2)
theorem op_fdivB : OpR X (binaryOp .FloorDiv) (rI (fun _ j => 0 < j ∧ j.natAbs < 2 ^ 1000) fun i j => .int (i / j)) := opI fun i j _ _ _ _ _ hc q => by
  have h0 : j ≠ 0 := by have := hc.1; omega
  have e : i.fdiv j = i / j := Int.fdiv_eq_ediv_of_nonneg _ (by have := hc.1; omega)
  refine floordiv_int h0 (by rw [e]; exact q) (.inl (PyProof.noPylong_of_log2 ?_))
  have := log2_lt (n := j.natAbs) (k := 999) hc.2
  omega

theorem op_repS : OpR X (binaryOp .Mult) (fun x y H Q => ∃ z n, x = .str z ∧ y = .int n ∧ -1000 ≤ n ∧ n ≤ 1000 ∧ z.length ≤ 1000 ∧ Q (.str (Txt.mul z n)) H) := by
  intro pins s σ H x y v u Q I rx ry h
  obtain ⟨z, n, rfl, rfl, h0, h1, h2, q⟩ := h
  obtain ⟨t, rfl⟩ := rx
  obtain ⟨t', rfl⟩ := ry
  refine SB.mul ⟨?_, fun a b => ?_, fun a b => ?_⟩ fun t'' k => ⟨.str (Txt.mul z n), H, I.tok _, ⟨_, rfl⟩, q⟩
  · rw [decide_eq_false (by omega), decide_eq_false (by omega)]; rfl
  · intro c
    have : (2 ^ 63 - 1) / n ≥ (2 ^ 63 - 1) / 1000 := by
      apply Int.le_ediv_of_mul_le (by omega)
      have : (2 ^ 63 - 1 : Int) / 1000 * n ≤ (2 ^ 63 - 1) / 1000 * 1000 := Int.mul_le_mul_of_nonneg_left h1 (by decide)
      exact Int.le_trans this (by decide)
    have e : ((2 : Int) ^ 63 - 1) / 1000 = 9223372036854775 := by decide
    omega
  · show decide (z.length * n.toNat > sizeLine) = false
    refine decide_eq_false ?_
    have : z.length * n.toNat ≤ 1000 * 1000 := Nat.mul_le_mul h2 (by omega)
    have e : sizeLine = 16777216 := by decide
    omega
theorem fold_size (x : Array Nat) : ∀ (k : Nat) (acc : Array Nat), ((List.replicate k x).foldl (· ++ ·) acc).size = acc.size + k * x.size
  | 0, acc => by simp
  | k + 1, acc => by
    rw [List.replicate_succ, List.foldl_cons, fold_size x k, Array.size_append, Nat.succ_mul]
    omega
theorem mul_len (x : Str) (n : Int) : (Txt.mul x n).length ≤ x.length * n.toNat := by
  unfold Txt.mul
  split
  · exact Nat.zero_le _
  · split
    · rename_i h1 h2
      have : 1 ≤ n.toNat := by omega
      exact Nat.le_mul_of_pos_right _ (by omega)
    · show ((List.replicate n.toNat x.cps).foldl (· ++ ·) #[]).size ≤ _
      rw [fold_size, Nat.mul_comm]
      exact Nat.le_of_eq (by simp [Str.length])

inductive DEq (K : PySem.W.Frag) (H : Hp) : Nat → V → V → Prop
  | int {n} (i : Int) : DEq K H n (.int i) (.int i)
  | str {n} (x : Str) : DEq K H n (.str x) (.str x)
  | bl {n} (b : Bool) : DEq K H n (.bl b) (.bl b)
  | non {n} : DEq K H n .non .non
  | same {n} (a : Addr) : DEq K H n (.ref a) (.ref a)
  | lst {n} {a b : Addr} {xs ys : List V} : SqL K H a xs → SqL K H b ys → xs.length = ys.length → (∀ (j : Nat) x y, xs[j]? = some x → ys[j]? = some y → DEq K H n x y) → DEq K H (n + 1) (.ref a) (.ref b)
  | tup {n} {a b : Addr} {xs ys : List V} : SqT K H a xs → SqT K H b ys → xs.length = ys.length → (∀ (j : Nat) x y, xs[j]? = some x → ys[j]? = some y → DEq K H n x y) → DEq K H (n + 1) (.ref a) (.ref b)
theorem all_true (n : Nat) : (List.range n).all (fun _ => true) = true := List.all_eq_true.mpr fun _ _ => rfl
theorem Inv.deq {pins : List (Addr × Obj)} {σ : St} {H : Hp} {s : Shared} (I : Inv X pins σ H s) : ∀ {n : Nat} {x y : V}, DEq X.K H n x y → ∀ {A : Around} {u v : Value}, RelV x u → RelV y v → A.units + n < cLine → SeqAt.EqAt A s u v true := by
  intro n x y d
  induction d with
  | int i => intro A u v r q _; obtain ⟨t, rfl⟩ := r; obtain ⟨t', rfl⟩ := q; have := SeqAt.EqAt.int_int (A := A) (s := s) i t i t'; rwa [beq_self_eq_true] at this
  | str i => intro A u v r q _; obtain ⟨t, rfl⟩ := r; obtain ⟨t', rfl⟩ := q; have := SeqAt.EqAt.str_str (A := A) (s := s) i t i t'; rwa [beq_self_eq_true] at this
  | bl i => intro A u v r q _; cases r; cases q; exact SeqAt.EqAt.same _
  | non => intro A u v r q _; cases r; cases q; exact SeqAt.EqAt.same _
  | same a => intro A u v r q _; cases r; cases q; exact SeqAt.EqAt.same _
  | @lst n a b xs ys ha hb hl _ ih =>
    intro A u v r q hu
    cases r; cases q
    obtain ⟨its, r1, p1, _⟩ := I.list ha
    obtain ⟨its2, r2, p2, _⟩ := I.list hb
    by_cases hab : a = b
    · subst hab; exact SeqAt.EqAt.same _
    · refine SeqAt.EqAt.of_refs hab ?_
      have sz : its.toArray.size = its2.toArray.size := by rw [List.size_toArray, List.size_toArray, ← r1.length, ← r2.length, hl]
      have := SeqAt.RcAt.lists (A := A) (s := s) (e := fun _ => true) p1.isList p2.isList sz (by omega) fun j h1 h2 => ?_
      · rwa [all_true] at this
      · have h1' : j < xs.length := by rw [r1.length]; simpa using h1
        have h2' : j < ys.length := by rw [← hl]; exact h1'
        obtain ⟨u1, e1, q1⟩ := r1.get (List.getElem?_eq_getElem h1')
        obtain ⟨u2, e2, q2⟩ := r2.get (List.getElem?_eq_getElem h2')
        have g1 : its.toArray[j] = u1 := by
          have : its[j]? = some its.toArray[j] := by simp
          exact Option.some.inj (this.symm.trans e1)
        have g2 : its2.toArray[j] = u2 := by
          have : its2[j]? = some its2.toArray[j] := by simp
          exact Option.some.inj (this.symm.trans e2)
        rw [g1, g2]
        exact ih j _ _ (List.getElem?_eq_getElem h1') (List.getElem?_eq_getElem h2') q1 q2 (by show A.units + 1 + n < cLine; omega)
  | @tup n a b xs ys ha hb hl _ ih =>
    intro A u v r q hu
    cases r; cases q
    obtain ⟨its, r1, p1, _⟩ := I.tuple ha
    obtain ⟨its2, r2, p2, _⟩ := I.tuple hb
    by_cases hab : a = b
    · subst hab; exact SeqAt.EqAt.same _
    · refine SeqAt.EqAt.of_refs hab ?_
      have sz : its.toArray.size = its2.toArray.size := by rw [List.size_toArray, List.size_toArray, ← r1.length, ← r2.length, hl]
      have := SeqAt.RcAt.tuples (A := A) (s := s) (e := fun _ => true) (show s.heap.IsTuple a its.toArray from p1) (show s.heap.IsTuple b its2.toArray from p2) (by omega) fun j h1 h2 => ?_
      · rw [all_true, sz, beq_self_eq_true] at this
        exact this
      · have h1' : j < xs.length := by rw [r1.length]; simpa using h1
        have h2' : j < ys.length := by rw [← hl]; exact h1'
        obtain ⟨u1, e1, q1⟩ := r1.get (List.getElem?_eq_getElem h1')
        obtain ⟨u2, e2, q2⟩ := r2.get (List.getElem?_eq_getElem h2')
        have g1 : its.toArray[j] = u1 := by
          have : its[j]? = some its.toArray[j] := by simp
          exact Option.some.inj (this.symm.trans e1)
        have g2 : its2.toArray[j] = u2 := by
          have : its2[j]? = some its2.toArray[j] := by simp
          exact Option.some.inj (this.symm.trans e2)
        rw [g1, g2]
        exact ih j _ _ (List.getElem?_eq_getElem h1') (List.getElem?_eq_getElem h2') q1 q2 (by show A.units + 1 + n < cLine; omega)
noncomputable def rEqL (K : PySem.W.Frag) (k : Bool) : R2 := fun x y H Q => ∃ n a b xs ys, n ≤ 60 ∧ x = .ref a ∧ y = .ref b ∧ SqL K H a xs ∧ SqL K H b ys ∧ xs.length = ys.length ∧ (∀ (j : Nat) x y, xs[j]? = some x → ys[j]? = some y → DEq K H n x y) ∧ Q (.bl k) H
theorem items_deq {pins : List (Addr × Obj)} {σ : St} {H : Hp} {s : Shared} (I : Inv X pins σ H s) {n : Nat} {xs ys : List V} {its its2 : List Value} (r1 : Vals xs its) (r2 : Vals ys its2) (hl : xs.length = ys.length)
    (hd : ∀ (j : Nat) x y, xs[j]? = some x → ys[j]? = some y → DEq X.K H n x y) {A : Around} (hu : A.units + n < cLine) : ∀ j (h1 : j < its.toArray.size) (h2 : j < its2.toArray.size), SeqAt.EqAt A s its.toArray[j] its2.toArray[j] true := by
  intro j h1 h2
  have h1' : j < xs.length := by rw [r1.length]; simpa using h1
  have h2' : j < ys.length := by rw [← hl]; exact h1'
  obtain ⟨u1, e1, q1⟩ := r1.get (List.getElem?_eq_getElem h1')
  obtain ⟨u2, e2, q2⟩ := r2.get (List.getElem?_eq_getElem h2')
  have g1 : its.toArray[j] = u1 := by
    have : its[j]? = some its.toArray[j] := by simp
    exact Option.some.inj (this.symm.trans e1)
  have g2 : its2.toArray[j] = u2 := by
    have : its2[j]? = some its2.toArray[j] := by simp
    exact Option.some.inj (this.symm.trans e2)
  rw [g1, g2]
  exact I.deq (hd j _ _ (List.getElem?_eq_getElem h1') (List.getElem?_eq_getElem h2')) q1 q2 hu
theorem op_eqL (hu : X.A.units + 64 < cLine) : OpR X (compareOp .Eq) (rEqL X.K true) := by
  intro pins s σ H x y v u Q I rx ry h
  obtain ⟨n, a, b, xs, ys, hn, rfl, rfl, ha, hb, hl, hd, q⟩ := h
  cases rx; cases ry
  obtain ⟨its, r1, p1, _⟩ := I.list ha
  obtain ⟨its2, r2, p2, _⟩ := I.list hb
  have sz : its.toArray.size = its2.toArray.size := by rw [List.size_toArray, List.size_toArray, ← r1.length, ← r2.length, hl]
  refine SeqAt.RcAt.lists (e := fun _ => true) p1.isList p2.isList sz (by omega) (items_deq I r1 r2 hl hd (by show X.A.units + 1 + n < cLine; omega)) _ _ _ _ ?_
  rw [all_true]
  exact ⟨.bl true, H, I, rfl, q⟩
theorem pe_ty {x : Str} {T : String} {pos : Pos} (hg : Gl X x) (hm : X.mg x = none) (hv : bootBuiltins x = some (.type T)) (hn : x ≠ "__name__" := by decide) (hd : (x == ("__debug__" : Str)) = false := by decide) : PE X (.Name x pos) (tC (.ty T)) :=
  pe_bltn hg hm hv rfl hn hd
end

theorem same_new {H : Hp} {p : Addr} (h : H p = none) (o : HO) : Same H (upd H p o) := fun b u q => by rw [upd_ne (ne_of_none q h)]; exact q
theorem at_head {α : Type} (x : α) (xs : List α) : atI (x :: xs) 0 = some x := atI_nat (xs := x :: xs) (j := 0) rfl
theorem bt_len : bootBuiltins "len" = some (.builtin "len") := by decide +kernel
theorem bt_isinstance : bootBuiltins "isinstance" = some (.builtin "isinstance") := by decide +kernel
theorem bt_tuple : bootBuiltins "tuple" = some (.type "tuple") := by decide +kernel
theorem bt_int : bootBuiltins "int" = some (.type "int") := by decide +kernel
end L2

namespace PySem
namespace FR
end FR
section
variable {prog : Program} {w : World} {A : Around} {E : Value → Shared → Prop} {s : Shared}
end
end PySem
namespace L2
open PySem PySem.Spec PyProof.Rows
section
variable {X : Cx} {tg : Expr}
end
theorem paired_app {α β : Type} {F : α → β → Prop} : ∀ {a c : List α} {b d : List β}, Paired F a b → Paired F c d → Paired F (a ++ c) (b ++ d)
  | _, _, _, _, .nil, q => q
  | _, _, _, _, .cons f p, q => .cons f (paired_app p q)
theorem paired_get {α β : Type} {F : α → β → Prop} : ∀ {a : List α} {b : List β} {i : Nat} {x : α} {y : β}, Paired F a b → a[i]? = some x → b[i]? = some y → F x y
  | _, _, _, _, _, .nil, e, _ => by simp at e
  | _, _, 0, _, _, .cons f _, e1, e2 => by simp at e1 e2; subst e1 e2; exact f
  | _, _, i + 1, _, _, .cons _ p, e1, e2 => paired_get (i := i) p (by simpa using e1) (by simpa using e2)
end L2

namespace PySem
namespace FD
end FD
section
variable {prog : Program} {w : World} {A : Around} {E : Value → Shared → Prop} {s : Shared}
end
end PySem

namespace PySem
section
variable {prog : Program} {w : World} {A : Around} {E : Value → Shared → Prop} {s : Shared}
end
end PySem

namespace PySem
namespace FD
end FD
section
variable {prog : Program} {w : World} {K : Type} [DecidableEq K] {knd : KeyKind prog w K} {A : Around}
end
section
variable {prog : Program} {w : World} {K : Type} [DecidableEq K] {knd : KeyKind prog w K} {A : Around} {E : Value → Shared → Prop} {s : Shared}
end
end PySem

namespace L2
open PySem PySem.Spec PyProof.Rows
section
variable {X : Cx} {pins : List (Addr × Obj)} {σ : St} {H : Hp} {s : Shared}
end
end L2

namespace FP
open PySem L2

namespace Th
end Th
theorem small {n : Nat} (h : n ≤ 10000) : n < sizeLine := Nat.lt_of_le_of_lt h (by decide)
theorem smallE {n : Nat} (h : n ≤ 10000) : n ≤ sizeLine := Nat.le_of_lt (small h)
theorem dec_str_ne {a b : Str} (h : a ≠ b) : decide (V.str a = V.str b) = false := decide_eq_false (by intro z; cases z; exact h rfl)
theorem dec_str_eq (a : Str) : decide (V.str a = V.str a) = true := decide_eq_true rfl

noncomputable abbrev strsV (ws : List Str) : List V := ws.map V.str
theorem strsV_len (ws : List Str) : (strsV ws).length = ws.length := List.length_map _

theorem strsV_snoc (a : List Str) (x : Str) : strsV (a ++ [x]) = strsV a ++ [.str x] := List.map_append
noncomputable abbrev intsV (ns : List Int) : List V := ns.map V.int
theorem intsV_snoc (a : List Int) (x : Int) : intsV (a ++ [x]) = intsV a ++ [.int x] := List.map_append
theorem intsV_len (ws : List Int) : (intsV ws).length = ws.length := List.length_map _

end FP

namespace L2
open PySem PySem.Spec PyProof.Rows

section
variable {X : Cx} {K : PySem.W.Frag}
theorem ix_listK (hK : X.K = K := by rfl) : IxR X (rIxL K) := by subst hK; exact ix_list
theorem ix_tupK (hK : X.K = K := by rfl) : IxR X (rIxT K) := by subst hK; exact ix_tup
theorem sl_listK (hK : X.K = K := by rfl) : SlR X (rSlL K) := by subst hK; exact sl_list
noncomputable def rLen (K : PySem.W.Frag) : List V → Hp → VK → Prop := fun xs H Q => ∃ p ys, xs = [.ref p] ∧ (SqL K H p ys ∨ SqT K H p ys) ∧ Q (.int ys.length) H
theorem call_lenK (hK : X.K = K := by rfl) : CallR X (.builtin "len") (rLen K) := by subst hK; exact call_len_seq
noncomputable def rTupOf (K : PySem.W.Frag) : List V → Hp → VK → Prop := fun xs H Q => ∃ p ys, xs = [.ref p] ∧ SqL K H p ys ∧ ∀ l, H l = none → Q (.ref l) (upd H l (.tup ys))
theorem call_tupleK (hK : X.K = K := by rfl) : CallR X (.type "tuple") (rTupOf K) := by
  subst hK
  intro pins s σ H xs us Q I r h
  obtain ⟨p, ys, e, hs, q⟩ := h
  exact call_tuple_of pins s σ H xs us Q I r ⟨p, ys, e, .inl ⟨hs, q⟩⟩
theorem op_eqLK (hu : X.A.units + 64 < cLine) (hK : X.K = K := by rfl) : OpR X (compareOp .Eq) (rEqL K true) := by subst hK; exact op_eqL hu
variable {tg l o e : Expr} {es : List Expr} {tl to : TE} {t : TA} {name : Str} {pos apos cpos : Pos} {T id : String} {r : V → List V → Hp → VK → Prop}
theorem pi_listK (hl : PE X l tl) (hK : X.K = K := by rfl) : PI X tg l (iList K tl) := by subst hK; exact pi_list hl
theorem pi_tupK (hl : PE X l tl) (hK : X.K = K := by rfl) : PI X tg l (iTup K tl) := by subst hK; exact pi_tup hl
theorem pe_bm0K (pa : PlainAttrs T) (slot : Slot T name id) (hty : typeOf (.builtin id) = pure (.type "method_descriptor")) (hm : MtR X id r) (ho : PE X o to)
    (hbase : attributeBase o name X.env (eval o X.env) = eval o X.env := by rfl) (hline : (apos.endLine == cpos.line) = true := by rfl) (hK : X.K = K := by rfl) : PE X (.Call (.Attribute o name apos) [] [] cpos) (tBM0 K T r to) := by
  subst hK; exact pe_bm0 pa slot hty hm ho hbase hline
theorem pe_bmK (pa : PlainAttrs T) (slot : Slot T name id) (hty : typeOf (.builtin id) = pure (.type "method_descriptor")) (hm : MtR X id r) (ho : PE X o to) (ha : PA X (e :: es) t)
    (hbase : attributeBase o name X.env (eval o X.env) = eval o X.env := by rfl)
    (hfew : ((backTo cpos (starEach (e :: es) X.env)).all (fun x => !x.1) && (backToKw cpos (keywordEach [] X.env)).all (fun x => x.1.isSome)
      && decide ((e :: es).length + ([] : List Keyword).length + (if ([] : List Keyword).isEmpty then 0 else 1) < 30)) = true := by rfl)
    (hline : (apos.endLine == cpos.line) = true := by rfl) (hs : starEach (e :: es) X.env = (false, eval e X.env) :: starEach es X.env := by rfl) (hplain : (backTo cpos (starEach es X.env)).any (·.1) = false := by rfl) (hK : X.K = K := by rfl) :
    PE X (.Call (.Attribute o name apos) (e :: es) [] cpos) (tBM K T r to t) := by
  subst hK; exact pe_bm pa slot hty hm ho ha hbase hfew hline hs hplain
end

structure Dn (P : Program) (w : World) (K : PySem.W.Frag) (mg : Str → Option Value) (base : Heap) (x : Str) (k : Nat) (ps : List Str) (sp : Sp) : Prop where
  ex : ∃ f fd, FnOk P w K mg base CX0 k f fd ps sp ∧ mg x = some (.ref f) ∧ PySem.W.keepIn K (.ref f) = true ∧ Binds K fd ps []
section
variable {P : Program} {w : World} {K : PySem.W.Frag} {mg : Str → Option Value} {base : Heap} {x : Str} {j k : Nat} {ps : List Str} {sp sp' : Sp}
end
section
variable {X : Cx} {P : Program} {w : World} {K : PySem.W.Frag} {mg : Str → Option Value} {base : Heap} {j k : Nat} {ps : List Str} {sp : Sp} {x : Str} {p pos : Pos} {e : Expr} {es : List Expr} {t : TA}
theorem pe_callD (D : Dn P w K mg base x j ps sp) (hr : Room k X.A) (ha : PA X (e :: es) t) (hjk : j ≤ k := by first | decide | omega) (hg : Gl X x := by rfl)
    (h1 : X.prog = P := by rfl) (h2 : X.w = w := by rfl) (h3 : X.K = K := by rfl) (h4 : X.mg = mg := by rfl) (h5 : X.base = base := by rfl)
    (hdb : (x == ("__debug__" : Str)) = false := by decide) (he : starEach (e :: es) X.env = (false, eval e X.env) :: starEach es X.env := by rfl) (hpl : (backTo pos (starEach es X.env)).any (·.1) = false := by rfl) :
    PE X (.Call (.Name x p) (e :: es) [] pos) (tCall sp [] E0 t) := by
  subst h1 h2 h3 h4 h5
  obtain ⟨f, fd, F, a, b, c⟩ := D.ex
  exact pe_call (F.mono hjk) hr hg a b c .nil pass0 ha hdb he hpl
end

noncomputable def kidsE : Expr → List Expr
  | .BoolOp _ vs _ => vs
  | .BinOp l _ r _ => [l, r]
  | .UnaryOp _ a _ => [a]
  | .IfExp a b c _ => [a, b, c]
  | .ListComp e gs _ _ => e :: gs.flatMap fun g => g.iter :: g.ifs
  | .Compare l _ cs _ => l :: cs
  | .Call f as _ _ => f :: as
  | .Attribute v _ _ => [v]
  | .Subscript a b _ => [a, b]
  | .List es _ => es
  | .Tuple es _ _ => es
  | .Slice a b c _ => a.toList ++ b.toList ++ c.toList
  | _ => []
noncomputable def downE (e : Expr) : List Nat → Expr
  | [] => e
  | i :: p => downE ((kidsE e).getD i (.Constant .none 0 ⟨0, 0, 0, 0⟩)) p
noncomputable def exprS : Stmt → Expr
  | .Assign _ v _ => v
  | .Return (some v) _ => v
  | .Expr v _ => v
  | .If t _ _ _ => t
  | .While t _ _ _ => t
  | .For _ it _ _ _ => it
  | _ => .Constant .none 0 ⟨0, 0, 0, 0⟩
noncomputable def blockS : Stmt → List Stmt
  | .If _ a b _ => a ++ b
  | .For _ _ b _ _ => b
  | .While _ b _ _ => b
  | _ => []
noncomputable def stmtAt (body : List Stmt) : List Nat → Stmt
  | [] => .Pass ⟨0, 0, 0, 0⟩
  | [i] => body.getD i (.Pass ⟨0, 0, 0, 0⟩)
  | i :: j :: p => stmtAt (blockS (body.getD i (.Pass ⟨0, 0, 0, 0⟩))) (j :: p)
noncomputable abbrev scAt (body : List Stmt) (p q : List Nat) : Scope := scopeOf (downE (exprS (stmtAt body p)) q)
noncomputable def tCut (t u : TS) : TS := fun D σ H => ∃ Pv : St → Hp → Prop, t { D with nx := Pv } σ H ∧ ∀ σ' H', Pv σ' H' → u D σ' H'
theorem pss_cut {X : Cx} {st : Stmt} {rest : List Stmt} {t u : TS} (h1 : PS X st t) (h2 : PSs X rest u) : PSs X (st :: rest) (tCut t u) := by
  intro pins s σ H D I h
  obtain ⟨Pv, q1, q2⟩ := h
  refine wpAny_execs_cons (thn (h1 pins s σ H { D with nx := Pv } I q1) fun f s1 q => ?_)
  cases f with
  | next =>
    obtain ⟨σ', H', I', q⟩ := q
    exact h2 pins s1 σ' H' D I' (q2 σ' H' q)
  | ret v => exact q
  | brk => exact q
  | cont => exact q

section
variable {σ : St} {H : Hp} {Q : VK} {R : Bool → Hp → Prop} {S : St → Hp → Prop} {L : List V → Hp → Prop} {O : Option Int → Hp → Prop} {D : Ends} {ta tb tc : TE} {t u : TT} {a b : TS} {x y v : V} {i j : Int} {c : Bool} {K : PySem.W.Frag}
theorem w_var {k : Nat} (h : σ[k]? = some (some v)) (q : Q v H) : tVar k σ H Q := ⟨v, h, q⟩
theorem w_c (q : Q v H) : tC v σ H Q := q
theorem w_op {r : R2} (q : ta σ H fun x H1 => tb σ H1 fun y H2 => r x y H2 Q) : tOp r ta tb σ H Q := q
theorem w_un {r : V → Hp → VK → Prop} (q : ta σ H fun x H1 => r x H1 Q) : tUn r ta σ H Q := q
theorem w_I0 {g : Int → Int → V} (q : Q (g i j) H) : rI0 g (.int i) (.int j) H Q := ⟨i, j, rfl, rfl, q⟩
theorem w_I {C : Int → Int → Prop} {g : Int → Int → V} (h : C i j) (q : Q (g i j) H) : rI C g (.int i) (.int j) H Q := ⟨i, j, rfl, rfl, h, q⟩
theorem w_U {g : Int → V} (q : Q (g i) H) : rU g (.int i) H Q := ⟨i, rfl, q⟩
theorem w_eq (h : scal x y = true) (q : Q (.bl (decide (x = y))) H) : rEq x y H Q := ⟨h, q⟩
theorem w_ne (h : scal x y = true) (q : Q (.bl (!decide (x = y))) H) : rNe x y H Q := ⟨h, q⟩
theorem w_ixL {p : Addr} {xs : List V} (h : SqL K H p xs) (e : atI xs i = some v) (q : Q v H) : rIxL K (.ref p) (.int i) H Q := ⟨p, xs, i, v, rfl, rfl, h, e, q⟩
theorem w_ixT {p : Addr} {xs : List V} (h : SqT K H p xs) (e : atI xs i = some v) (q : Q v H) : rIxT K (.ref p) (.int i) H Q := ⟨p, xs, i, v, rfl, rfl, h, e, q⟩
theorem w_test (q : ta σ H fun x H' => ∃ k, x = .bl k ∧ R k H') : tTest ta σ H R := q
theorem w_B (q : ta σ H fun x H' => ∃ k, x = .bl k ∧ R k H') : tB ta σ H R := q
theorem w_bl {F : Bool → Prop} (q : F c) : ∃ k, V.bl c = .bl k ∧ F k := ⟨c, rfl, q⟩
theorem w_not (q : t σ H fun c H1 => R (!c) H1) : tNot t σ H R := q
theorem w_and (q : t σ H fun c H1 => if c = true then u σ H1 R else R false H1) : tAnd t u σ H R := q
theorem w_andV (q : ta σ H fun x H1 => ∃ c, x = .bl c ∧ if c = true then tb σ H1 Q else Q (.bl false) H1) : tAndV ta tb σ H Q := q
theorem w_orV (q : ta σ H fun x H1 => ∃ c, x = .bl c ∧ if c = true then Q (.bl true) H1 else tb σ H1 Q) : tOrV ta tb σ H Q := q
theorem w_notV (q : ta σ H fun x H1 => ∃ c, x = .bl c ∧ Q (.bl (!c)) H1) : tNotV ta σ H Q := q
theorem w_next (q : D.nx σ H) : tNext D σ H := q
theorem w_seq (q : a { D with nx := b D } σ H) : tSeq a b D σ H := q
theorem w_drop (q : ta σ H fun _ H1 => D.nx σ H1) : tDrop ta D σ H := q
theorem w_ret (q : ta σ H D.rt) : tRet ta D σ H := q
theorem w_ifS (q : t σ H fun c H1 => if c = true then a D σ H1 else b D σ H1) : tIfS t a b D σ H := q
theorem w_asg {g : TG} (q : ta σ H fun x H1 => g x σ H1 D.nx) : tAsg ta g D σ H := q
theorem w_name {k : Nat} (q : S (σ.set k (some v)) H) : gName k v σ H S := q
theorem w_gnil (q : S σ H) : gNil [] σ H S := ⟨rfl, q⟩
theorem w_gcons {g : TG} {gs : TGs} {vs : List V} (q : g v σ H fun σ' H' => gs vs σ' H' S) : gCons g gs (v :: vs) σ H S := ⟨v, vs, rfl, q⟩
theorem w_nil (q : L [] H) : tNil σ H L := q
theorem w_cons {ts : TA} (q : ta σ H fun x H1 => ts σ H1 fun xs H2 => L (x :: xs) H2) : tCons ta ts σ H L := q
theorem w_tup {ts : TA} (q : ts σ H fun xs H1 => xs.length ≤ sizeLine ∧ ∀ p, H1 p = none → Q (.ref p) (upd H1 p (.tup xs))) : tTup ts σ H Q := q
theorem w_lst {ts : TA} (q : ts σ H fun xs H1 => xs.length ≤ sizeLine ∧ ∀ p, H1 p = none → Q (.ref p) (upd H1 p (.lst xs))) : tLst ts σ H Q := q
theorem w_call {sp : Sp} {dvs : List V} {E : XK} {ts : TA} (q : ts σ H fun vs H1 => sp (vs ++ dvs) H1 Q E) : tCall sp dvs E ts σ H Q := q
theorem w_cb {r : List V → Hp → VK → Prop} {ts : TA} (q : ts σ H fun vs H1 => r vs H1 Q) : tCB r ts σ H Q := q
theorem w_bm0 {T : String} {r : V → List V → Hp → VK → Prop} (q : ta σ H fun x H1 => tyV K T x H1 ∧ r x [] H1 Q) : tBM0 K T r ta σ H Q := q
theorem w_bm {T : String} {r : V → List V → Hp → VK → Prop} {ts : TA} (q : ta σ H fun x H1 => tyV K T x H1 ∧ ts σ H1 fun xs H2 => r x xs H2 Q) : tBM K T r ta ts σ H Q := q
theorem w_tyL {p : Addr} {xs : List V} {A : Prop} (h : SqL K H p xs) (q : A) : tyV K "list" (.ref p) H ∧ A := ⟨.inl ⟨rfl, xs, h⟩, q⟩
theorem w_noPart (q : O none H) : tNoPart σ H O := q
theorem w_part (q : ta σ H fun x H1 => ∃ i, x = .int i ∧ O (some i) H1) : tPart ta σ H O := q
theorem w_exI {F : Int → Prop} (q : F i) : ∃ k, V.int i = .int k ∧ F k := ⟨i, rfl, q⟩
theorem w_sl {r : V → Option Int → Option Int → Hp → VK → Prop} {tl th : TO} (q : ta σ H fun x H1 => tl σ H1 fun l H2 => th σ H2 fun u H3 => r x l u H3 Q) : tSl r ta tl th σ H Q := q
theorem w_len {p : Addr} {xs : List V} (h : SqL K H p xs ∨ SqT K H p xs) (q : Q (.int xs.length) H) : rLen K [.ref p] H Q := ⟨p, xs, rfl, h, q⟩
theorem w_dget {td ty : TE} (q : td σ H fun x H1 => ty σ H1 fun y H2 => ∃ a v, x = .ref a ∧ DGet H2 a y (some v) ∧ Q v H2) : tDGet td ty σ H Q := q
theorem w_dput {td ty tv : TE} (q : tv σ H fun v H1 => td σ H1 fun x H2 => ty σ H2 fun y H3 => ∃ a H4, x = .ref a ∧ DPut H3 a y v H4 ∧ D.nx σ H4) : sDPut td ty tv D σ H := q
theorem w_append {p : Addr} {xs : List V} (h : H p = some (.lst xs)) (e : xs.length < sizeLine) (q : Q .non (upd H p (.lst (xs ++ [y])))) : rAppend (.ref p) [y] H Q := ⟨p, xs, y, rfl, rfl, h, e, q⟩
theorem w_iList {W : It → Hp → Prop} (q : ta σ H fun x H1 => ∃ a, x = .ref a ∧ (∃ xs, SqL K H1 a xs) ∧ W (Itl K a) H1) : iList K ta σ H W := q
theorem w_iTup {W : It → Hp → Prop} (q : ta σ H fun x H1 => ∃ a, x = .ref a ∧ (∃ xs, SqT K H1 a xs) ∧ W (Itt K a) H1) : iTup K ta σ H W := q
theorem w_rng1 {W : It → Hp → Prop} {ts : TA} (q : ts σ H fun vs H1 => ∃ j : Int, vs = [.int j] ∧ -(2 ^ 62) ≤ j ∧ j < 2 ^ 62 ∧ W (Itr 0 j.toNat) H1) : iRng1 ts σ H W := q
theorem w_true {A B : Prop} (h : c = true) (q : A) : if c = true then A else B := by rw [if_pos h]; exact q
theorem w_false {A B : Prop} (h : c = false) (q : B) : if c = true then A else B := by rw [h]; exact iteF q
noncomputable def forK (g : TG) (tb : TS) (D : Ends) (σ : St) : It → Hp → Prop := fun J H1 => ∃ W : Nat → Nat → St → Hp → Prop, (∃ m, W 0 m σ H1) ∧ ∀ i m σ H, W i m σ H →
  (J.stop i H ∧ D.nx σ H) ∨ (J.go i H ∧ ∃ N : St → Hp → Prop, (∀ σ' H', N σ' H' → ∃ m', m' < m ∧ W (i + 1) m' σ' H') ∧ ∀ x H', J.yld i H x H' → g x σ H' fun σ2 H2 => tb { D with nx := N, ct := N, bk := D.nx } σ2 H2)
theorem w_for {wi : TI} {g : TG} (q : wi σ H (forK g a D σ)) : tFor wi g a D σ H := q
theorem w_comp {k : Nat} {js : List Nat} {wi : TI} {g : TG} (q : wi σ H fun J H1 => rdC k js g t ta J σ H1 Q) : tComp k js wi g t ta σ H Q := q
theorem iteNT {A B : Prop} (q : B) : if (!true) = true then A else B := iteF q
theorem iteNF {A B : Prop} (q : A) : if (!false) = true then A else B := iteT q
end
noncomputable def eqAll (xs ys : List V) : Bool := xs.length == ys.length && (List.range xs.length).all fun j => eqV (xs.getD j .non) (ys.getD j .non)
noncomputable def rEqF (K : PySem.W.Frag) (neg : Bool) : R2 := fun x y H Q => ∃ a b xs ys, x = .ref a ∧ y = .ref b ∧ SqL K H a xs ∧ SqL K H b ys ∧ xs.all flatV = true ∧ ys.all flatV = true ∧ xs.length = ys.length ∧ Q (.bl (if neg then !eqAll xs ys else eqAll xs ys)) H
section
variable {X : Cx} {K : PySem.W.Frag}
theorem op_eqFK (hu : X.A.units + 64 < cLine) (hK : X.K = K := by rfl) : OpR X (compareOp .Eq) (rEqF K false) := by
  subst hK
  intro pins s σ H x y v u Q I rx ry h
  obtain ⟨a, b, xs, ys, rfl, rfl, ha, hb, fx, fy, hl, q⟩ := h
  cases rx; cases ry
  obtain ⟨its, r1, p1, _⟩ := I.list ha
  obtain ⟨its2, r2, p2, _⟩ := I.list hb
  have l1 := r1.length
  have l2 := r2.length
  have sz : its.toArray.size = its2.toArray.size := by rw [List.size_toArray, List.size_toArray, ← l1, ← l2, hl]
  refine SeqAt.RcAt.lists (e := fun j => eqV (xs.getD j .non) (ys.getD j .non)) p1.isList p2.isList sz (by omega) (fun j h1 h2 => ?_) _ _ _ _ ?_
  · have h1' : j < xs.length := by rw [l1]; simpa using h1
    have h2' : j < ys.length := by rw [← hl]; exact h1'
    obtain ⟨u1, e1, q1⟩ := r1.get (List.getElem?_eq_getElem h1')
    obtain ⟨u2, e2, q2⟩ := r2.get (List.getElem?_eq_getElem h2')
    have g1 : its.toArray[j] = u1 := by
      have : its[j]? = some its.toArray[j] := by simp
      exact Option.some.inj (this.symm.trans e1)
    have g2 : its2.toArray[j] = u2 := by
      have : its2[j]? = some its2.toArray[j] := by simp
      exact Option.some.inj (this.symm.trans e2)
    have d1 : xs.getD j .non = xs[j] := by rw [List.getD_eq_getElem?_getD, List.getElem?_eq_getElem h1']; rfl
    have d2 : ys.getD j .non = ys[j] := by rw [List.getD_eq_getElem?_getD, List.getElem?_eq_getElem h2']; rfl
    rw [g1, g2]
    show SeqAt.EqAt _ _ _ _ (eqV (xs.getD j .non) (ys.getD j .non))
    rw [d1, d2]
    exact eqAt_V q1 q2 (List.all_eq_true.mp fx _ (List.getElem_mem h1')) (List.all_eq_true.mp fy _ (List.getElem_mem h2'))
  · have e : eqAll xs ys = (List.range its.toArray.size).all fun j => eqV (xs.getD j .non) (ys.getD j .non) := by
      unfold eqAll
      rw [hl, beq_self_eq_true, Bool.true_and, List.size_toArray, ← l1, hl]
    rw [← e]
    exact ⟨.bl _, H, I, rfl, q⟩
end

structure Fd (K : PySem.W.Frag) (mg : Str → Option Value) (x : Str) (st : Stmt) (ps : List Str) : Prop where
  ex : ∃ f fd, Fun K x x st f fd ∧ mg x = some (.ref f) ∧ PySem.W.keepIn K (.ref f) = true ∧ Binds K fd ps []
section
variable {P : Program} {w : World} {K : PySem.W.Frag} {mg : Str → Option Value} {base : Heap} {x : Str} {st : Stmt} {k : Nat} {N ps : List Str} {sp : Sp}
theorem Fd.ok (F : Fd K mg x st ps) (S : FnScope N ps (defScope st)) (len : ∀ vs H Q E, sp vs H Q E → vs.length = ps.length)
    (hbody : ∀ (f : Addr) (cdv : Value) (A : Around) (outer : List Env) (s : Shared) (H : Hp) (vs : List V) (Q : VK) (E : XK), Room k (A.deeper (envOfC x (defScope st) s.heap.objs.size f cdv)) → sp vs H Q E →
      ∃ t, PSs (cxOf CX0 P w K mg base N x (defScope st) f cdv A outer s H E).nox (defBody st) t ∧ t { nx := fun _ H' => Q .non H', rt := Q } (start N vs) H) : Dn P w K mg base x (k + 1) ps sp :=
  let ⟨f, fd, F, a, b, c⟩ := F.ex
  ⟨f, fd, F.ok S len (hbody f), a, b, c⟩
end
end L2

namespace PySem
section
variable {prog : Program} {w : World} {κ : Type} [DecidableEq κ] {knd : KeyKind prog w κ}
variable {A : Around} {R : Result → Shared → Prop} {I : Addr} {fp wr : List Addr} {G : Array GenState → Array GenState → Prop} {n : Nat} {P : Nat → Value → Prop} {St : Nat → Shared → Prop}
end
section
variable {prog : Program} {w : World} {κ : Type} [DecidableEq κ] {knd : KeyKind prog w κ} {A : Around} {E : Value → Shared → Prop} {s : Shared}
end
end PySem

namespace L2
open PySem PySem.Spec PyProof.Rows

section
variable {X : Cx} {K : PySem.W.Frag}
end

theorem bt_all : bootBuiltins "all" = some (.builtin "all") := by decide +kernel
section
variable {X : Cx} {P : Program} {w : World} {K : PySem.W.Frag}
end

structure Gi (mg : Str → Option Value) (x : Str) (i : Int) : Prop where
  ex : ∃ t, mg x = some (.int i t)
section
variable {X : Cx} {mg : Str → Option Value} {K : PySem.W.Frag} {x : Str} {i : Int} {ws : List Str} {pos : Pos}
theorem pe_gi (g : Gi mg x i) (hg : Gl X x := by rfl) (hm : X.mg = mg := by rfl) (hd : (x == ("__debug__" : Str)) = false := by decide) : PE X (.Name x pos) (tC (.int i)) := by
  subst hm
  obtain ⟨t, e⟩ := g.ex
  exact pe_glob hg e ⟨t, rfl⟩ hd
end
end L2

namespace L2
open PySem PySem.Spec PyProof.Rows
noncomputable def rAll (K : PySem.W.Frag) : List V → Hp → VK → Prop := fun xs H Q => ∃ (l : Addr) (bs : List Bool), xs = [.ref l] ∧ SqL K H l (bs.map V.bl) ∧ Q (.bl (bs.all id)) H
theorem all_range (bs : List Bool) : (List.range bs.length).all (fun i => bs.getD i true) = bs.all id := by
  have e : bs = (List.range bs.length).map fun i => bs.getD i true := by
    refine List.ext_getElem (by simp) fun i h1 h2 => ?_
    rw [List.getElem_map, List.getElem_range, List.getD_eq_getElem?_getD, List.getElem?_eq_getElem h1]
    rfl
  have := congrArg (fun l : List Bool => l.all id) e
  simp only [List.all_map] at this
  exact this.symm
section
variable {X : Cx} {K : PySem.W.Frag}
theorem call_allK (hc : X.calm = true) (hK : X.K = K := by rfl) : CallR X (.builtin "all") (rAll K) := by
  subst hK
  intro pins s σ H xs us Q I r h
  obtain ⟨l, bs, rfl, hl, q⟩ := h
  obtain ⟨u, rfl, ru⟩ := vals1 r
  cases ru
  obtain ⟨its, r1, p1, _⟩ := I.list hl
  have len := r1.length
  rw [List.length_map] at len
  have sz : its.toArray.size = bs.length := by simp [len]
  refine call_all_walk (wpAny_pyIter_list p1.isList ?_)
  have ol : l < s.heap.objs.size := by
    obtain ⟨o, n, e, _⟩ := p1
    exact Heap.lt_size e
  refine ⟨_, _, _, _, _, _, fun i => bs.getD i true, rfl, Walks.list (by show X.A.handled = none; exact I.ok.hd hc) s.heap.objs.size l (Nat.ne_of_lt ol) its.toArray, ⟨⟨_, Heap.get?_push_size _ rfl, rfl, rfl⟩, ?_⟩, fun i v s' Q' E' hv hq => ?_, fun h' tk keep => ?_⟩
  · obtain ⟨o, n, e, c, d, k⟩ := p1
    exact ⟨o, Heap.get?_push_of_some _ e, c, n, k⟩
  · have hv : its.toArray[i]? = some v := hv
    have hi : i < bs.length := by
      have := (Array.getElem?_eq_some_iff.mp hv).1
      omega
    have e0 : (bs.map V.bl)[i]? = some (.bl bs[i]) := by rw [List.getElem?_map, List.getElem?_eq_getElem hi]; rfl
    obtain ⟨u, e1, q1⟩ := r1.get e0
    have : its.toArray[i]? = some u := by simpa using e1
    rw [this] at hv
    cases hv
    cases q1
    have d : bs.getD i true = bs[i] := by rw [List.getD_eq_getElem?_getD, List.getElem?_eq_getElem hi]; rfl
    have hq' : Q' bs[i] s' := by rw [← d]; exact hq
    exact wpAny_truthy_bool hq'
  · rw [sz, all_range]
    refine ⟨.bl _, H, I.kept fun b o e => ?_, rfl, q⟩
    refine keep b o (fun z => ?_) (Heap.get?_push_of_some _ e)
    have z : b = s.heap.objs.size := by simpa using z
    exact absurd (Heap.lt_size e) (by rw [z]; exact Nat.lt_irrefl _)
end
section
variable {α : Type}
end
end L2

namespace PySem
section
variable {prog : Program} {w : World} {A : Around} {E : Value → Shared → Prop} {s : Shared}
end
end PySem
namespace L2
open PySem PySem.Spec PyProof.Rows
section
variable {X : Cx} {K : PySem.W.Frag}
end
section
variable {X : Cx} {K : PySem.W.Frag}
end
end L2

namespace PySem
section
variable {prog : Program} {w : World} {A : Around} {E : Value → Shared → Prop} {s : Shared}
end
end PySem
namespace L2
open PySem PySem.Spec PyProof.Rows
section
variable {X : Cx} {K : PySem.W.Frag}
end
end L2

namespace L2
open PySem PySem.Spec PyProof.Rows
section
variable {X : Cx} {K : PySem.W.Frag}
end
section
variable {X : Cx} {K : PySem.W.Frag} {e st : Expr} {te ts : TE} {lo hi : Option Expr} {tl th : TO} {pos p2 : Pos}
end
open FP
open Classical in
open Classical in
section
variable {X : Cx} {es rest : List Expr} {kw : List Keyword} {f a b : Expr} {k : Nat} {pos : Pos} {env : Env} {te : TE} {t : TA}
theorem star_con {v : Const} : starEach (.Constant v k pos :: rest) env = (false, eval (.Constant v k pos) env) :: starEach rest env := rfl
theorem star_nam {x : Str} : starEach (.Name x pos :: rest) env = (false, eval (.Name x pos) env) :: starEach rest env := rfl
theorem pa_consK {v : Const} (ha : PE X (.Constant v k pos) te) (hr : PA X rest t) : PA X (.Constant v k pos :: rest) (tCons te t) := pa_cons ha hr star_con
theorem pa_consN {x : Str} (ha : PE X (.Name x pos) te) (hr : PA X rest t) : PA X (.Name x pos :: rest) (tCons te t) := pa_cons ha hr star_nam
end
end L2

namespace L2
open PySem PySem.Spec PyProof.Rows
section
variable {prog : Program} {w : World} {A : Around} {E : Value → Shared → Prop}
theorem draw_list {it l : Addr} {items : Array Value} (hne : l ≠ it) : ∀ (n i : Nat) (s : Shared) (Q : List Value → Shared → Prop), s.heap.IsListIter it l i → s.heap.IsList l items → i + n ≤ items.size →
    (∀ h', h'.IsListIter it l (i + n) → Heap.SameBut it s.heap h' → Q ((items.toList.drop i).take n) { s with heap := h' }) → wpAny (model prog w) A (draw (.ref it) n) Q E s
  | 0, i, s, Q, hit, _, _, hQ => by
    show wpAny _ _ (pure []) Q E s
    exact wpAny_pure (by simpa using hQ s.heap hit (Heap.SameBut.refl ..))
  | n + 1, i, s, Q, hit, hl, hle, hQ => by
    have lt : i < items.size := by omega
    show wpAny _ _ (pyNext (.ref it) >>= _) Q E s
    refine wpAny_bind (wpAny_pyNext_list_item hit hl (x := items[i]) (by simp [lt]) fun h1 hit1 s1 => ?_)
    refine wpAny_bind (wpAny_holding (draw_list hne n (i + 1) _ _ hit1 (items := items) (let ⟨o, ho, r⟩ := hl; ⟨o, (s1.2 l hne).trans ho, r⟩) (by omega) fun h2 hit2 s2 => wpAny_pure ?_))
    have hd : items.toList.drop i = items[i] :: items.toList.drop (i + 1) := by simp [List.drop_eq_getElem_cons, lt]
    have := hQ h2 (by rw [show i + (n + 1) = i + 1 + n by omega]; exact hit2) (s1.trans s2)
    rw [hd, List.take_succ_cons] at this
    exact this
theorem unpack_list {s : Shared} {l : Addr} {items : Array Value} {Q : List Value → Shared → Prop} (hh : A.handled = none) (hl : s.heap.IsList l items)
    (hQ : ∀ h', Heap.ExtBut s.heap.objs.size s.heap h' → Q items.toList { s with heap := h' }) : wpAny (model prog w) A (unpackItems (.ref l) items.size none) Q E s := by
  have hlt : l ≠ s.heap.objs.size := by obtain ⟨o, ho, _⟩ := hl; exact Nat.ne_of_lt (Heap.lt_size ho)
  unfold unpackItems
  refine wpAny_bind ?_
  · unfold notIterableAtAll
    refine wpAny_bind (wpAny_specialOf hl.typeIs slot_list_iter.lookup ?_)
    refine wpAny_pure ?_
    simp only [Bool.false_eq_true, if_false]
    refine wpAny_bind (wpAny_holding (wpAny_pyIter_list hl ?_))
    refine wpAny_bind (wpAny_holding (draw_list hlt items.size 0 _ _ ⟨_, Heap.get?_push_size _ rfl, rfl, rfl⟩ (hl.push _) (by omega) fun h1 hit1 s1 => ?_))
    have all : List.take items.size (List.drop 0 items.toList) = items.toList := by
      rw [List.drop_zero]; exact List.take_of_length_le (by simp)
    rw [all]
    rw [if_neg (by simp)]
    have hl1 : h1.IsList l items := let ⟨o, ho, r⟩ := hl.push { cls := .type "list_iterator", data := .fields #[.ref l, .int 0 0] }; ⟨o, (s1.2 l hlt).trans ho, r⟩
    refine wpAny_bind (wpAny_holding (wpAny_pyNext_list_end hh hit1 hl1 (by simp) fun h2 e2 => ?_))
    simp only [Option.isSome_none, Bool.false_eq_true, if_false]
    exact wpAny_pure (hQ h2 fun b o hb e => e2 b o hb (s1.extBut b o hb (Heap.get?_push_of_some _ e)))
end
noncomputable def gLst (K : PySem.W.Frag) (n : Nat) (t : TGs) : TG := fun v σ H Q => ∃ a xs, v = .ref a ∧ SqL K H a xs ∧ xs.length = n ∧ t xs σ H Q
section
variable {X : Cx} {K : PySem.W.Frag} {pos : Pos}
theorem pg_lstK {es : List Expr} {k : Nat} {t : TGs} {n : Nat} (hc : X.calm = true) (h : PGs X es t)
    (hn : (assignEach es X.env).length = n := by rfl) (hst : (assignEach es X.env).findIdx? (·.1) = none := by rfl) (hK : X.K = K := by rfl) : PG X (.Tuple es k pos) (gLst K n t) := by
  subst hK
  intro pins s σ H v u Q I r hw
  obtain ⟨a, xs, e1, hq, hl, hw⟩ := hw
  subst e1
  cases r
  obtain ⟨its, rv, ht, hz⟩ := I.list hq
  have len := rv.length
  rw [assign_Tuple]
  refine wpAny_bind (wpAny_standAt ?_)
  unfold unpack
  rw [hst, show (assignEach es X.env).length = its.toArray.size by simp [hn, ← hl, len]]
  refine wpAny_bind (wpAny_holding (unpack_list (I.ok.hd hc) ht.isList fun h' hx => ?_))
  have I1 : Inv X pins σ H { s with heap := h' } := I.kept (t' := s.toks) fun b o e => hx b o (Nat.ne_of_lt (Heap.lt_size e)) e
  exact h pins _ σ H xs _ Q I1 (by simpa using rv) hw
end
end L2

namespace L2
open PySem PySem.Spec PyProof.Rows
noncomputable def without (h : Heap) (S : List Addr) : Heap := ⟨h.objs.mapIdx fun i o => if i ∈ S then { o with data := .freed } else o, h.life⟩
theorem without_in {h : Heap} {S : List Addr} {b : Addr} (hb : b ∈ S) : (without h S).get? b = none := by
  unfold without Heap.get?
  rw [Array.getElem?_mapIdx]
  cases e : h.objs[b]? with
  | none => rfl
  | some o =>
    show (match some (if b ∈ S then { o with data := .freed } else o) with | some ⟨_, _, .freed, _⟩ => none | o => o) = none
    rw [if_pos hb]
theorem without_out {h : Heap} {S : List Addr} {b : Addr} (hb : b ∉ S) : (without h S).get? b = h.get? b := by
  unfold without Heap.get?
  rw [Array.getElem?_mapIdx]
  cases e : h.objs[b]? with
  | none => rfl
  | some o =>
    show (match some (if b ∈ S then { o with data := .freed } else o) with | some ⟨_, _, .freed, _⟩ => none | o => o) = _
    rw [if_neg hb]
    rfl
theorem without_stays (h : Heap) (S : List Addr) : (without h S).StaysIn h := fun b o e => by
  by_cases hb : b ∈ S
  · rw [without_in hb] at e; cases e
  · rw [without_out hb] at e; exact e
theorem funframes_without {h base : Heap} {S : List Addr} {l : List Env} (hl : h.FunFrames base l) (hS : ∀ b ∈ frs l, b ∈ S) : h.FunFrames (without h S) l := by
  induction l with
  | nil => trivial
  | cons env rest ih =>
    obtain ⟨hk, ⟨L, o, hf, _, ho, hd⟩, hr⟩ := hl
    have hm : ∀ b, env.frame = some b → b ∈ frs (env :: rest) := fun b e => by
      unfold frs
      rw [List.filterMap_cons, e]
      exact List.mem_cons_self
    refine ⟨hk, ⟨L, o, hf, without_in (hS _ (hm L hf)), ho, hd⟩, ih hr fun b hb => hS b ?_⟩
    unfold frs at hb ⊢
    rw [List.filterMap_cons, hf]
    exact List.mem_cons_of_mem _ hb
noncomputable def Fly (h : Heap) (x T : Addr) (cls : Value) : Prop :=
  ∃ oe vs oT ts, h.get? x = some oe ∧ oe.cls = cls ∧ oe.data = .fields vs ∧ vs[1]? = some (.ref T) ∧ T ≠ x ∧ h.get? T = some oT ∧ oT.data = .fields ts ∧ ts[3]? = some .none
noncomputable def CX1 (P : Program) (w : World) : CXT := fun outer H s E e s' => ∃ x T cls H', e = .ref x ∧ s'.os = s.os ∧ AllBare s'.gens ∧ Un (frs outer) [] H H' s.heap s'.heap ∧ HOk P w H' s'.heap ∧
  s.heap.get? x = none ∧ s.heap.get? T = none ∧ H' x = none ∧ H' T = none ∧ Fly s'.heap x T cls ∧ E cls none H'
section
variable {M : Model} {A : Around} {E : Value → Shared → Prop} {s : Shared}
theorem leave_end {h h' : Heap} {l : List Env} {S : List Addr} {x : Addr} {cls : Value} (left : Heap.Left (without h S) l x cls h h') (hl : h.FunFrames (without h S) l) :
    ∃ T', Fly h' x T' cls ∧ T' ∉ frs l ∧ (T' ∈ S ∨ h.get? T' = none) ∧ (∀ b o, b ∉ S → h.get? b = some o → h'.get? b = some o) ∧ ∀ b o, b ∈ frs l → h.get? b = some o → ∃ sl, h'.get? b = some { o with slots := sl } := by
  obtain ⟨k1, k2, k3, k4⟩ := left
  obtain ⟨oe', vs', T', oT', ts', f1, f2, f3, f4, f5, f6, f7, f8, f9⟩ := k3
  refine ⟨T', ⟨oe', vs', oT', ts', f1, f2, f3, f4, f6, f7, f8, f9⟩, fun hb => ?_, ?_, fun b o hb e => k1 b o (by rw [without_out hb]; exact e), fun b o hb e => ?_⟩
  · obtain ⟨_, o, ho, hd⟩ := k2.mem hb
    rw [f7] at ho
    cases ho
    exact hd _ f8
  · by_cases hT : T' ∈ S
    · exact .inl hT
    · rw [without_out hT] at f5
      exact .inr f5
  · obtain ⟨_, o', ho', hd⟩ := hl.mem hb
    rw [e] at ho'
    cases ho'
    exact k4 b o e hd
theorem leaving_on {base : Heap} {env : Env} {outer : List Env} {L x T : Addr} {cls : Value} {Q : Unit → Shared → Prop} (hfr : A.frames = some (env :: outer)) (hl : s.heap.FunFrames base (env :: outer)) (hf : env.frame = some L) (fl : Fly s.heap x T cls)
    (h : ∀ h' T', Fly h' x T' cls → T' ∉ frs (env :: outer) → (T' = x ∨ T' = T ∨ s.heap.get? T' = none) → (∀ b o, b ∉ frs (env :: outer) → b ≠ x → b ≠ T → s.heap.get? b = some o → h'.get? b = some o) →
      (∀ b o, b ∈ frs (env :: outer) → s.heap.get? b = some o → ∃ sl, h'.get? b = some { o with slots := sl }) → Q () { s with heap := h' }) :
    wpAny M A (leaving env (.ref x)) Q E s := by
  obtain ⟨oe, vs, oT, ts, e1, e2, e3, e4, e5, e6, e7, e8⟩ := fl
  have S1 : ∀ b ∈ frs (env :: outer), b ∈ x :: T :: frs (env :: outer) := fun b hb => List.mem_cons_of_mem _ (List.mem_cons_of_mem _ hb)
  have hl' := funframes_without hl S1
  refine wpAny_leaving_next (base := without s.heap (x :: T :: frs (env :: outer))) hfr hl' hf ⟨oe, vs, T, oT, ts, e1, e2, e3, e4, without_in (by simp), e5, e6, e7, e8⟩ (without_stays _ _) (without_in (by simp)) fun h' left => ?_
  obtain ⟨T', fl', nT, wT, k, ks⟩ := leave_end left hl'
  refine h h' T' fl' nT ?_ (fun b o n1 n2 n3 e => k b o (by simp [n1, n2, n3]) e) ks
  rcases wT with z | z
  · simp only [List.mem_cons] at z
    rcases z with z | z | z
    · exact .inl z
    · exact .inr (.inl z)
    · exact absurd z nT
  · exact .inr (.inr z)
theorem leaving_new {base : Heap} {env : Env} {outer : List Env} {L x : Addr} {oe : Obj} {vs : Array Value} {Q : Unit → Shared → Prop} (hfr : A.frames = some (env :: outer)) (hl : s.heap.FunFrames base (env :: outer)) (hf : env.frame = some L)
    (e1 : s.heap.get? x = some oe) (e3 : oe.data = .fields vs) (e4 : vs[1]? = some .none)
    (h : ∀ h' T', Fly h' x T' oe.cls → T' ∉ frs (env :: outer) → (T' = x ∨ s.heap.get? T' = none) → (∀ b o, b ∉ frs (env :: outer) → b ≠ x → s.heap.get? b = some o → h'.get? b = some o) →
      (∀ b o, b ∈ frs (env :: outer) → s.heap.get? b = some o → ∃ sl, h'.get? b = some { o with slots := sl }) → Q () { s with heap := h' }) :
    wpAny M A (leaving env (.ref x)) Q E s := by
  have S1 : ∀ b ∈ frs (env :: outer), b ∈ x :: frs (env :: outer) := fun b hb => List.mem_cons_of_mem _ hb
  have hl' := funframes_without hl S1
  refine wpAny_leaving_first (base := without s.heap (x :: frs (env :: outer))) hfr hl' hf e1 (without_stays _ _) (without_in (by simp)) e3 e4 fun h' left => ?_
  obtain ⟨T', fl', nT, wT, k, ks⟩ := leave_end left hl'
  refine h h' T' fl' nT ?_ (fun b o n1 n2 e => k b o (by simp [n1, n2]) e) ks
  rcases wT with z | z
  · rcases List.mem_cons.mp z with z | z
    · exact .inl z
    · exact absurd z nT
  · exact .inr z
end
end L2

namespace L2
open PySem PySem.Spec PyProof.Rows
theorem ObjOk.there {P : Program} {w : World} {H : Hp} {h : Heap} {a : Addr} {o : HO} (x : ObjOk P w H h a o) : ∃ u, h.get? a = some u := by
  cases o with
  | lst xs => obtain ⟨_, _, _, _, e⟩ := x; exact ⟨_, e⟩
  | tup xs => obtain ⟨_, _, _, _, e, _⟩ := x; exact ⟨_, e⟩
  | dK kvs => obtain ⟨_, _, _, _, o, _, _, e, _⟩ := x; exact ⟨_, e⟩
  | dT kvs => obtain ⟨_, _, _, _, o, _, _, e, _⟩ := x; exact ⟨_, e⟩
  | set S n => obtain ⟨o, _, _, _, e, _⟩ := x; exact ⟨_, e⟩
  | ins C dx fs => obtain ⟨_, _, _, e, _⟩ := x; exact ⟨_, e⟩
  | own y => obtain ⟨_, e⟩ := x; exact ⟨_, e⟩
  | xd fs => obtain ⟨_, ⟨_, _, _, e, _⟩, _⟩ := x; exact ⟨_, e⟩
  | rng lo hi => obtain ⟨_, _, _, e⟩ := x; exact ⟨_, e⟩
  | frz ob u => obtain ⟨e, _⟩ := x; exact ⟨_, e⟩
  | tbl ps => exact ⟨_, (show h.get? a = some _ from x)⟩
  | met f y => exact ⟨_, (show h.get? a = some _ from x)⟩
  | ext φ => obtain ⟨_, ⟨_, e⟩, _⟩ := x; exact ⟨_, e⟩
theorem HOk.gone {P : Program} {w : World} {H : Hp} {h : Heap} {a : Addr} (x : HOk P w H h) (e : h.get? a = none) : H a = none := by
  cases q : H a with
  | none => rfl
  | some o =>
    obtain ⟨u, r⟩ := (x a o q).there
    rw [e] at r
    cases r
section
variable {P : Program} {w : World} {K : PySem.W.Frag} {mg : Str → Option Value} {base : Heap} {N : List Str} {qual : Str} {scope : Scope} {f : Addr} {cd : Value} {A : Around} {outer : List Env} {s₀ : Shared} {H₀ : Hp} {E : XK}
theorem left_cx {pins : List (Addr × Obj)} {σ : St} {H' : Hp} {s' : Shared} {x T T' : Addr} {cls : Value} {h' : Heap} (J : Inv (cxOf (CX1 P w) P w K mg base N qual scope f cd A outer s₀ H₀ E) pins σ H' s')
    (nx : s₀.heap.get? x = none) (nT : s₀.heap.get? T = none) (hx : H' x = none) (hT : H' T = none) (q : E cls none H') (fl' : Fly h' x T' cls)
    (wT : T' = x ∨ T' = T ∨ s'.heap.get? T' = none)
    (k : ∀ b o, b ∉ frs (envOfC qual scope s₀.heap.objs.size f cd :: outer) → b ≠ x → b ≠ T → s'.heap.get? b = some o → h'.get? b = some o)
    (ks : ∀ b o, b ∈ frs (envOfC qual scope s₀.heap.objs.size f cd :: outer) → s'.heap.get? b = some o → ∃ sl, h'.get? b = some { o with slots := sl }) : CX1 P w outer H₀ s₀ E (.ref x) { s' with heap := h' } := by
  have B : Un (frs outer) [] H₀ H' s₀.heap s'.heap := J.base
  have mem : ∀ b o, s₀.heap.get? b = some o → b ∉ frs outer → b ∉ frs (envOfC qual scope s₀.heap.objs.size f cd :: outer) := fun b o e hb z => by
    rcases List.mem_cons.mp (J.stkSub b z) with y | y
    · exact absurd y (Nat.ne_of_lt (Heap.lt_size e))
    · exact hb y
  have neX : ∀ b o, s₀.heap.get? b = some o → b ≠ x := fun b o e z => by rw [z, nx] at e; cases e
  have neT : ∀ b o, s₀.heap.get? b = some o → b ≠ T := fun b o e z => by rw [z, nT] at e; cases e
  have gone : s'.heap.get? T' = none → s₀.heap.get? T' = none := fun e => by
    cases c : s₀.heap.get? T' with
    | none => rfl
    | some o =>
      obtain ⟨o', r⟩ := B.there T' o c (by simp)
      rw [e] at r
      cases r
  refine ⟨x, T', cls, H', rfl, J.os, J.bare, ⟨fun b o e n hb hx => ?_, fun b o e n hb hx => ?_, B.free, fun b o e hx => ?_, B.tups, B.frzs, B.tbls⟩, fun a o e => ?_, nx, ?_, hx, ?_, fl', q⟩
  · exact k b o (mem b o e hb) (neX b o e) (neT b o e) (B.keep b o e n hb hx)
  · obtain ⟨sl, r⟩ := B.slot b o e n hb hx
    obtain ⟨sl', r'⟩ := ks b _ (by
      unfold frs at hb ⊢
      rw [List.filterMap_cons]
      split
      · exact hb
      · exact List.mem_cons_of_mem _ hb) r
    exact ⟨sl', r'⟩
  · obtain ⟨o', r⟩ := B.there b o e hx
    by_cases hb : b ∈ frs (envOfC qual scope s₀.heap.objs.size f cd :: outer)
    · obtain ⟨sl, r'⟩ := ks b _ hb r
      exact ⟨_, r'⟩
    · exact ⟨o', k b o' hb (neX b o e) (neT b o e) r⟩
  · refine (J.hok a o e).stay (fun b u hb r => ?_) (fun _ z => z) fun _ _ z => z
    have tr : H' b ≠ none := by
      rcases hb with z | z
      · rw [z, e]; exact fun z => nomatch z
      · rw [z]; exact fun z => nomatch z
    exact k b u (fun z => tr (J.stkFree b z)) (fun z => tr (by rw [z]; exact hx)) (fun z => tr (by rw [z]; exact hT)) r
  · rcases wT with z | z | z
    · rw [z]; exact nx
    · rw [z]; exact nT
    · exact gone z
  · rcases wT with z | z | z
    · rw [z]; exact hx
    · rw [z]; exact hT
    · exact J.hok.gone z
theorem pass1 : Passes (CX1 P w) (cxOf (CX1 P w) P w K mg base N qual scope f cd A outer s₀ H₀ E) E := by
  intro pins σ H s e s' I ⟨x, T, cls, H', he, os, bare, un, hok, gx, gT, hx, hT, fl, q⟩
  subst he
  obtain ⟨hh, g, d, t, os'⟩ := s'
  obtain rfl : os' = s.os := os
  have J := I.call (h' := hh) (g' := g) (d' := d) (t' := t) (ch := []) un hok bare (fun b z => absurd z (by simp))
  have B : Un (frs outer) [] H₀ H s₀.heap s.heap := I.base
  have gone : ∀ b, s.heap.get? b = none → s₀.heap.get? b = none := fun b e => by
    cases c : s₀.heap.get? b with
    | none => rfl
    | some o =>
      obtain ⟨o', r⟩ := B.there b o c (by simp)
      rw [e] at r
      cases r
  show wpAny _ _ (leaving _ (.ref x)) _ _ _
  refine leaving_on J.ok.frames J.stack rfl fl fun h' T' fl' nT wT k ks => ?_
  exact left_cx J (gone x gx) (gone T gT) hx hT q fl' wT k ks
noncomputable def Throws (X : Cx) (E : XK) : Prop := ∀ (pins : List (Addr × Obj)) (σ : St) (H : Hp) (s : Shared) (x : Addr) (cls : Value) (us : List Value) (h' : Heap), Inv X pins σ H s → Heap.MadeExcOf s.heap h' x cls us → E cls none H → X.xe (.ref x) { s with heap := h' }
theorem throws1 : Throws (cxOf (CX1 P w) P w K mg base N qual scope f cd A outer s₀ H₀ E) E := by
  intro pins σ H s x cls us h1 I md q
  have J := I.un (t' := s.toks) (Un.kept md.keeps) (I.hok.kept md.keeps)
  have B : Un (frs outer) [] H₀ H s₀.heap s.heap := I.base
  have nx : s₀.heap.get? x = none := by
    cases c : s₀.heap.get? x with
    | none => rfl
    | some o =>
      obtain ⟨o', r⟩ := B.there x o c (by simp)
      rw [md.new] at r
      cases r
  have hx : H x = none := I.hok.gone md.new
  obtain ⟨t, ht, _, _⟩ := md.there
  show wpAny _ _ (leaving _ (.ref x)) _ _ _
  refine leaving_new J.ok.frames J.stack rfl ht rfl rfl fun h' T' fl' nT wT k ks => ?_
  exact left_cx J nx nx hx hx q fl' (wT.elim .inl fun z => .inr (.inr z)) (fun b o z1 z2 _ z3 => k b o z1 z2 z3) ks
end
section
variable {X : Cx} {x : Str} {C : Addr} {B newId initId : String} {bm : List Value} {np cpos pos : Pos} {e₀ : Expr} {rest : List Expr} {t : TA} {E : XK}
noncomputable def tThrow (C : Addr) (t : TA) (E : XK) : TS := fun _ σ H => t σ H fun vs H1 => vs.length ≤ sizeLine ∧ E (.ref C) none H1
theorem ps_throw (O : OwnCls x C bm newId X.mg X.base) (FB : ExcBaseFacts B newId initId bm) (hg : Gl X x) (hc : X.calm = true) (hth : Throws X E) (ha : PA X (e₀ :: rest) t) (hdb : (x == ("__debug__" : Str)) = false := by decide)
    (he : starEach (e₀ :: rest) X.env = (false, eval e₀ X.env) :: starEach rest X.env := by rfl) (hpl : (backTo cpos (starEach rest X.env)).any (·.1) = false := by rfl) :
    PS X (.Raise (some (.Call (.Name x np) (e₀ :: rest) [] cpos)) none pos) (tThrow C t E) := by
  intro pins s σ H D I h
  obtain ⟨tl, N, nm, q, bs, hd', sn, su, ab, cl, dd, k0, k1, k2, k3, k5, mN, hC, hN, hni, T⟩ := O.obj
  have pl : (backTo cpos (starEach (e₀ :: rest) X.env)).any (·.1) = false := by
    rw [he]
    show (false || (backTo cpos (starEach rest X.env)).any (·.1)) = false
    rw [hpl]
    rfl
  refine @wpAny_Raise_call_subT _ _ _ _ _ _ nm q C N bs tl bm hd' sn su ab cl dd k0 k1 k2 k3 k5 _ _ _ FB _ _ _ _ _ _ _ (T.hasType FB.hasBase) (I.ok.hd hc) pl hni (ld_glob I hg O.bound ⟨rfl, ?_⟩ hdb)
  have h2 := ha cpos pins s σ H _ I h
  rw [he] at h2 ⊢
  exact Calls.evalArgs_plain (thn h2 fun us s2 ⟨vs, H1, I1, r, z, q⟩ => ⟨rfl, by rw [← r.length]; exact z, I1.bk _ _ hC, hN.keeps I1.bk, T.keeps I1.bk, fun h' e md => hth pins σ H1 s2 e _ _ h' I1 md q⟩)
end
section
variable {X : Cx} {pos : Pos} {e : Expr} {te : TE}
end
section
variable {P : Program} {w : World} {K : PySem.W.Frag} {mg : Str → Option Value} {base : Heap} {qual x : Str} {st : Stmt} {f : Addr} {fd : FuncData} {N ps : List Str} {k : Nat} {sp : Sp}
theorem Fun.ok1 (F : Fun K x qual st f fd) (S : FnScope N ps (defScope st)) (len : ∀ vs H Q E, sp vs H Q E → vs.length = ps.length)
    (hb : ∀ (cdv : Value) (A : Around) (outer : List Env) (s : Shared) (H : Hp) (vs : List V) (Q : VK) (E : XK), Room k (A.deeper (envOfC qual (defScope st) s.heap.objs.size f cdv)) → sp vs H Q E →
      ∃ t, PSs (cxOf (CX1 P w) P w K mg base N qual (defScope st) f cdv A outer s H E) (defBody st) t ∧ t { nx := fun _ H' => Q .non H', rt := Q } (start N vs) H) : FnOk P w K mg base (CX1 P w) (k + 1) f fd ps sp := by
  obtain ⟨oc, od, kV, doc, pm, an, cdv, ct, osl, rfl, lk, hcd⟩ := F.ex
  exact fn_of lk hcd S len fun A outer s H vs Q E hr hsp => hb cdv A outer s H vs Q E hr hsp
end
end L2

namespace L2
open PySem PySem.Spec PyProof.Rows
section
variable {X : Cx} {pins : List (Addr × Obj)} {σ : St} {H H' : Hp} {s : Shared} {h' : Heap}
theorem Inv.hop {S : List Addr} (I : Inv X pins σ H s) (hS : ∀ b ∈ S, X.s₀.heap.get? b = none ∧ b ≠ X.env.locals ∧ (∀ x c, X.env.cells.lookup x = some c → c ≠ b) ∧ (∀ p ∈ X.pn ++ pins, p.1 ≠ b) ∧ H b = none)
    (k : ∀ b o, b ∉ frs X.stack → b ∉ S → s.heap.get? b = some o → h'.get? b = some o) (ks : ∀ b o, b ∈ frs X.stack → b ∉ S → s.heap.get? b = some o → ∃ sl, h'.get? b = some { o with slots := sl })
    (same : ∀ b, b ∉ S → H' b = H b) (hok : HOk X.prog X.w H' h') : Inv X pins σ H' { s with heap := h' } := by
  have any : ∀ b o, b ∉ S → s.heap.get? b = some o → ∃ sl, h'.get? b = some { o with slots := sl } := fun b o hb e => by
    by_cases z : b ∈ frs X.stack
    · exact ks b o z hb e
    · exact ⟨o.slots, k b o z hb e⟩
  have nS : ∀ b o, X.s₀.heap.get? b = some o → b ∉ S := fun b o e z => by rw [(hS b z).1] at e; cases e
  have tr : ∀ b u, H b = some u → b ∉ S := fun b u e z => by rw [(hS b z).2.2.2.2] at e; cases e
  have nL : X.env.locals ∉ S := fun z => (hS _ z).2.1 rfl
  have nC : ∀ x c, X.env.cells.lookup x = some c → c ∉ S := fun x c e z => (hS c z).2.2.1 x c e rfl
  have nP : ∀ p ∈ X.pn ++ pins, p.1 ∉ S := fun p hp z => (hS _ z).2.2.2.1 p hp rfl
  have out : ∀ b, b ∉ X.fs → b ≠ X.env.locals → b ∉ frs X.stack := fun b h1 h2 z => (List.mem_cons.mp (I.stkSub b z)).elim h2 h1
  have isC : ∀ x c, X.env.cells.lookup x = some c → ∀ v, s.heap.IsCell c v → h'.IsCell c v := fun x c e v ⟨o, ho, hd⟩ => by
    obtain ⟨sl, q⟩ := any c o (nC x c e) ho
    exact ⟨_, q, hd⟩
  have B := I.base
  constructor
  · exact I.ok
  · exact I.os
  · exact I.bare
  · constructor
    · intro b o e n hb hx
      exact k b o (out b hb (Nat.ne_of_lt (Nat.lt_of_lt_of_le (Heap.lt_size e) I.ok.above))) (nS b o e) (B.keep b o e n hb hx)
    · intro b o e n hb hx
      obtain ⟨sl, e1⟩ := B.slot b o e n hb hx
      obtain ⟨sl', e2⟩ := any b _ (nS b o e) e1
      exact ⟨sl', e2⟩
    · intro b o e n hx
      rw [same b (nS b o e)]
      exact B.free b o e n hx
    · intro b o e hx
      obtain ⟨o', e1⟩ := B.there b o e hx
      obtain ⟨sl, e2⟩ := any b o' (nS b o e) e1
      exact ⟨_, e2⟩
    · intro b xs e
      have e1 := B.tups b xs e
      rw [same b (tr b _ e1)]
      exact e1
    · intro b o u e
      have e1 := B.frzs b o u e
      rw [same b (tr b _ e1)]
      exact e1
    · intro b ps e
      obtain ⟨m, e1⟩ := B.tbls b ps e
      exact ⟨m, by rw [same b (tr b _ e1)]; exact e1⟩
  · obtain ⟨m, ⟨o, es, ep, ho, r⟩, hl⟩ := I.loc
    obtain ⟨sl, e⟩ := any _ o nL ho
    refine ⟨m, ⟨_, es, ep, e, r⟩, fun i x v e1 e2 e3 => ?_⟩
    obtain ⟨u, rv, l⟩ := hl i x v e1 e2 e3
    refine ⟨u, rv, l.imp id fun ⟨kd, c, ec, z⟩ => ⟨kd, c, ec, isC x c ec _ z⟩⟩
  · intro x c e
    obtain ⟨v, z⟩ := I.cell x c e
    exact ⟨v, isC x c e v z⟩
  · rw [same _ nL]
    exact I.free
  · intro x c e
    rw [same _ (nC x c e)]
    exact I.freeC x c e
  · intro p hp
    obtain ⟨e, n, ne, nf, d⟩ := I.pin p hp
    exact ⟨k p.1 p.2 (out _ nf ne) (nP p hp) e, by rw [same _ (nP p hp)]; exact n, ne, nf, d⟩
  · exact hok
  · exact I.len
noncomputable def IsExc (x T : Addr) (cls : Value) (h : Heap) : Prop := ∃ o vs, h.get? x = some o ∧ o.cls = cls ∧ o.data = .fields vs ∧ vs[1]? = some (.ref T)
noncomputable def IsEnt (T : Addr) (h : Heap) : Prop := ∃ o ts, h.get? T = some o ∧ o.data = .fields ts ∧ ts[3]? = some .none
noncomputable abbrev held (H : Hp) (x T : Addr) (cls : Value) : Hp := upd (upd H T (.ext (IsEnt T))) x (.ext (IsExc x T cls))
noncomputable def XP (X : Cx) (pins : List (Addr × Obj)) (Ex : St → Value → Hp → Prop) (e : Value) (s' : Shared) : Prop :=
  ∃ σ1 H1 s1, Inv X pins σ1 H1 s1 ∧ CX1 X.prog X.w X.stack H1 s1 (fun c _ H' => Ex σ1 c H') e s'
theorem XP.caught {Ex : St → Value → Hp → Prop} {e : Value} {Q : Unit → Shared → Prop} {E : Value → Shared → Prop} {outer : List Env} (hex : X.ex = []) (hst : X.stack = X.env :: outer) (hf : X.env.frame = some X.env.locals) (h : XP X pins Ex e s)
    (hq : ∀ x T cls σ1 H1 h', e = .ref x → H1 x = none → H1 T = none → T ≠ x → Ex σ1 cls H1 → Inv X pins σ1 (held H1 x T cls) { s with heap := h' } → Q () { s with heap := h' }) :
    wpAny (model X.prog X.w) X.A (leaving X.env e) Q E s := by
  obtain ⟨σ1, H1, s1, I, x, T, cls, H', he, os, bare, un, hok, gx, gT, hx, hT, fl, q⟩ := h
  subst he
  obtain ⟨hh, g, d, t, os'⟩ := s
  obtain rfl : os' = s1.os := os
  have J := I.call (h' := hh) (g' := g) (d' := d) (t' := t) (ch := []) un hok bare (fun b z => absurd z (by simp))
  have gone : ∀ b, s1.heap.get? b = none → X.s₀.heap.get? b = none := fun b e => by
    cases c : X.s₀.heap.get? b with
    | none => rfl
    | some o =>
      obtain ⟨o', r⟩ := I.base.there b o c (by rw [hex]; simp)
      rw [e] at r
      cases r
  have ours : ∀ b, s1.heap.get? b = none → H' b = none → X.s₀.heap.get? b = none ∧ b ≠ X.env.locals ∧ (∀ x c, X.env.cells.lookup x = some c → c ≠ b) ∧ (∀ p ∈ X.pn ++ pins, p.1 ≠ b) ∧ H' b = none := fun b e n => by
    refine ⟨gone b e, fun z => ?_, fun y c ec z => ?_, fun p hp z => ?_, n⟩
    · obtain ⟨m, ⟨o, _, _, ho, _⟩, _⟩ := I.loc
      rw [← z, e] at ho
      cases ho
    · obtain ⟨v, o, ho, _⟩ := I.cell y c ec
      rw [z, e] at ho
      cases ho
    · have ho := (I.pin p hp).1
      rw [z, e] at ho
      cases ho
  have fr : X.A.frames = some (X.env :: outer) := by rw [← hst]; exact I.ok.frames
  have stk := J.stack
  rw [hst] at stk
  refine leaving_on fr stk hf fl fun h2 T' fl' nT wT k ks => ?_
  rw [← hst] at k ks
  have nfr : ∀ b, s1.heap.get? b = none → b ∉ frs X.stack := fun b e z => by
    obtain ⟨_, o, ho, _⟩ := I.stack.mem z
    rw [e] at ho
    cases ho
  have T1 : s1.heap.get? T' = none := by
    rcases wT with z | z | z
    · rw [z]; exact gx
    · rw [z]; exact gT
    · cases c : s1.heap.get? T' with
      | none => rfl
      | some o =>
        obtain ⟨o', r⟩ := un.there T' o c (by simp)
        rw [show hh.get? T' = none from z] at r
        cases r
  have T2 : H' T' = none := by
    rcases wT with z | z | z
    · rw [z]; exact hx
    · rw [z]; exact hT
    · exact hok.gone z
  obtain ⟨oe, vs, oT, ts, f1, f2, f3, f4, f5, f6, f7, f8⟩ := fl'
  refine hq x T' cls σ1 H' h2 rfl hx T2 f5 q (J.hop (S := [x, T, T']) (fun b hb => ?_) (fun b o n1 n2 e => k b o n1 (fun z => n2 (by simp [z])) (fun z => n2 (by simp [z])) e) (fun b o n1 _ e => ks b o n1 e)
    (fun b hb => by show upd (upd H' T' _) x _ b = _; rw [upd_ne fun z => hb (by simp [z]), upd_ne fun z => hb (by simp [z])]) fun a o e => ?_)
  · simp only [List.mem_cons, List.mem_nil_iff, or_false] at hb
    rcases hb with z | z | z
    · rw [z]; exact ours x gx hx
    · rw [z]; exact ours T gT hT
    · rw [z]; exact ours T' T1 T2
  · replace e : upd (upd H' T' (.ext (IsEnt T'))) x (.ext (IsExc x T' cls)) a = some o := e
    show ObjOk X.prog X.w (upd (upd H' T' _) x _) h2 a o
    by_cases ha : a = x
    · subst ha
      rw [upd_same] at e
      cases e
      exact ⟨⟨oe, vs, f1, f2, f3, f4⟩, ⟨oe, f1⟩, fun h1 h2 ⟨o, ws, e1, e2⟩ z => ⟨o, ws, z o e1, e2⟩⟩
    · rw [upd_ne ha] at e
      by_cases hb : a = T'
      · subst hb
        rw [upd_same] at e
        cases e
        exact ⟨⟨oT, ts, f6, f7, f8⟩, ⟨oT, f6⟩, fun h1 h2 ⟨o, ws, e1, e2⟩ z => ⟨o, ws, z o e1, e2⟩⟩
      · rw [upd_ne hb] at e
        refine (hok a o e).stay (fun b u hb r => ?_) (fun b z => ?_) fun b xs z => ?_
        · have tr : H' b ≠ none := by
            rcases hb with z | z
            · rw [z, e]; exact fun z => nomatch z
            · rw [z]; exact fun z => nomatch z
          exact k b u (fun z => tr (J.stkFree b z)) (fun z => tr (by rw [z]; exact hx)) (fun z => tr (by rw [z]; exact hT)) r
        · rw [upd_ne (ne_of_none z hx), upd_ne (ne_of_none z T2)]; exact z
        · rw [upd_ne (ne_of_none z hx), upd_ne (ne_of_none z T2)]; exact z
end
section
variable {M : Model} {A : Around} {E : Value → Shared → Prop} {s : Shared} {env : Env}
theorem try_rows {body orelse : Sem Flow} {h1 : ExceptHandler} {hs : List ExceptHandler} {Q : Flow → Shared → Prop}
    (h : wpAny M A body (fun f s1 => match f with | .next => wpAny M A orelse Q E s1 | f => Q f s1) (fun e s1 => wpAny M A (leaving env e) (fun _ s2 => wpAny M A (handleBy e env (h1 :: hs)) Q E s2) E s1) s) :
    wpAny M A (tryStmt false body (h1 :: hs) orelse [] env) Q E s := by
  unfold tryStmt
  simp
  refine wpAny_bind (wpAny_attempt (wpAny_mono h (fun f s1 h2 => ?_) fun e s1 h2 => ?_))
  · cases f <;> first | exact h2 | exact wpAny_pure h2
  · have h3 := wpAny_bind (f := fun _ => handleBy e env (h1 :: hs)) h2
    unfold leaving at h3
    simp only [bind_assoc] at h3
    exact h3
end
noncomputable abbrev XE := St → Value → Hp → Prop
noncomputable def PXE (X : Cx) (e : Expr) (t : XE → TE) : Prop := ∀ (pins : List (Addr × Obj)) (s : Shared) (σ : St) (H : Hp) (Q : VK) (Ex : XE), Inv X pins σ H s → t Ex σ H Q → wpAny (model X.prog X.w) X.A (eval e X.env) (EP X pins σ Q) (XP X pins Ex) s
noncomputable def PX (X : Cx) (st : Stmt) (t : XE → TS) : Prop := ∀ (pins : List (Addr × Obj)) (s : Shared) (σ : St) (H : Hp) (D : Ends) (Ex : XE), Inv X pins σ H s → t Ex D σ H → wpAny (model X.prog X.w) X.A (exec st X.env) (SP X pins D) (XP X pins Ex) s
noncomputable def PXs (X : Cx) (st : List Stmt) (t : XE → TS) : Prop := ∀ (pins : List (Addr × Obj)) (s : Shared) (σ : St) (H : Hp) (D : Ends) (Ex : XE), Inv X pins σ H s → t Ex D σ H → wpAny (model X.prog X.w) X.A (execs st X.env) (SP X pins D) (XP X pins Ex) s
section
variable {X : Cx} {k : Nat} {f : Addr} {fd : FuncData} {ps : List Str} {sp : Sp} {dvs : List V} {ds : List Value} {x : Str} {p pos pos' : Pos} {e : Expr} {es : List Expr} {t : TA}
theorem PA.nox (h : PA X.nox es t) {E : Value → Shared → Prop} {pos : Pos} {pins : List (Addr × Obj)} {s : Shared} {σ : St} {H : Hp} {Q : List V → Hp → Prop} (I : Inv X pins σ H s) (hw : t σ H Q) : wpAny (model X.prog X.w) X.A (spliced (backTo pos (starEach es X.env))) (AP X pins σ Q) E s :=
  wpAny_mono (h pos pins s σ H Q (I.wish _) hw) (fun _ _ ⟨vs, H', I', r, q⟩ => ⟨vs, H', I'.unwish, r, q⟩) fun _ _ z => False.elim z
theorem run_fnX {pins : List (Addr × Obj)} {σ : St} {H : Hp} {s : Shared} {Q : VK} {us : List Value} {vs : List V} {Ex : XE} (F : FnOk X.prog X.w X.K X.mg X.base (CX1 X.prog X.w) k f fd ps sp) (hr : Room k X.A) (hb : Binds X.K fd ps ds) (hd : Vals dvs ds)
    (I : Inv X pins σ H s) (r : Vals vs us) (h : sp (vs ++ dvs) H Q (fun c _ H' => Ex σ c H')) : wpAny (model X.prog X.w) X.A (call (.ref f) us) (EP X pins σ Q) (XP X pins Ex) s := by
  have r2 := r.append hd
  have hl := r2.length.symm.trans (F.len _ _ _ _ h)
  refine wpAny_call (codeAny_mono (F.run _ _ _ _ _ _ _ Q _ hr I.env0 (hb s us I.kIn hl) r2 h) fun a s' hq => ?_)
  match a, hq with
  | .error _, hq => exact ⟨σ, H, s, I, hq⟩
  | .ok (.ret _), hq => exact I.after hq
noncomputable def xCall (sp : Sp) (dvs : List V) (t : TA) : XE → TE := fun Ex σ H Q => t σ H fun vs H1 => sp (vs ++ dvs) H1 Q (fun c _ H' => Ex σ c H')
theorem pxe_call (F : FnOk X.prog X.w X.K X.mg X.base (CX1 X.prog X.w) k f fd ps sp) (hr : Room k X.A) (hg : Gl X x) (hm : X.mg x = some (.ref f)) (hk : PySem.W.keepIn X.K (.ref f) = true) (hb : Binds X.K fd ps ds) (hd : Vals dvs ds)
    (ha : PA X.nox (e :: es) t) (hdb : (x == ("__debug__" : Str)) = false := by decide) (he : starEach (e :: es) X.env = (false, eval e X.env) :: starEach es X.env := by rfl) (hpl : (backTo pos (starEach es X.env)).any (·.1) = false := by rfl) :
    PXE X (.Call (.Name x p) (e :: es) [] pos) (xCall sp dvs t) := by
  intro pins s σ H Q Ex I h
  refine wpAny_Call_Name_kw (ld_glob I hg hm (Q := _) ?_ hdb)
  exact PySem.W.callWith_K (h₀ := X.base) I.ok.mod.kin hk (thn (ha.nox I h) fun us s1 ⟨vs, H1, I1, r, q⟩ => ⟨I1.kIn, run_fnX F hr hb hd I1 r q⟩) he hpl
noncomputable def xDrop (te : XE → TE) : XE → TS := fun Ex D σ H => te Ex σ H fun _ H1 => D.nx σ H1
theorem px_expr {te : XE → TE} (he : PXE X e te) (hs : swapsWith e none pos.line X.env = pure false := by rfl) : PX X (.Expr e pos) (xDrop te) := fun pins s σ H D Ex I h =>
  wpAny_Expr_any (thn (he pins s σ H _ Ex I h) fun v s1 ⟨x, H1, I1, r1, q1⟩ => ⟨σ, H1, I1, q1⟩) I.quiet hs
theorem pxs_one {st : Stmt} {t : XE → TS} (h1 : PX X st t) : PXs X [st] t := by
  intro pins s σ H D Ex I h
  refine wpAny_execs_cons (thn (h1 pins s σ H D Ex I h) fun f s1 q => ?_)
  cases f with
  | next => exact wpAny_execs_nil q
  | _ => exact q
end
end L2

namespace L2
open PySem PySem.Spec PyProof.Rows
noncomputable def ExcAt (h : Heap) (C : Addr) (bm : List Value) : Prop := bm.contains (.type "BaseException") = true ∧ ∃ nm q N bs hd sn su ab cl dd k0 k1 k2 k3 k5 nid, h.get? C = some (excClassObj nm q C N bs bm hd sn su ab cl dd k0 k1 k2 k3 k5 nid)
theorem ExcAt.keeps {h h' : Heap} {C : Addr} {bm : List Value} (x : ExcAt h C bm) (k : ∀ b o, h.get? b = some o → h'.get? b = some o) : ExcAt h' C bm :=
  ⟨x.1, let ⟨nm, q, N, bs, hd, sn, su, ab, cl, dd, k0, k1, k2, k3, k5, nid, e⟩ := x.2; ⟨nm, q, N, bs, hd, sn, su, ab, cl, dd, k0, k1, k2, k3, k5, nid, k _ _ e⟩⟩
section
variable {M : Model} {A : Around} {E : Value → Shared → Prop}
theorem matches_own {s : Shared} {e C C0 : Addr} {bm bm0 : List Value} {oe : Obj} {Q : Bool → Shared → Prop} (x : ExcAt s.heap C bm) (y : ExcAt s.heap C0 bm0) (he : s.heap.get? e = some oe) (hc : oe.cls = .ref C) (hq : Q ((Value.ref C :: bm).contains (.ref C0)) s) :
    wpAny M A (excMatches (.ref e) (.ref C0)) Q E s := by
  obtain ⟨b1, nm, q, N, bs, hd, sn, su, ab, cl, dd, k0, k1, k2, k3, k5, nid, hC⟩ := x
  obtain ⟨b2, nm', q', N', bs', hd', sn', su', ab', cl', dd', k0', k1', k2', k3', k5', nid', hD⟩ := y
  obtain ⟨h, g, d, t, os⟩ := s
  have hcB : (Value.ref C0 :: bm0).contains (.type "BaseException") = true := by rw [List.contains_cons, b2, Bool.or_true]
  have f := tc_notTuple
  unfold excMatches
  generalize hb : (Value.ref C :: bm).contains (.ref C0) = b at hq
  repeat (first | (with_reducible refine wpAny_loadPart_at he ?_; rw [hc]) | with_reducible refine wpAny_loadPart_at hD ?_ | (with_reducible refine wpAny_isSubtype_exc hD ?_; rw [hcB]) | (with_reducible refine wpAny_isSubtype_exc hC ?_; rw [hb]) | wp_step)
  cases b with
  | true => wp_walk; exact hq
  | false => wp_walk; exact hq
end
section
variable {X : Cx} {pins : List (Addr × Obj)} {σ : St} {H : Hp} {s : Shared} {h' : Heap} {n : Str} {i : Nat}
theorem Inv.lost {m' : Str → Option Value} (I : Inv X pins σ H s) (hN : X.N.Nodup) (hi : X.N[i]? = some n) (hl : ∀ m, s.heap.Ns X.env.locals m → h'.Ns X.env.locals (fun y => if y = n then m' y else m y)) (hs : Heap.SameBut X.env.locals s.heap h') : Inv X pins (σ.set i none) H { s with heap := h' } := by
  have at' : ∀ b o, b ≠ X.env.locals → s.heap.get? b = some o → h'.get? b = some o := fun b o hb e => (hs.2 b hb).trans e
  have ne : ∀ b o, X.s₀.heap.get? b = some o → b ≠ X.env.locals := fun b o e => Nat.ne_of_lt (Nat.lt_of_lt_of_le (Heap.lt_size e) I.ok.above)
  have isC : ∀ x c, X.env.cells.lookup x = some c → ∀ v, s.heap.IsCell c v → h'.IsCell c v := fun x c e v ⟨o, ho, hd⟩ => ⟨o, at' c o (I.cne x c e) ho, hd⟩
  obtain ⟨m, hn, hlk⟩ := id I.loc
  have B := I.base
  constructor
  · exact I.ok
  · exact I.os
  · exact I.bare
  · constructor
    · exact fun b o e n hb hx => at' b o (ne b o e) (B.keep b o e n hb hx)
    · intro b o e n hb hx
      obtain ⟨sl, e1⟩ := B.slot b o e n hb hx
      exact ⟨sl, at' b _ (ne b o e) e1⟩
    · exact B.free
    · intro b o e hx
      obtain ⟨o', e1⟩ := B.there b o e hx
      exact ⟨o', at' b _ (ne b o e) e1⟩
    · exact B.tups
    · exact B.frzs
    · exact B.tbls
  · refine ⟨_, hl m hn, fun j y v e1 e2 e3 => ?_⟩
    have hj : j ≠ i := fun z => by
      subst z
      rw [List.getElem?_set] at e2
      simp at e2
    rw [List.getElem?_set_ne (Ne.symm hj)] at e2
    obtain ⟨u, r, q⟩ := hlk j y v e1 e2 e3
    have hy : y ≠ n := fun z => hj (nodup_ix hN e1 (z ▸ hi))
    refine ⟨u, r, q.imp (fun ⟨a, b⟩ => ⟨a, (if_neg hy).trans b⟩) fun ⟨kd, c, ec, z⟩ => ⟨kd, c, ec, isC y c ec _ z⟩⟩
  · intro x c e
    obtain ⟨v, z⟩ := I.cell x c e
    exact ⟨v, isC x c e v z⟩
  · exact I.free
  · exact I.freeC
  · intro p hp
    obtain ⟨e, nn, nl, nf, d⟩ := I.pin p hp
    exact ⟨at' _ _ nl e, nn, nl, nf, d⟩
  · intro b o e
    refine (I.hok b o e).stay (fun c u hc q => at' c u (fun z => ?_) q) (fun _ q => q) fun _ _ q => q
    have hf := I.free
    rw [← z] at hf
    rcases hc with y | y
    · rw [← y, hf] at e; cases e
    · rw [hf] at y; cases y
  · simpa using I.len
theorem name_goes {M : Model} {A : Around} {E : Value → Shared → Prop} {pos : Pos} {Q : Unit → Shared → Prop} (I : Inv X pins σ H s) (hN : X.N.Nodup) (hi : X.N[i]? = some n) (hk : X.env.scope.names.lookup n = some .local)
    (h : ∀ s', Inv X pins (σ.set i none) H s' → Q () s') : wpAny M A (do bindName X.env n .none; unbindBehindTheSuite X.env n pos) Q E s := by
  have hlt : i < σ.length := I.len ▸ (List.getElem?_eq_some_iff.mp hi).1
  refine wpAny_bind (wpAny_bindName (store_ok (v := .non) I hN hi (.inl hk) rfl (fun s1 I1 => ?_) (.inr hk)))
  unfold unbindBehindTheSuite
  refine wpAny_onRaise ?_
  obtain ⟨m, hn, hlk⟩ := id I1.loc
  obtain ⟨u, _, q⟩ := hlk i n .non hi (by rw [List.getElem?_set_self hlt]) (.inl hk)
  have hv : m n = some u := by
    rcases q with q | ⟨q, _⟩
    · exact q.2
    · have q' : X.env.scope.names.lookup n = some .cell ∨ X.env.scope.names.lookup n = some .free := q
      rw [hk] at q'
      rcases q' with q' | q' <;> cases q'
  refine wpAny_unbindName_local hk hn hv (by simp [I.ok.kind]) fun h2 w hn2 hs2 => ?_
  have J := I1.lost (h' := h2) (m' := fun _ => w) hN hi (fun m2 hm2 => ?_) hs2
  · rw [List.set_set] at J
    exact h _ J
  · have : m2 = m := by
      obtain ⟨o, es, ep, ho, hd, _, z⟩ := hm2
      obtain ⟨o', es', ep', ho', hd', _, z'⟩ := hn
      rw [ho] at ho'; cases ho'
      rw [hd] at hd'; cases hd'
      exact funext fun y => (z y).symm.trans (z' y)
    rw [this]
    exact hn2
end
noncomputable abbrev Cx.row (X : Cx) (e : Value) : Cx := { X with A := X.A.mark (some e), calm := false, xe := fun _ _ => False }
section
variable {X : Cx} {pins : List (Addr × Obj)} {σ : St} {H : Hp} {s : Shared} {e : Value}
theorem Inv.row (I : Inv X pins σ H s) (e : Value) : Inv (X.row e) pins σ H s := by
  have ok : (X.row e).Ok := by
    have o := I.ok
    exact ⟨o.mod, o.kind, o.glob, o.blt, o.above, o.inj, o.has, o.cab, (fun z => nomatch (show false = true from z)), o.frames, o.stk, o.exf, o.bs, o.bsz, o.noex, o.exfs, o.funs, o.frf⟩
  exact ⟨ok, I.os, I.bare, I.base, I.loc, I.cell, I.free, I.freeC, I.pin, I.hok, I.len⟩
theorem Inv.unrow (I : Inv (X.row e) pins σ H s) (o : X.Ok) : Inv X pins σ H s := ⟨o, I.os, I.bare, I.base, I.loc, I.cell, I.free, I.freeC, I.pin, I.hok, I.len⟩
noncomputable def Ends.drop (D : Ends) (i : Nat) : Ends := { nx := fun σ H => D.nx (σ.set i none) H, rt := D.rt, bk := fun σ H => D.bk (σ.set i none) H, ct := fun σ H => D.ct (σ.set i none) H }
theorem flight_off {M : Model} {A : Around} {E : Value → Shared → Prop} {Q : Unit → Shared → Prop} {x T : Addr} {cls : Value} (I : Inv X pins σ H s) (hx : H x = some (.ext (IsExc x T cls))) (hT : H T = some (.ext (IsEnt T)))
    (h : ∀ s', Inv X pins σ H s' → Q () s') : wpAny M A (setFlight (.ref x) none) Q E s := by
  obtain ⟨⟨oe, vs, f1, f2, f3, f4⟩, _⟩ := I.hok x _ hx
  obtain ⟨⟨oT, ts, g1, g2, g3⟩, _⟩ := I.hok T _ hT
  have hsz : 3 < ts.size := by
    obtain ⟨z, _⟩ := Array.getElem?_eq_some_iff.mp g3
    exact z
  have mf : Obj.mapFields (·.setIfInBounds 3 .none) oT = { oT with data := .fields (ts.setIfInBounds 3 .none) } := by
    obtain ⟨oc, od, da, sl⟩ := oT
    obtain rfl : da = _ := g2
    rfl
  have up : (s.heap.update T (Obj.mapFields (·.setIfInBounds 3 .none))).get? T = some { oT with data := .fields (ts.setIfInBounds 3 .none) } := by
    rw [Heap.get?_update_self _ g1 (by rw [mf]; rfl), mf]
  refine wpAny_setFlight_none f1 f3 f4 g1 g2 hsz (h _ ?_)
  have J := I.write (x := T) (e := T) (o := .ext (IsEnt T)) (t' := s.toks) (h' := s.heap.update T (Obj.mapFields (·.setIfInBounds 3 .none))) (by rw [hT]; trivial) (.inl rfl) ?_ ?_ ?_
  · have : upd H T (.ext (IsEnt T)) = H := by
      funext b
      by_cases hb : b = T
      · subst hb; rw [upd_same]; exact hT.symm
      · exact upd_ne hb
    rw [this] at J
    exact J
  · exact fun b u hb e => by rw [Heap.get?_update_other _ _ (Ne.symm hb)]; exact e
  · exact ⟨_, up⟩
  · exact ⟨⟨_, _, up, rfl, by rw [Array.getElem?_setIfInBounds]; simp [hsz]⟩, ⟨_, up⟩, fun h1 h2 ⟨o, ws, e1, e2⟩ z => ⟨o, ws, z o e1, e2⟩⟩
theorem row_as {D : Ends} {x T C C0 : Addr} {bm bm0 : List Value} {cn n : Str} {np pos : Pos} {i : Nat} {b0 : Stmt} {suite : List Stmt} {rest : List ExceptHandler} {ts : TS} (I : Inv X pins σ H s) (hx : H x = some (.ext (IsExc x T (.ref C)))) (hT : H T = some (.ext (IsEnt T)))
    (hN : X.N.Nodup) (hi : X.N[i]? = some n) (hk : X.env.scope.names.lookup n = some .local) (hg : Gl X cn) (hm : X.mg cn = some (.ref C0)) (c1 : ExcAt X.base C bm) (c2 : ExcAt X.base C0 bm0) (hit : (Value.ref C :: bm).contains (.ref C0) = true)
    (hs : PSs (X.row (.ref x)) (b0 :: suite) ts) (q : ts (D.drop i) (σ.set i (some (.ref x))) H) (hdb : (cn == ("__debug__" : Str)) = false := by decide) :
    wpAny (model X.prog X.w) X.A (handleBy (.ref x) X.env (.ExceptHandler (some (.Name cn np)) (some n) (b0 :: suite) pos :: rest)) (SP X pins D) X.xe s := by
  refine wpAny_handleBy_cons (codeAny_handlers_test ?_) (by intro z; cases z)
  have IR := I.row (.ref x)
  obtain ⟨⟨oe, vs, f1, f2, f3, f4⟩, _⟩ := I.hok x _ hx
  refine ld_glob (X := X.row (.ref x)) IR hg hm (matches_own (c1.keeps I.bk) (c2.keeps I.bk) f1 f2 ?_) hdb
  rw [hit]
  refine codeAny_handlers_suite_as (flight_off IR hx hT fun s1 I1 => store_ok (X := X.row (.ref x)) (v := .ref x) I1 hN hi (.inl hk) rfl (fun s2 I2 => ?_) (.inr hk))
  refine wpAny_mono (hs pins s2 _ H (D.drop i) I2 q) (fun f s3 h3 => ?_) fun _ _ z => False.elim z
  cases f with
  | next =>
    obtain ⟨σ', H', J, z⟩ := h3
    exact name_goes (J.unrow I.ok) hN hi hk fun s4 J4 => ⟨_, H', J4, z⟩
  | brk =>
    obtain ⟨σ', H', J, z⟩ := h3
    exact name_goes (J.unrow I.ok) hN hi hk fun s4 J4 => ⟨_, H', J4, z⟩
  | cont =>
    obtain ⟨σ', H', J, z⟩ := h3
    exact name_goes (J.unrow I.ok) hN hi hk fun s4 J4 => ⟨_, H', J4, z⟩
  | ret u =>
    obtain ⟨v, σ', H', J, r, z⟩ := h3
    exact name_goes (J.unrow I.ok) hN hi hk fun s4 J4 => ⟨v, _, H', J4, r, z⟩
end
end L2

namespace L2
open PySem PySem.Spec PySem.W
section
variable {prog : Program} {w : World} {A : Around} {E : Value → Shared → Prop} {h : Heap} {g : Array GenState} {d : Drawn} {t : Nat} {os : OsState} {a C : Addr} {o : Obj} {bm : List Value}
theorem xcls_get {R : Result → Shared → Prop} (hx : h.get? a = some o) (hc : o.cls = .ref C) (hC : ExcAt h C bm) (ob : bm.contains (.type "object") = true) (hq : R (.ok (.ret (.ref C))) ⟨h, g, d, t, os⟩) :
    codeAny (model prog w) A (.call (.builtin "getset_descriptor.__get__") ⟨[.builtin "object.__class__", .ref a, .ref C], []⟩) R ⟨h, g, d, t, os⟩ := by
  obtain ⟨b1, nm, q, N, bs, hd, sn, su, ab, cl, dd, k0, k1, k2, k3, k5, nid, eC⟩ := hC
  have t5 : (⟨h, g, d, t, os⟩ : Shared).TypeIs (.builtin "object.__class__") "getset_descriptor" := F.typeOf_object_class
  have cB : (Value.ref C :: bm).contains (.type (".".intercalate ("object.__class__".cutAt '.').dropLast)) = true := by rw [F.owner_object_class, List.contains_cons, ob]; rfl
  refine codeAny_call_builtin F.slot_gs_get.plain F.entry_gs_get (F.slot_gs_get.check _ _ _ _ _ _ _ _ t5 (F.args_gs_get _ _ _) ?_)
  repeat (any_goals (first | assumption | (with_reducible refine wpAny_loadPart_at hx ?_; rw [hc]) | (with_reducible refine wpAny_isSubtype_exc eC ?_; rw [cB]) | wp_step))
  refine ⟨Code.quiet_builtin _ (by decide +kernel), ?_⟩
  refine codeAny_builtin F.entry_object_class ?_
  repeat (any_goals (first | assumption | (with_reducible refine wpAny_loadPart_at hx ?_; rw [hc]) | wp_step))
theorem xcls_entry {tk : Tok} {Q : Fin → Shared → Prop} (hx : h.get? a = some o) (hc : o.cls = .ref C) (hC : ExcAt h C bm) (ob : bm.contains (.type "object") = true) (l3 : Looks (model prog w) h (typeLookup (.ref C) "__class__") (some (.builtin "object.__class__"))) (hq : Q (.done (.ret (.ref C))) ⟨h, g, d, t, os⟩) :
    wpAny (model prog w) A
      (Builtin.«object.__getattribute__» ⟨[.ref a, .str "__class__" tk], []⟩) Q E ⟨h, g, d, t, os⟩ := by
  have t5 : (⟨h, g, d, t, os⟩ : Shared).TypeIs (.builtin "object.__class__") "getset_descriptor" := F.typeOf_object_class
  have ft := F.typeOf_object_class
  have fg := F.slot_gs_get.lookup
  have fs := F.slot_gs_set.lookup
  repeat (any_goals (first | assumption | (with_reducible refine wpAny_loadPart_at hx ?_; rw [hc]) | with_reducible refine l3.at ?_ | wp_step))
  refine xcls_get hx hc hC ob ?_
  repeat any_goals (first | assumption | wp_step)
theorem xcls_check {M : Model} {nv : Value} {Q : Unit → Shared → Prop} (hx : h.get? a = some o) (hc : o.cls = .ref C) (hC : ExcAt h C bm) (hq : Q () ⟨h, g, d, t, os⟩) : wpAny M A (checkBuiltinCall "BaseException.__getattribute__" ⟨[.ref a, nv], []⟩) Q E ⟨h, g, d, t, os⟩ := by
  have e1 : builtinKind "BaseException.__getattribute__" = some .slot := by decide +kernel
  have e2 : splitId "BaseException.__getattribute__" = some ("BaseException", "__getattribute__") := by decide +kernel
  obtain ⟨b1, nm, q, N, bs, hd, sn, su, ab, cl, dd, k0, k1, k2, k3, k5, nid, eC⟩ := hC
  have cB : (Value.ref C :: bm).contains (.type "BaseException") = true := by rw [List.contains_cons, b1]; rfl
  have e3 := F.args_bexc_ga (.ref a) nv
  simp only [checkBuiltinCall, e1, e2]
  refine wpAny_bind ?_
  unfold isInstance
  repeat (first | (with_reducible refine wpAny_loadPart_at hx ?_; rw [hc]) | (with_reducible refine wpAny_isSubtype_exc eC ?_; rw [cB]) | wp_step)
  exact hq
theorem xcls_call {tk : Tok} {R : Result → Shared → Prop} (hx : h.get? a = some o) (hc : o.cls = .ref C) (hC : ExcAt h C bm) (ob : bm.contains (.type "object") = true) (l3 : Looks (model prog w) h (typeLookup (.ref C) "__class__") (some (.builtin "object.__class__"))) (hq : R (.ok (.ret (.ref C))) ⟨h, g, d, t, os⟩) :
    codeAny (model prog w) A (.call (.builtin "BaseException.__getattribute__") ⟨[.ref a, .str "__class__" tk], []⟩) R ⟨h, g, d, t, os⟩ :=
  codeAny_call_builtin PySem.F.attrBase_ValueError.ga.plain F.entry_bexc_ga (xcls_check hx hc hC (xcls_entry hx hc hC ob l3 hq))
theorem xcls_by {tk : Tok} {Q : Value → Shared → Prop} (hx : h.get? a = some o) (hc : o.cls = .ref C) (hC : ExcAt h C bm) (ob : bm.contains (.type "object") = true) (l1 : Looks (model prog w) h (typeLookup (.ref C) "__getattribute__") (some (.builtin "BaseException.__getattribute__")))
    (l2 : Looks (model prog w) h (typeLookup (.ref C) "__getattr__") none) (l3 : Looks (model prog w) h (typeLookup (.ref C) "__class__") (some (.builtin "object.__class__"))) (hq : Q (.ref C) ⟨h, g, d, t, os⟩) :
    wpAny (model prog w) A (getAttrBy (.ref a) (.str "__class__" tk) false) Q E ⟨h, g, d, t, os⟩ := by
  have f3 := PySem.F.attrBase_ValueError.ga.bind (.ref a)
  have h2 : (Value.builtin "BaseException.__getattribute__" == Value.builtin "object.__getattribute__") = false := by decide +kernel
  have h1 : (onTheHeap (Value.ref C) && Value.builtin "BaseException.__getattribute__" == Value.builtin "object.__getattribute__") = false := by rw [h2]; rfl
  have h0 : (false && onTheHeap (Value.builtin "BaseException.__getattribute__")) = false := rfl
  repeat (any_goals (first | assumption | (with_reducible refine wpAny_loadPart_at hx ?_; rw [hc]) | with_reducible refine l1.at ?_ | with_reducible refine l2.at ?_ | wp_step))
  refine xcls_call hx hc hC ob l3 ?_
  repeat any_goals (first | assumption | wp_step)
theorem xcls_attr {Q : Option Value → Shared → Prop} (hx : h.get? a = some o) (hc : o.cls = .ref C) (hC : ExcAt h C bm) (ob : bm.contains (.type "object") = true) (l1 : Looks (model prog w) h (typeLookup (.ref C) "__getattribute__") (some (.builtin "BaseException.__getattribute__")))
    (l2 : Looks (model prog w) h (typeLookup (.ref C) "__getattr__") none) (l3 : Looks (model prog w) h (typeLookup (.ref C) "__class__") (some (.builtin "object.__class__"))) (hq : Q (some (.ref C)) ⟨h, g, d, t + 1, os⟩) :
    wpAny (model prog w) A (getAttr? (.ref a) "__class__") Q E ⟨h, g, d, t, os⟩ := by
  unfold getAttr? getAttrBy?
  repeat (any_goals (first | assumption | with_reducible apply xcls_by hx hc hC ob l1 l2 l3 | wp_step))
end
end L2
namespace L2
open PySem PySem.Spec PySem.W
noncomputable def ExcIn (x C : Addr) (h : Heap) : Prop := ∃ o, h.get? x = some o ∧ o.cls = .ref C
theorem kitx_exc {K : Frag} {x C : Addr} {bm : List Value} (hC : ∀ h, K.In h → ExcAt h C bm) (ob : bm.contains (.type "object") = true) (l1 : findIn K (.ref C) "__getattribute__" = some (some (.builtin "BaseException.__getattribute__")))
    (l2 : findIn K (.ref C) "__getattr__" = some none) (l3 : findIn K (.ref C) "__class__" = some (some (.builtin "object.__class__"))) : KitX K (.ref x) (.ref C) (ExcIn x C) where
  ty := fun _ _ _ ⟨o, h1, h2⟩ => h2 ▸ (Looks.ld h1).andThen .now
  it := fun _ h X _ => by
    obtain ⟨_, nm, q, N, bs, hd, sn, su, ab, cl, dd, k0, k1, k2, k3, k5, nid, eC⟩ := hC h X
    intro A' Q' E' s' k q
    unfold isType loadHead
    exact wpAny_bind (wpAny_loadPart (k _ _ eC) (wpAny_pure q))
  ne := fun h tp _ _ _ _ X htp => by
    obtain ⟨_, nm, q, N, bs, hd, sn, su, ab, cl, dd, k0, k1, k2, k3, k5, nid, eC⟩ := hC h X
    refine Bool.eq_false_iff.mpr fun z => ?_
    have e : C = tp := Value.ref.inj (beq_iff_eq.mp z)
    rw [← e, eC] at htp
    have z2 := congrArg (fun o => Option.map Obj.data o) htp
    cases z2
  ca := fun {_ _ _ _ _ s} X ⟨o, h1, h2⟩ k => by
    obtain ⟨h, g, d, t, os⟩ := s
    exact xcls_attr h1 h2 (hC h X) ob (looks_findIn X l1) (looks_findIn X l2) (looks_findIn X l3) k
structure Asks (K : Frag) (C : Addr) (bm : List Value) : Prop where
  at' : ∀ h, K.In h → ExcAt h C bm
  ob : bm.contains (.type "object") = true
  l1 : findIn K (.ref C) "__getattribute__" = some (some (.builtin "BaseException.__getattribute__"))
  l2 : findIn K (.ref C) "__getattr__" = some none
  l3 : findIn K (.ref C) "__class__" = some (some (.builtin "object.__class__"))
section
variable {X : Cx}
theorem call_isiE : CallR X (.builtin "isinstance") (fun xs H Q => ∃ x T C bm D b, xs = [.ref x, .ref D] ∧ H x = some (.ext (IsExc x T (.ref C))) ∧ Asks X.K C bm ∧ kitOne X.K (.ref C) (.ref D) = some b ∧ Q (.bl b) H) := by
  intro pins s σ H xs us Q I r h
  obtain ⟨x, T, C, bm, D, b, rfl, hx, ak, e, q⟩ := h
  obtain ⟨u, v, rfl, ru, rv⟩ := vals2 r
  cases ru
  cases rv
  obtain ⟨⟨o, vs, h1, h2, _⟩, _⟩ := I.hok x _ hx
  exact kia_one (kitx_exc ak.at' ak.ob ak.l1 ak.l2 ak.l3) I.kIn ⟨o, h1, h2⟩ e (fun z => nomatch z) fun tk => ⟨.bl b, H, I.tok _, rfl, q⟩
theorem call_isiT : CallR X (.builtin "isinstance") (fun xs H Q => ∃ x T C bm D b, xs = [.ref x, .ty D] ∧ H x = some (.ext (IsExc x T (.ref C))) ∧ Asks X.K C bm ∧ kitOne X.K (.ref C) (.type D) = some b ∧ Q (.bl b) H) := by
  intro pins s σ H xs us Q I r h
  obtain ⟨x, T, C, bm, D, b, rfl, hx, ak, e, q⟩ := h
  obtain ⟨u, v, rfl, ru, rv⟩ := vals2 r
  cases ru
  cases rv
  obtain ⟨⟨o, vs, h1, h2, _⟩, _⟩ := I.hok x _ hx
  exact kia_one (kitx_exc ak.at' ak.ob ak.l1 ak.l2 ak.l3) I.kIn ⟨o, h1, h2⟩ e (fun z => nomatch z) fun tk => ⟨.bl b, H, I.tok _, rfl, q⟩
end
end L2

namespace L2
open PySem PySem.Spec PySem.W PyProof.Rows
noncomputable abbrev bmV : List Value := [.type "ValueError", .type "Exception", .type "BaseException", .type "object"]
noncomputable def wordKeys (es : List DictEntry) : Bool := es.all fun e => match e.key with | .str _ _ => true | _ => false
structure Ref (K : Frag) (mg : Str → Option Value) (x : Str) (C : Addr) (bm : List Value) : Prop where
  bd : mg x = some (.ref C)
  own : ∀ h, K.In h → OwnCls x C bmV "ValueError.__new__" mg h
  asks : Asks K C bm
  tail : ∀ h, K.In h → OwnTail h bmV (.ref C :: bm)
theorem ref_mk {K : Frag} {h : Heap} {mg : Str → Option Value} {x : Str} {C N : Addr} {nm q : Str} {bs bm : List Value} {hd : Bool} {sn : List Str} {su : List Value} {ab : Bool} {cl : Option Bool} {dd nd : Option Addr} {k0 k1 k2 k3 k5 : Option Value} {nc : Value} {es : Array DictEntry} {ne : Nat} {ns : Array (Option Value)}
    (X : K.In h) (G : h.Ns mainGlobals mg) (t : ∀ h, K.In h → OwnTail h bmV bm) (a : nsIn K mainGlobals x = some (some (.ref C))) (l : K.lookup C = some (excClassObj nm q C N bs bm hd sn su ab cl dd k0 k1 k2 k3 k5 "ValueError.__new__"))
    (lN : K.lookup N = some ⟨nc, nd, .dict es ne, ns⟩) (ok : wordKeys es.toList = true) (ni : nsIn K N "__init__" = some none)
    (l1 : findIn K (.ref C) "__getattribute__" = some (some (.builtin "BaseException.__getattribute__"))) (l2 : findIn K (.ref C) "__getattr__" = some none) (l3 : findIn K (.ref C) "__class__" = some (some (.builtin "object.__class__"))) : Ref K mg x C bm := by
  have ok' : nsOkIn K N = true := by
    unfold nsOkIn
    rw [lN]
    show es.all _ = true
    rw [← Array.all_toList]
    exact ok
  refine ⟨mg_of X G a, fun base Y => ?_, ⟨fun base Y => ⟨?_, ?_⟩, ?_, l1, l2, l3⟩, fun base Y => ?_⟩
  · exact ⟨mg_of X G a, bm, N, nm, q, bs, hd, sn, su, ab, cl, dd, k0, k1, k2, k3, k5, _, Y _ _ l, .of_isNs (isNs_of_in Y ok'), nsMap_none_of_in Y ok' ni, t base Y⟩
  · exact (t base Y).hasType rfl
  · exact ⟨nm, q, N, bs, hd, sn, su, ab, cl, dd, k0, k1, k2, k3, k5, _, Y _ _ l⟩
  · exact (t h X).hasType rfl
  · exact .own (Y _ _ l) (.of_isNs (isNs_of_in Y ok')) (nsMap_none_of_in Y ok' ni) (t base Y)
end L2

namespace L2
open PySem PySem.Spec PySem.W PyProof.Rows
structure Dx (P : Program) (w : World) (K : Frag) (mg : Str → Option Value) (base : Heap) (x : Str) (k : Nat) (ps : List Str) (sp : Sp) : Prop where
  ex : ∃ f fd, FnOk P w K mg base (CX1 P w) k f fd ps sp ∧ mg x = some (.ref f) ∧ keepIn K (.ref f) = true ∧ Binds K fd ps []
section
variable {P : Program} {w : World} {K : Frag} {mg : Str → Option Value} {base : Heap} {x : Str} {st : Stmt} {j k : Nat} {N ps : List Str} {sp sp' : Sp}
theorem Fd.okx (F : Fd K mg x st ps) (S : FnScope N ps (defScope st)) (len : ∀ vs H Q E, sp vs H Q E → vs.length = ps.length)
    (hbody : ∀ (f : Addr) (cdv : Value) (A : Around) (outer : List Env) (s : Shared) (H : Hp) (vs : List V) (Q : VK) (E : XK), Room k (A.deeper (envOfC x (defScope st) s.heap.objs.size f cdv)) → sp vs H Q E →
      ∃ t, PSs (cxOf (CX1 P w) P w K mg base N x (defScope st) f cdv A outer s H E) (defBody st) t ∧ t { nx := fun _ H' => Q .non H', rt := Q } (start N vs) H) : Dx P w K mg base x (k + 1) ps sp :=
  let ⟨f, fd, F, a, b, c⟩ := F.ex
  ⟨f, fd, F.ok1 S len (hbody f), a, b, c⟩
end
section
variable {P : Program} {w : World} {K : Frag} {mg : Str → Option Value} {base : Heap} {N : List Str} {qual : Str} {scope : Scope} {f : Addr} {cd : Value} {A : Around} {outer : List Env} {s₀ : Shared} {H₀ : Hp} {E : XK} {j k : Nat} {ps : List Str} {sp : Sp} {x : Str} {p pos : Pos} {e : Expr} {es : List Expr} {t : TA}
theorem pe_callX (D : Dx P w K mg base x j ps sp) (hr : Room k (cxOf (CX1 P w) P w K mg base N qual scope f cd A outer s₀ H₀ E).A) (ha : PA (cxOf (CX1 P w) P w K mg base N qual scope f cd A outer s₀ H₀ E) (e :: es) t) (hjk : j ≤ k := by first | decide | omega)
    (hg : Gl (cxOf (CX1 P w) P w K mg base N qual scope f cd A outer s₀ H₀ E) x := by rfl)
    (hdb : (x == ("__debug__" : Str)) = false := by decide) (he : starEach (e :: es) (cxOf (CX1 P w) P w K mg base N qual scope f cd A outer s₀ H₀ E).env = (false, eval e (cxOf (CX1 P w) P w K mg base N qual scope f cd A outer s₀ H₀ E).env) :: starEach es (cxOf (CX1 P w) P w K mg base N qual scope f cd A outer s₀ H₀ E).env := by rfl)
    (hpl : (backTo pos (starEach es (cxOf (CX1 P w) P w K mg base N qual scope f cd A outer s₀ H₀ E).env)).any (·.1) = false := by rfl) :
    PE (cxOf (CX1 P w) P w K mg base N qual scope f cd A outer s₀ H₀ E) (.Call (.Name x p) (e :: es) [] pos) (tCall sp [] E t) := by
  obtain ⟨f', fd, F, a, b, c⟩ := D.ex
  exact pe_call (F.mono hjk) hr hg a b c .nil pass1 ha hdb he hpl
theorem ps_raise {C : Addr} {np cpos : Pos} (O : OwnCls x C bmV "ValueError.__new__" mg base) (ha : PA (cxOf (CX1 P w) P w K mg base N qual scope f cd A outer s₀ H₀ E) (e :: es) t) (hg : Gl (cxOf (CX1 P w) P w K mg base N qual scope f cd A outer s₀ H₀ E) x := by rfl)
    (hdb : (x == ("__debug__" : Str)) = false := by decide) (he : starEach (e :: es) (cxOf (CX1 P w) P w K mg base N qual scope f cd A outer s₀ H₀ E).env = (false, eval e (cxOf (CX1 P w) P w K mg base N qual scope f cd A outer s₀ H₀ E).env) :: starEach es (cxOf (CX1 P w) P w K mg base N qual scope f cd A outer s₀ H₀ E).env := by rfl)
    (hpl : (backTo cpos (starEach es (cxOf (CX1 P w) P w K mg base N qual scope f cd A outer s₀ H₀ E).env)).any (·.1) = false := by rfl) (hc : (cxOf (CX1 P w) P w K mg base N qual scope f cd A outer s₀ H₀ E).calm = true := by rfl) :
    PS (cxOf (CX1 P w) P w K mg base N qual scope f cd A outer s₀ H₀ E) (.Raise (some (.Call (.Name x np) (e :: es) [] cpos)) none pos) (tThrow C t E) :=
  ps_throw O PySem.F.excBase_ValueError hg hc throws1 ha hdb he hpl
end
section
variable {X : Cx} {pos : Pos} {e : Expr} {te : TE}
end
section
variable {X : Cx} {P : Program} {w : World} {K : Frag} {mg : Str → Option Value} {base : Heap} {j k : Nat} {ps : List Str} {sp : Sp} {x : Str} {p pos : Pos} {e : Expr} {es : List Expr} {t : TA}
theorem pxe_callX (D : Dx P w K mg base x j ps sp) (hr : Room k X.A) (ha : PA X.nox (e :: es) t) (hjk : j ≤ k := by first | decide | omega) (hg : Gl X x := by rfl)
    (h1 : X.prog = P := by rfl) (h2 : X.w = w := by rfl) (h3 : X.K = K := by rfl) (h4 : X.mg = mg := by rfl) (h5 : X.base = base := by rfl)
    (hdb : (x == ("__debug__" : Str)) = false := by decide) (he : starEach (e :: es) X.env = (false, eval e X.env) :: starEach es X.env := by rfl) (hpl : (backTo pos (starEach es X.env)).any (·.1) = false := by rfl) :
    PXE X (.Call (.Name x p) (e :: es) [] pos) (xCall sp [] t) := by
  subst h1 h2 h3 h4 h5
  obtain ⟨f, fd, F, a, b, c⟩ := D.ex
  exact pxe_call (F.mono hjk) hr hg a b c .nil ha hdb he hpl
end
theorem pe_ref {X : Cx} {K : Frag} {mg : Str → Option Value} {x : Str} {C : Addr} {bm : List Value} {pos : Pos} (R : Ref K mg x C bm) (hg : Gl X x := by rfl) (hm : X.mg = mg := by rfl) (hd : (x == ("__debug__" : Str)) = false := by decide) : PE X (.Name x pos) (tC (.ref C)) := by
  subst hm
  exact pe_glob (v := .ref C) hg R.bd rfl hd
noncomputable def rIsiE (K : Frag) : List V → Hp → VK → Prop := fun xs H Q => ∃ x T C bm D b, xs = [.ref x, .ref D] ∧ H x = some (.ext (IsExc x T (.ref C))) ∧ Asks K C bm ∧ kitOne K (.ref C) (.ref D) = some b ∧ Q (.bl b) H
noncomputable def rIsiT (K : Frag) : List V → Hp → VK → Prop := fun xs H Q => ∃ x T C bm D b, xs = [.ref x, .ty D] ∧ H x = some (.ext (IsExc x T (.ref C))) ∧ Asks K C bm ∧ kitOne K (.ref C) (.type D) = some b ∧ Q (.bl b) H
section
variable {X : Cx} {K : Frag}
theorem call_isiEK (hK : X.K = K := by rfl) : CallR X (.builtin "isinstance") (rIsiE K) := by subst hK; exact call_isiE
theorem call_isiTK (hK : X.K = K := by rfl) : CallR X (.builtin "isinstance") (rIsiT K) := by subst hK; exact call_isiT
theorem drop_nx {D : Ends} {i : Nat} {σ : St} {H : Hp} (h : D.nx (σ.set i none) H) : (D.drop i).nx σ H := h
end
theorem bt_ValueError : bootBuiltins "ValueError" = some (.type "ValueError") := by decide +kernel
end L2

namespace L2
open PySem PySem.Spec PyProof.Rows
noncomputable def FlyV (h : Heap) (x T : Addr) (cls v : Value) : Prop :=
  ∃ oe vs oT ts, h.get? x = some oe ∧ oe.cls = cls ∧ oe.data = .fields vs ∧ vs[1]? = some (.ref T) ∧ T ≠ x ∧ h.get? T = some oT ∧ oT.data = .fields ts ∧ ts[3]? = some v
theorem Fly.v {h : Heap} {x T : Addr} {cls : Value} (f : Fly h x T cls) : FlyV h x T cls .none := f
theorem FlyV.keeps {h h' : Heap} {x T : Addr} {cls v : Value} (f : FlyV h x T cls v) (kx : ∀ o, h.get? x = some o → h'.get? x = some o) (kT : ∀ o, h.get? T = some o → h'.get? T = some o) : FlyV h' x T cls v :=
  let ⟨oe, vs, oT, ts, a, b, c, d, e, g, i, j⟩ := f; ⟨oe, vs, oT, ts, kx _ a, b, c, d, e, kT _ g, i, j⟩
section
variable {M : Model} {A : Around} {E : Value → Shared → Prop} {s : Shared}
theorem mark_set {x T : Addr} {cls v : Value} {fr : Option Addr} {Q : Unit → Shared → Prop} (f : FlyV s.heap x T cls v)
    (h : ∀ h', FlyV h' x T cls (fr.elim .none fun a => rawInt a) → (∀ b, b ≠ T → h'.get? b = s.heap.get? b) → (∃ o ts, h'.get? T = some o ∧ o.data = .fields ts) → Q () { s with heap := h' }) : wpAny M A (setFlight (.ref x) fr) Q E s := by
  obtain ⟨oe, vs, oT, ts, a, b, c, d, e, g, i, j⟩ := f
  have l3 : 3 < ts.size := (Array.getElem?_eq_some_iff.mp j).1
  unfold setFlight
  refine wpAny_bind (wpAny_field a c d ?_)
  rw [if_pos (by simp)]
  refine wpAny_setField g i l3 (h _ ?_ (fun b' hb => Heap.get?_update_other _ _ (Ne.symm hb)) ?_)
  · have mf := Obj.data_mapFields i (·.setIfInBounds 3 (fr.elim Value.none fun a => rawInt a))
    exact ⟨oe, vs, _, _, (Heap.get?_update_other _ _ e).trans a, b, c, d, e, Heap.get?_update_self _ g (Obj.isFreed_of_fields mf), mf, by rw [Array.getElem?_setIfInBounds]; simp [l3]⟩
  · have mf := Obj.data_mapFields i (·.setIfInBounds 3 (fr.elim Value.none fun a => rawInt a))
    exact ⟨_, _, Heap.get?_update_self _ g (Obj.isFreed_of_fields mf), mf⟩
theorem note_v {base : Heap} {env : Env} {outer : List Env} {L x T : Addr} {cls v : Value} {Q : Unit → Shared → Prop} (hfr : A.frames = some (env :: outer)) (hl : s.heap.FunFrames base (env :: outer)) (hf : env.frame = some L) (fl : FlyV s.heap x T cls v) (nv : ¬ (v == rawInt L) = true)
    (h : ∀ h' T', FlyV h' x T' cls (rawInt L) → T' ∉ frs (env :: outer) → (T' = x ∨ T' = T ∨ s.heap.get? T' = none) → (∀ b o, b ∉ frs (env :: outer) → b ≠ x → b ≠ T → s.heap.get? b = some o → h'.get? b = some o) →
      (∀ b o, b ∈ frs (env :: outer) → s.heap.get? b = some o → ∃ sl, h'.get? b = some { o with slots := sl }) → Q () { s with heap := h' }) : wpAny M A (noteFrame (.ref x) env) Q E s := by
  obtain ⟨oe, vs, oT, ts, a, b, c, d, e, g, i, j⟩ := fl
  subst b
  have l3 : 3 < ts.size := (Array.getElem?_eq_some_iff.mp j).1
  have l1 : 1 < vs.size := (Array.getElem?_eq_some_iff.mp d).1
  have e0 : vs[0]? = some vs[0] := Array.getElem?_eq_getElem (Nat.lt_trans Nat.zero_lt_one l1)
  unfold noteFrame
  simp only [hf]
  refine wpAny_bind (wpAny_field a c d ?_)
  rw [if_pos (by simp)]
  refine wpAny_bind (wpAny_field g i j ?_)
  rw [if_neg nv]
  refine wpAny_bind (wpAny_setField g i l3 ?_)
  have oth : ∀ q, q ≠ T → (s.heap.update T (Obj.mapFields (·.setIfInBounds 3 Value.none))).get? q = s.heap.get? q := fun q hq => Heap.get?_update_other _ _ (Ne.symm hq)
  have frT : ∀ q ∈ frs (env :: outer), q ≠ T := fun q hq z => by
    obtain ⟨_, o, ho, hd⟩ := hl.mem hq
    rw [z, g] at ho
    cases ho
    exact hd _ i
  generalize s.heap.update T (Obj.mapFields (·.setIfInBounds 3 Value.none)) = g1 at oth ⊢
  have hl1 : g1.FunFrames base (env :: outer) := hl.of_keeps fun q o hq hnf => ⟨o, (oth q fun z => by rw [z, g] at hq; cases hq; exact hnf _ i).trans hq, rfl⟩
  have S1 : ∀ q ∈ frs (env :: outer), q ∈ x :: T :: frs (env :: outer) := fun q hq => List.mem_cons_of_mem _ (List.mem_cons_of_mem _ hq)
  have hl2 := funframes_without hl1 S1
  refine wpAny_entryW (base := without g1 (x :: T :: frs (env :: outer))) hfr hl2 hf ((oth x (Ne.symm e)).trans a) (without_stays _ _) (without_in (by simp)) c l1 e0 fun h' ⟨k1, k2, k3, k4⟩ => ?_
  obtain ⟨oe', vs', T', oT', ts', f1, ⟨f2, _⟩, f3, f4, f5, f6, f7, f8, f9⟩ := k3
  have nT : T' ∉ frs (env :: outer) := fun hq => by
    obtain ⟨_, o, ho, hd⟩ := k2.mem hq
    rw [f7] at ho
    cases ho
    exact hd _ f8
  refine h h' T' ⟨oe', vs', oT', ts', f1, f2, f3, f4, f6, f7, f8, f9⟩ nT ?_ (fun q o n1 n2 n3 z => ?_) (fun q o hq z => ?_)
  · by_cases hS : T' ∈ x :: T :: frs (env :: outer)
    · rcases List.mem_cons.mp hS with z | z
      · exact .inl z
      · rcases List.mem_cons.mp z with z | z
        · exact .inr (.inl z)
        · exact absurd z nT
    · rw [without_out hS] at f5
      refine .inr (.inr ?_)
      rw [← oth T' fun z => hS (by simp [z])]
      exact f5
  · have hS : q ∉ x :: T :: frs (env :: outer) := by simp [n1, n2, n3]
    exact k1 q o (by rw [without_out hS, oth q n3]; exact z)
  · obtain ⟨_, o', ho', hd⟩ := hl.mem hq
    rw [z] at ho'
    cases ho'
    exact k4 q o ((oth q (frT q hq)).trans z) hd
theorem leave_v {base : Heap} {env : Env} {outer : List Env} {L x T : Addr} {cls v : Value} {Q : Unit → Shared → Prop} (hfr : A.frames = some (env :: outer)) (hl : s.heap.FunFrames base (env :: outer)) (hf : env.frame = some L) (fl : FlyV s.heap x T cls v)
    (h : ∀ h' T', Fly h' x T' cls → (T' = x ∨ T' = T ∨ s.heap.get? T' = none) → (∀ b o, b ∉ frs (env :: outer) → b ≠ x → b ≠ T → s.heap.get? b = some o → h'.get? b = some o) →
      (∀ b o, b ∈ frs (env :: outer) → s.heap.get? b = some o → ∃ sl, h'.get? b = some { o with slots := sl }) → Q () { s with heap := h' }) : wpAny M A (leaving env (.ref x)) Q E s := by
  unfold leaving
  by_cases nv : (v == rawInt L) = true
  · have frT : ∀ q ∈ frs (env :: outer), q ≠ T := fun q hq z => by
      obtain ⟨oe, vs, oT, ts, a, b, c, d, e, g, i, j⟩ := fl
      obtain ⟨_, o, ho, hd⟩ := hl.mem hq
      rw [z, g] at ho
      cases ho
      exact hd _ i
    refine wpAny_bind ?_
    have fl2 := fl
    obtain ⟨oe, vs, oT, ts, a, b, c, d, e, g, i, j⟩ := fl
    unfold noteFrame
    simp only [hf]
    refine wpAny_bind (wpAny_field a c d ?_)
    rw [if_pos (by simp)]
    refine wpAny_bind (wpAny_field g i j ?_)
    rw [if_pos nv]
    refine wpAny_pure (mark_set fl2 fun h' f' oth ex => h h' T f' (.inr (.inl rfl)) (fun q o _ _ n3 z => (oth q n3).trans z) fun q o hq z => ⟨o.slots, (oth q (frT q hq)).trans z⟩)
  · refine wpAny_bind (note_v hfr hl hf fl nv fun h1 T1 f1 n1 w1 k1 s1 => ?_)
    have frT : ∀ q ∈ frs (env :: outer), q ≠ T1 := fun q hq z => n1 (z ▸ hq)
    refine mark_set (s := { s with heap := h1 }) f1 fun h' f' oth ex => h h' T1 f' w1 (fun q o z1 z2 z3 z4 => ?_) fun q o hq z => ?_
    · by_cases hq : q = T1
      · rcases w1 with z | z | z
        · exact absurd (hq.trans z) z2
        · exact absurd (hq.trans z) z3
        · rw [hq, z] at z4; cases z4
      · exact (oth q hq).trans (k1 q o z1 z2 z3 z4)
    · obtain ⟨sl, z'⟩ := s1 q o hq z
      exact ⟨sl, (oth q (frT q hq)).trans z'⟩
end
end L2

namespace L2
open PySem PySem.Spec PyProof.Rows
noncomputable def XPY (Y : Cx) (E : XK) : Value → Shared → Prop := fun e s' => ∃ pins σ1 H1 s1, Inv Y pins σ1 H1 s1 ∧ CX1 Y.prog Y.w Y.stack H1 s1 E e s'
noncomputable abbrev cxE (X : Cx) (scope : Scope) (cl : List (Str × Addr)) (N : List Str) (fp : List Addr) (s : Shared) (H : Hp) (E : XK) : Cx := (cxC X scope cl N fp s H).wish (XPY (cxC X scope cl N fp s H) E)
theorem passY {Y : Cx} {E : XK} : Passes (CX1 Y.prog Y.w) (Y.wish (XPY Y E)) E := fun pins σ H s e s' I h => ⟨pins, σ, H, s, I.unwish, h⟩
section
variable {P : Program} {w : World} {K : PySem.W.Frag} {mg : Str → Option Value} {base : Heap} {N0 : List Str} {qual : Str} {sc : Scope} {f : Addr} {cd : Value} {A : Around} {outer : List Env} {s₀ : Shared} {H₀ : Hp} {E1 : XK} {scope : Scope} {cl : List (Str × Addr)} {N : List Str}
theorem bad_comp {X : Cx} {pins : List (Addr × Obj)} {σ : St} {H2 : Hp} {s2 : Shared} {fp : List Addr} {Hd : Heap} {D : Addr} {Q : VK} {e : Value} {s' : Shared} (hX : X = cxOf (CX1 P w) P w K mg base N0 qual sc f cd A outer s₀ H₀ E1)
    (I : Inv X pins σ H2 s2) (kD : ∀ b o, s2.heap.get? b = some o → Hd.get? b = some o) (szD : s2.heap.objs.size ≤ Hd.objs.size) (hD : H2 D = none) (lD : s2.heap.objs.size ≤ D) (f2 : ∀ b ∈ fp, FpOk X pins H2 b)
    (h : XPY (cxC X scope cl N fp { s2 with heap := Hd } (upd H2 D (.lst []))) E1 e s') :
    notedBy (model X.prog X.w) X.A (compEnvC scope cl Hd.objs.size X.env) (fun x s'' => compPost (model X.prog X.w) X.A X.xe none (EP X pins σ Q) (.ref D) Hd.objs.size (.error x) s'') e s' := by
  obtain ⟨pins1, σ1, H1, s1, J, x, T, cls, H', he, os, bare, un, hok, gx, gT, hx, hT, fl, q⟩ := h
  subst he
  have u1 : Un (frs X.stack) fp (upd H2 D (.lst [])) H1 Hd s1.heap := J.base
  have o1 : s1.os = s2.os := J.os
  have un1 : Un (frs X.stack) fp H1 H' s1.heap s'.heap := Un.mono un (fun _ z => z) fun b z => nomatch z
  have uA : Un (frs X.stack) fp H2 H' s2.heap s'.heap := (Un.laid kD lD hD).trans (u1.trans un1)
  have hokX : HOk X.prog X.w H' s'.heap := hok
  have IX : Inv X pins σ H' s' := I.call' (ch := fp) (os.trans o1) uA hokX bare fun b hb => by
    obtain ⟨_, q1, q2, q3, q4, q5⟩ := f2 b hb
    exact ⟨q3, q1, q4, q5⟩
  have JY : Inv (cxC X scope cl N fp { s2 with heap := Hd } (upd H2 D (.lst []))) pins1 σ1 H' s' := J.call' (ch := []) os un hok bare fun b hb => nomatch hb
  have hex : X.ex = [] := by rw [hX]; rfl
  have hst : X.stack = X.env :: outer := by rw [hX]; rfl
  have hfr : X.env.frame = some X.env.locals := by rw [hX]; rfl
  obtain ⟨m, hn, _⟩ := JY.loc
  have hn : s'.heap.Ns Hd.objs.size m := hn
  obtain ⟨m1, hn1, _⟩ := J.loc
  have hn1 : s1.heap.Ns Hd.objs.size m1 := hn1
  have Lfree : H' Hd.objs.size = none := JY.free
  have LX := I.fpOk (b := Hd.objs.size) szD Lfree
  have lt : ∀ b ∈ frs X.stack, b < s2.heap.objs.size := fun b hb => by
    obtain ⟨_, o, ho, _⟩ := I.stack.mem hb
    exact Heap.lt_size ho
  have Lfr : Hd.objs.size ∉ frs X.stack := fun z => absurd (lt _ z) (Nat.not_lt.mpr szD)
  have Lx : Hd.objs.size ≠ x := fun z => by obtain ⟨o, _, _, ho, _⟩ := hn1; rw [z, gx] at ho; cases ho
  have LT : Hd.objs.size ≠ T := fun z => by obtain ⟨o, _, _, ho, _⟩ := hn1; rw [z, gT] at ho; cases ho
  -- what was not there ahead is none of ours
  have ours : ∀ b, s2.heap.get? b = none → H' b = none → X.s₀.heap.get? b = none ∧ b ≠ X.env.locals ∧ (∀ x c, X.env.cells.lookup x = some c → c ≠ b) ∧ (∀ p ∈ X.pn ++ pins, p.1 ≠ b) ∧ H' b = none := fun b e n => by
    refine ⟨?_, fun z => ?_, fun y c ec z => ?_, fun p hp z => ?_, n⟩
    · cases c : X.s₀.heap.get? b with
      | none => rfl
      | some o =>
        obtain ⟨o', r⟩ := I.base.there b o c (by rw [hex]; simp)
        rw [e] at r
        cases r
    · obtain ⟨m, ⟨o, _, _, ho, _⟩, _⟩ := I.loc
      rw [← z, e] at ho
      cases ho
    · obtain ⟨v, o, ho, _⟩ := I.cell y c ec
      rw [z, e] at ho
      cases ho
    · have ho := (I.pin p hp).1
      rw [z, e] at ho
      cases ho
  have oursF : ∀ b, b ∈ fp → H' b = none → X.s₀.heap.get? b = none ∧ b ≠ X.env.locals ∧ (∀ x c, X.env.cells.lookup x = some c → c ≠ b) ∧ (∀ p ∈ X.pn ++ pins, p.1 ≠ b) ∧ H' b = none := fun b hb n => by
    obtain ⟨_, q1, q2, q3, q4, q5⟩ := f2 b hb
    refine ⟨?_, q1, q4, q5, n⟩
    rcases q3 with z | z
    · rw [hex] at z; cases z
    · cases c : X.s₀.heap.get? b with
      | none => rfl
      | some o => exact absurd (Heap.lt_size c) (Nat.not_lt.mpr z)
  have none1 : ∀ b, s1.heap.get? b = none → H' b = none → X.s₀.heap.get? b = none ∧ b ≠ X.env.locals ∧ (∀ x c, X.env.cells.lookup x = some c → c ≠ b) ∧ (∀ p ∈ X.pn ++ pins, p.1 ≠ b) ∧ H' b = none := fun b e n => by
    by_cases hb : b ∈ fp
    · exact oursF b hb n
    · refine ours b ?_ n
      cases c : s2.heap.get? b with
      | none => rfl
      | some o =>
        obtain ⟨o', r⟩ := u1.there b o (kD b o c) hb
        rw [e] at r
        cases r
  have none2 : ∀ b, s'.heap.get? b = none → H' b = none → X.s₀.heap.get? b = none ∧ b ≠ X.env.locals ∧ (∀ x c, X.env.cells.lookup x = some c → c ≠ b) ∧ (∀ p ∈ X.pn ++ pins, p.1 ≠ b) ∧ H' b = none := fun b e n => by
    by_cases hb : b ∈ fp
    · exact oursF b hb n
    · refine ours b ?_ n
      cases c : s2.heap.get? b with
      | none => rfl
      | some o =>
        obtain ⟨o', r⟩ := uA.there b o c hb
        rw [e] at r
        cases r
  have same : noteFrame (.ref x) (compEnvC scope cl Hd.objs.size X.env) = noteFrame (.ref x) X.env := by unfold noteFrame PySem.frameOf; rfl
  show wpAny _ _ (noteFrame (.ref x) (compEnvC scope cl Hd.objs.size X.env)) _ _ _
  rw [same]
  have frX : X.A.frames = some (X.env :: outer) := by rw [← hst]; exact IX.ok.frames
  have stX : s'.heap.FunFrames X.base (X.env :: outer) := by rw [← hst]; exact IX.stack
  refine note_v frX stX hfr fl.v (by simp [rawInt]) fun h1 T1 f1 n1 w1 k1 s1' => ?_
  rw [← hst] at n1 k1 s1'
  have LT1 : Hd.objs.size ≠ T1 := fun z => by
    rcases w1 with y | y | y
    · exact Lx (z.trans y)
    · exact LT (z.trans y)
    · obtain ⟨o, _, _, ho, _⟩ := hn; rw [z, y] at ho; cases ho
  have T1free : H' T1 = none := by
    rcases w1 with y | y | y
    · rw [y]; exact hx
    · rw [y]; exact hT
    · exact hok.gone y
  have oT1 : X.s₀.heap.get? T1 = none ∧ T1 ≠ X.env.locals ∧ (∀ x c, X.env.cells.lookup x = some c → c ≠ T1) ∧ (∀ p ∈ X.pn ++ pins, p.1 ≠ T1) ∧ H' T1 = none := by
    rcases w1 with y | y | y
    · rw [y]; exact none1 x gx hx
    · rw [y]; exact none1 T gT hT
    · exact none2 T1 y T1free
  refine ⟨m, hn.at' fun o z => k1 _ o Lfr Lx LT z, fun h2 sb cenv _ => ?_⟩
  have f2' : FlyV h2 x T1 cls (rawInt X.env.locals) := f1.keeps (fun o z => (sb.2 _ (Ne.symm Lx)).trans z) fun o z => (sb.2 _ (Ne.symm LT1)).trans z
  have f2s := f2'
  obtain ⟨oe, vs, oT, ts, a1, a2, a3, a4, a5⟩ := f2s
  unfold PySem.passOn
  refine wpAny_bind (wpAny_field a1 a3 a4 ?_)
  rw [if_neg (by simp)]
  refine wpAny_bind (mark_set (s := { s' with heap := h2 }) f2' fun h3 f3 oth ex3 => wpAny_throw ?_)
  have I3 : Inv X pins σ H' { s' with heap := h3 } := by
    refine IX.hop (S := [x, T, T1, Hd.objs.size]) (fun b hb => ?_) (fun b o n1 n2 z => ?_) (fun b o hb n2 z => ?_) (fun b _ => rfl) fun a o z => ?_
    · simp only [List.mem_cons, List.mem_nil_iff, or_false] at hb
      rcases hb with z | z | z | z
      · rw [z]; exact none1 x gx hx
      · rw [z]; exact none1 T gT hT
      · rw [z]; exact oT1
      · rw [z]
        obtain ⟨g0, g1, g2, g3, g4, g5⟩ := LX
        refine ⟨?_, g1, g4, g5, g0⟩
        rcases g3 with z | z
        · rw [hex] at z; cases z
        · cases c : X.s₀.heap.get? Hd.objs.size with
          | none => rfl
          | some o => exact absurd (Heap.lt_size c) (Nat.not_lt.mpr z)
    · simp only [List.mem_cons, List.mem_nil_iff, or_false, not_or] at n2
      exact (oth b n2.2.2.1).trans ((sb.2 b n2.2.2.2).trans (k1 b o n1 n2.1 n2.2.1 z))
    · simp only [List.mem_cons, List.mem_nil_iff, or_false, not_or] at n2
      obtain ⟨sl, z'⟩ := s1' b o hb z
      exact ⟨sl, (oth b n2.2.2.1).trans ((sb.2 b n2.2.2.2).trans z')⟩
    · refine (hokX a o z).stay (fun b u hb r => ?_) (fun _ y => y) fun _ _ y => y
      have tr : H' b ≠ none := by
        rcases hb with y | y
        · rw [y, z]; exact fun y => nomatch y
        · rw [y]; exact fun y => nomatch y
      have b1 : b ≠ T1 := fun y => tr (by rw [y]; exact T1free)
      have b2 : b ≠ Hd.objs.size := fun y => tr (by rw [y]; exact Lfree)
      exact (oth b b1).trans ((sb.2 b b2).trans (k1 b u (fun y => tr (IX.stkFree b y)) (fun y => tr (by rw [y]; exact hx)) (fun y => tr (by rw [y]; exact hT)) r))
  subst hX
  show wpAny _ _ (leaving _ (.ref x)) _ _ _
  refine leave_v I3.ok.frames I3.stack rfl f3 fun h4 T4 f4 w4 k4 s4 => ?_
  exact left_cx I3 (none1 x gx hx).1 oT1.1 hx T1free q f4 w4 k4 s4
end
section
variable {P : Program} {w : World} {K : PySem.W.Frag} {mg : Str → Option Value} {base : Heap} {N0 : List Str} {qual : Str} {sc : Scope} {f : Addr} {cd : Value} {A : Around} {outer : List Env} {s₀ : Shared} {H₀ : Hp}
variable {X : Cx} {elt tg iter : Expr} {ifs : List Expr} {scope : Scope} {cpos : Pos} {N : List Str} {k : Nat} {js : List Nat} {cl : List (Str × Addr)} {g : TG} {tt : TT} {te : TE}
theorem comp_runX {pins : List (Addr × Obj)} {σ : St} {H2 : Hp} {s2 : Shared} {E : Value → Shared → Prop} {it : Addr} {fp : List Addr} {tn : Nat → Heap → Prop} {J : It} {Q : VK} {E1 : XK} (hX : X = cxOf (CX1 P w) P w K mg base N0 qual sc f cd A outer s₀ H₀ E1)
    (hc : X.calm = true) (C : CompOk X.env.scope X.N scope N k js) (hcl1 : ∀ x c, cl.lookup x = some c → X.env.cells.lookup x = some c) (hcl2 : ∀ p ∈ scope.names, p.2 = .free → ∃ c, cl.lookup p.1 = some c)
    (hg : ∀ fp s H, PG (cxE X scope cl N fp s H E1) tg g) (ht : ∀ fp s H, PTs (cxE X scope cl N fp s H E1) ifs tt) (he : ∀ fp s H, PE (cxE X scope cl N fp s H E1) elt te)
    (I : Inv X pins σ H2 s2) (T : Turn X.prog X.w X.K tg J fp it tn) (st : tn 0 s2.heap) (f2 : ∀ b ∈ fp, FpOk X pins H2 b) (rd : rdC k js g tt te J σ H2 Q) :
    wpAny (model X.prog X.w) X.A (newList []) (fun acc s₃ => wpAny (model X.prog X.w) X.A (newFunctionEnv scope X.env.globals cl [] X.env.qual none .none (some X.env)) (fun cenv s₄ =>
      codeAny (model X.prog X.w) X.A (.compStart (.ListComp elt [⟨tg, iter, ifs, 0⟩] scope cpos) 0 (.ref it) acc { cenv with scope := relabel scope X.env }) (compPost (model X.prog X.w) X.A X.xe none (EP X pins σ Q) acc cenv.locals) s₄) E s₃) E s2 := by
  have fin : ∀ D L H' s', Inv X pins σ H' s' → FpOk X pins H' L → (∃ m, s'.heap.Ns L m) → Q (.ref D) H' → compPost (model X.prog X.w) X.A X.xe none (EP X pins σ Q) (.ref D) L (.ok .next) s' := by
    intro D L H' s' I' ⟨f0, f1, _, f3, f4, f5⟩ ⟨m, hn⟩ q
    refine ⟨m, hn, fun h' sb => ⟨.ref D, H', ?_, rfl, q⟩⟩
    exact I'.turned (t' := s'.toks) (fun b o hb e => (sb.2 b hb).trans e) f0 f1 f3 f4 f5
  refine wpAny_newObj_type (wpAny_newFunctionEnv C.cell (by intro y hy; simp at hy) (fun h₁ hns₁ hsb₁ => ?_) C.kind)
  dsimp only at hns₁ hsb₁ ⊢
  have hD : H2 s2.heap.objs.size = none := I.hok.fresh (Nat.le_refl _)
  have Id : Inv X pins σ (upd H2 s2.heap.objs.size (.lst [])) { s2 with heap := s2.heap.push { cls := .type "list", dict := none, data := .seq ([] : List Value).toArray } } :=
    I.laid (t' := s2.toks) (fun b u e => Heap.get?_push_of_some _ e) (Nat.le_refl _) ⟨Nat.zero_le _, [], 0, .nil, Heap.get?_push_size _ rfl⟩
  have kD : ∀ b o, s2.heap.get? b = some o → (s2.heap.push { cls := .type "list", dict := none, data := .seq ([] : List Value).toArray }).get? b = some o := fun b o e => Heap.get?_push_of_some _ e
  generalize hHd : s2.heap.push { cls := .type "list", dict := none, data := .seq ([] : List Value).toArray } = Hd at hns₁ hsb₁ Id kD ⊢
  have szd : Hd.objs.size = s2.heap.objs.size + 1 := by rw [← hHd, Heap.size_push]
  have keep : ∀ b o, Hd.get? b = some o → h₁.get? b = some o := fun b o e => hsb₁.extBut b o (Nat.ne_of_lt (Heap.lt_size e)) (Heap.get?_push_of_some _ e)
  have flt2 : ∀ b ∈ fp, b < s2.heap.objs.size := fun b hb => by
    obtain ⟨o, e, _⟩ := T.obj _ _ st b hb
    exact Heap.lt_size e
  have fd : ∀ b ∈ fp, FpOk X pins (upd H2 s2.heap.objs.size (.lst [])) b := fun b hb =>
    ⟨by rw [upd_ne (Nat.ne_of_lt (flt2 b hb))]; exact (f2 b hb).1, (f2 b hb).2⟩
  obtain ⟨W, ⟨m0, w0⟩, turn⟩ := rd _ hD
  generalize hY : cxE X scope cl N fp { s2 with heap := Hd } (upd H2 s2.heap.objs.size (.lst [])) E1 = Y
  have hg := hg fp { s2 with heap := Hd } (upd H2 s2.heap.objs.size (.lst []))
  have ht := ht fp { s2 with heap := Hd } (upd H2 s2.heap.objs.size (.lst []))
  have he := he fp { s2 with heap := Hd } (upd H2 s2.heap.objs.size (.lst []))
  have loop : ∀ s₃ : Shared, s₃ = { s2 with heap := h₁, toks := s2.toks + ([] : List (Str × Value)).length } →
      codeAny (model X.prog X.w) X.A (.compLoop (.ListComp elt [⟨tg, iter, ifs, 0⟩] scope cpos) 0 (.ref it) (.ref s2.heap.objs.size) (compEnvC scope cl Hd.objs.size X.env))
        (compPost (model X.prog X.w) X.A X.xe none (EP X pins σ Q) (.ref s2.heap.objs.size) Hd.objs.size) s₃ := by
    rintro s₃ rfl
    have IY : Inv Y [] (stC k js σ) (upd H2 s2.heap.objs.size (.lst [])) { s2 with heap := h₁, toks := s2.toks + ([] : List (Str × Value)).length } := by
      rw [← hY]
      refine Inv.wish ?_ _
      exact inv_block (t' := s2.toks + ([] : List (Str × Value)).length) C hcl1 hcl2 Id fd (fun b hb => Nat.lt_of_lt_of_le (flt2 b hb) (by show s2.heap.objs.size ≤ Hd.objs.size; omega)) hns₁ keep
    rw [hY] at hg ht he
    have yprog : Y.prog = X.prog := by rw [← hY]; rfl
    have yw : Y.w = X.w := by rw [← hY]; rfl
    have yK : Y.K = X.K := by rw [← hY]; rfl
    have yA : Y.A = X.A := by rw [← hY]; rfl
    have yc : Y.calm = true := by rw [← hY]; exact hc
    have yenv : Y.env = compEnvC scope cl Hd.objs.size X.env := by rw [← hY]; rfl
    have yxe : Y.xe = XPY (cxC X scope cl N fp { s2 with heap := Hd } (upd H2 s2.heap.objs.size (.lst []))) E1 := by rw [← hY]
    have ybase : ∀ {pn σ' H' s'}, Inv Y pn σ' H' s' → Un (frs X.stack) fp (upd H2 s2.heap.objs.size (.lst [])) H' Hd s'.heap ∧ s'.os = s2.os := fun {pn σ' H' s'} J => by
      have u := J.base
      have o := J.os
      rw [← hY] at u o
      exact ⟨u, o⟩
    have statY : ∀ {H' : Hp}, (∀ b ∈ fp, H' b = none) → ∀ b ∈ fp, FpOk Y [] H' b := fun {H'} hn b hb => by
      rw [← hY]
      refine ⟨hn b hb, Nat.ne_of_lt (Nat.lt_of_lt_of_le (flt2 b hb) (by show s2.heap.objs.size ≤ Hd.objs.size; omega)), ?_, .inl hb, fun x c e => (f2 b hb).2.2.2.2.1 x c (hcl1 x c e), fun p hp => absurd (show p ∈ ([] : List (Addr × Obj)) from hp) (by simp)⟩
      intro z
      rcases List.mem_cons.mp (I.stkSub b z) with q | q
      · exact (f2 b hb).2.1 q
      · exact (f2 b hb).2.2.1 q
    have st₁ : tn 0 h₁ := T.keep _ _ _ st fun b hb o e => keep b o (kD b o e)
    refine codeAny_loop rfl (fun n s' => ∃ i ys H', Inv Y [] (stC k js σ) H' s' ∧ tn i s'.heap ∧ (∀ b ∈ fp, H' b = none) ∧ W i n ys H') ?_ m0 ⟨0, [], _, IY, st₁, fun b hb => (fd b hb).1, w0⟩
    rintro n s3 ⟨i, ys, H3, I3, st3, fr3, w3⟩
    show wpAny _ X.A ((compTurn (.ListComp elt [⟨tg, iter, ifs, 0⟩] scope cpos) 0 (.ref it) (.ref s2.heap.objs.size) (compEnvC scope cl Hd.objs.size X.env)).onRaise (fun x => do noteFrame x (compEnvC scope cl Hd.objs.size X.env); theTreesLotGoes x)) _ _ s3
    refine wpAny_noted ?_
    rw [compTurn_list]
    obtain ⟨hDs, tr⟩ := turn i n ys H3 w3
    have hPE : ∀ {α : Type} {t : Sem α} {R R' : α → Shared → Prop} {s : Shared}, wpAny (model Y.prog Y.w) Y.A t R Y.xe s → (∀ a s, R a s → R' a s) →
        wpAny (model X.prog X.w) X.A t R' (notedBy (model X.prog X.w) X.A (compEnvC scope cl Hd.objs.size X.env) fun x s'' => compPost (model X.prog X.w) X.A X.xe none (EP X pins σ Q) (.ref s2.heap.objs.size) Hd.objs.size (.error x) s'') s := fun {α t R R' s} h hQ => by
      rw [yprog, yw, yA, yxe] at h
      exact wpAny_mono h hQ fun e s' z => bad_comp hX I kD (by omega) hD (Nat.le_refl _) f2 z
    rcases tr with ⟨stop, qn⟩ | ⟨go, step⟩
    · refine wpAny_bind (wpAny_standAt (wpAny_bind ?_))
      have dn := T.done Y yprog yw yK yc i [] s3 (stC k js σ) H3 (fun _ _ => False) I3 (statY fr3) st3 stop
      rw [yA] at dn
      refine wpAny_mono dn (fun r s4 ⟨hr, I4⟩ => ?_) fun _ _ z => z.elim
      subst hr
      obtain ⟨u4, o4⟩ := ybase I4
      refine wpAny_pure (fin _ _ H3 s4 ?_ ?_ ?_ qn)
      · refine I.call' (ch := fp) o4 ((Un.laid (fun b o e => kD b o e) (Nat.le_refl _) hD).trans u4) (by have := I4.hok; rw [yprog, yw] at this; exact this) I4.bare fun b hb => ?_
        obtain ⟨_, q1, q2, q3, q4, q5⟩ := f2 b hb
        exact ⟨q3, q1, q4, q5⟩
      · refine I.fpOk (by show s2.heap.objs.size ≤ Hd.objs.size; omega) ?_
        have := I4.free
        rw [yenv] at this
        exact this
      · obtain ⟨m, hn, _⟩ := I4.loc
        rw [yenv] at hn
        exact ⟨m, hn⟩
    · refine wpAny_bind (wpAny_standAt (wpAny_bind ?_))
      have itm := T.item Y yprog yw yK yc i [] s3 (stC k js σ) H3 (fun _ _ => False) I3 (statY fr3) st3 go
      rw [yA] at itm
      refine wpAny_mono itm (fun r s4 ⟨u, hr, h4⟩ => ?_) fun _ _ z => z.elim
      subst hr
      refine wpAny_bind (wpAny_mono h4 (fun _ s5 ⟨x, H5, I5, r5, y5, st5, fr5⟩ => ?_) fun _ _ z => z.elim)
      have I5' := I5.pinned (statY fr5) (T.obj _ _ st5)
      have as := hg _ s5 (stC k js σ) H5 x u _ I5' r5 (step x H5 y5)
      rw [yenv] at as
      refine wpAny_bind (hPE as fun _ s6 ⟨σ6, H6, I6, ⟨ow, eow, e6⟩, q6⟩ => ?_)
      have again : ∀ {H7 : Hp} {s7 : Shared} {zs : List V}, Inv Y ([] ++ pinsAt fp s5.heap) σ6 H7 s7 → (∃ m', m' < n ∧ W (i + 1) m' zs H7) →
          ∃ m, m < n ∧ ∃ i ys H', Inv Y [] (stC k js σ) H' s7 ∧ tn i s7.heap ∧ (∀ b ∈ fp, H' b = none) ∧ W i m ys H' := fun {H7 s7 zs} I7 ⟨m', hm, w7⟩ => by
        have J7 : Inv Y ([] ++ pinsAt fp s5.heap) (stC k js σ) H7 s7 := by
          refine I7.weak ?_ fun j v e => ?_
          · rw [e6]
            show (List.replicate k none ++ frees js σ).length = _
            rw [List.length_append, List.length_append, List.length_replicate, eow]
          · have e : (List.replicate k (none : Option V) ++ frees js σ)[j]? = some (some v) := e
            rw [e6]
            by_cases hj : j < k
            · rw [List.getElem?_append_left (by rw [List.length_replicate]; exact hj), List.getElem?_replicate] at e
              split at e <;> cases e
            · rw [List.getElem?_append_right (by rw [List.length_replicate]; omega), List.length_replicate] at e
              rw [List.getElem?_append_right (by omega), eow]
              exact e
        refine ⟨m', hm, i + 1, zs, H7, J7.unpinned, T.keep _ _ _ st5 fun b hb o e => (I7.pin (b, o) (List.mem_append_right _ (List.mem_append_right _ (mem_pinsAt hb e)))).1, fun b hb => ?_, w7⟩
        obtain ⟨o, e, d⟩ := T.obj _ _ st5 b hb
        exact (I7.pin (b, o) (List.mem_append_right _ (List.mem_append_right _ (mem_pinsAt hb e)))).2.1
      have tst := ht _ s6 σ6 H6 _ I6 q6
      rw [yenv] at tst
      refine wpAny_bind (hPE tst fun b s7 ⟨H7, I7, q7⟩ => ?_)
      cases b with
      | false => exact wpAny_pure ⟨rfl, again I7 q7⟩
      | true =>
        have ev := he _ s7 σ6 H7 _ I7 q7
        rw [yenv] at ev
        refine wpAny_bind (wpAny_bind (hPE ev fun v s8 ⟨y, H8, I8, r8, q8, z8, w8⟩ => ?_))
        refine wpAny_bind (hPE (mt_append (X := Y) _ s8 σ6 H8 (.ref s2.heap.objs.size) [y] (.ref s2.heap.objs.size) [v] (fun _ H9 => H9 = upd H8 s2.heap.objs.size (.lst (ys ++ [y]))) I8 rfl (.cons r8 .nil) ⟨_, ys, y, rfl, rfl, q8, z8, rfl⟩) fun _ s9 ⟨_, H9, I9, _, e9⟩ => ?_)
        subst e9
        exact wpAny_pure (wpAny_pure ⟨rfl, again I9 w8⟩)
  exact codeAny_compStart_list (loop _ rfl) (T.self _ 0 _ _ _ (T.keep _ _ _ st fun b hb o e => keep b o (kD b o e)) (loop _ rfl))

theorem pe_compX {E1 : XK} {wi : TI} {sc1 : Scope} {N1 : List Str} (C : CompOk sc1 N1 scope N k js) (hi : PI (cxOf (CX1 P w) P w K mg base N0 qual sc f cd A outer s₀ H₀ E1) tg iter wi)
    (hg : ∀ cl fp s H, PG (cxE (cxOf (CX1 P w) P w K mg base N0 qual sc f cd A outer s₀ H₀ E1) scope cl N fp s H E1) tg g) (ht : ∀ cl fp s H, PTs (cxE (cxOf (CX1 P w) P w K mg base N0 qual sc f cd A outer s₀ H₀ E1) scope cl N fp s H E1) ifs tt)
    (he : ∀ cl fp s H, PE (cxE (cxOf (CX1 P w) P w K mg base N0 qual sc f cd A outer s₀ H₀ E1) scope cl N fp s H E1) elt te) (hs : ∀ x, foldedSetIterable iter (cxOf (CX1 P w) P w K mg base N0 qual sc f cd A outer s₀ H₀ E1).env x = pure x := by intro _; rfl)
    (hsc : (cxOf (CX1 P w) P w K mg base N0 qual sc f cd A outer s₀ H₀ E1).env.scope = sc1 := by rfl) (hN0 : N0 = N1 := by rfl) : PE (cxOf (CX1 P w) P w K mg base N0 qual sc f cd A outer s₀ H₀ E1) (.ListComp elt [⟨tg, iter, ifs, 0⟩] scope cpos) (tComp k js wi g tt te) := by
  subst hsc hN0
  intro pins s σ H Q I h
  obtain ⟨cl, e, h1, h2⟩ := closure_of (hcl_of I C)
  rw [eval_ListComp]
  refine wpAny_comprehension_free (use := none) rfl hs e C.kind C.names (thn (hi pins s σ H _ I h) fun v s1 q => thn q fun itv s2 q2 => ?_)
  obtain ⟨it, fp, tn, J, H2, rfl, I2, T, st, f2, rd⟩ := q2
  exact comp_runX rfl rfl C h1 h2 (hg cl) (ht cl) (he cl) I2 T st f2 rd
end
section
variable {Y : Cx} {E : XK} {P : Program} {w : World} {K : PySem.W.Frag} {mg : Str → Option Value} {base : Heap} {j k : Nat} {ps : List Str} {sp : Sp} {x : Str} {p pos : Pos} {e : Expr} {es : List Expr} {t : TA}
theorem pe_callXC (D : Dx P w K mg base x j ps sp) (hr : Room k Y.A) (ha : PA (Y.wish (XPY Y E)) (e :: es) t) (hjk : j ≤ k := by first | decide | omega) (hg : Gl Y x := by rfl)
    (h1 : Y.prog = P := by rfl) (h2 : Y.w = w := by rfl) (h3 : Y.K = K := by rfl) (h4 : Y.mg = mg := by rfl) (h5 : Y.base = base := by rfl)
    (hdb : (x == ("__debug__" : Str)) = false := by decide) (he : starEach (e :: es) Y.env = (false, eval e Y.env) :: starEach es Y.env := by rfl) (hpl : (backTo pos (starEach es Y.env)).any (·.1) = false := by rfl) :
    PE (Y.wish (XPY Y E)) (.Call (.Name x p) (e :: es) [] pos) (tCall sp [] E t) := by
  subst h1 h2 h3 h4 h5
  obtain ⟨f, fd, F, a, b, c⟩ := D.ex
  exact pe_call (X := Y.wish (XPY Y E)) (F.mono hjk) hr hg a b c .nil passY ha hdb he hpl
end
end L2

namespace L2
open PySem PySem.Spec PyProof.Rows
section
variable {M : Model} {A : Around} {E : Value → Shared → Prop}
theorem exc_class {s : Shared} {C0 : Addr} {bm0 : List Value} {Q : Bool → Shared → Prop} (y : ExcAt s.heap C0 bm0) (hq : Q true s) : wpAny M A (isExcClass (.ref C0)) Q E s := by
  obtain ⟨b2, nm', q', N', bs', hd', sn', su', ab', cl', dd', k0', k1', k2', k3', k5', nid', hD⟩ := y
  obtain ⟨h, g, d, t, os⟩ := s
  have hcB : (Value.ref C0 :: bm0).contains (.type "BaseException") = true := by rw [List.contains_cons, b2, Bool.or_true]
  unfold isExcClass
  repeat (first | with_reducible refine wpAny_loadPart_at hD ?_ | (with_reducible refine wpAny_isSubtype_exc hD ?_; rw [hcB]) | wp_step)
  exact hq
theorem exc_sub {s : Shared} {C : Addr} {bm : List Value} {v : Value} {Q : Bool → Shared → Prop} (x : ExcAt s.heap C bm) (hq : Q ((Value.ref C :: bm).contains v) s) : wpAny M A (isSubtype (.ref C) v) Q E s := by
  obtain ⟨b1, nm, q, N, bs, hd, sn, su, ab, cl, dd, k0, k1, k2, k3, k5, nid, hC⟩ := x
  obtain ⟨h, g, d, t, os⟩ := s
  exact wpAny_isSubtype_exc hC hq
theorem loop_yes {β : Type} {b : β} {f : Value → β → Sem (ForInStep β)} {s : Shared} {R : β → Shared → Prop} : ∀ {vs : List Value}, (∀ c ∈ vs, ∀ R : ForInStep β → Shared → Prop, R (.yield b) s → wpAny M A (f c b) R E s) → R b s → wpAny M A (forIn vs b f) R E s := by
  intro vs
  induction vs with
  | nil => intro _ h; rw [List.forIn_nil]; exact wpAny_pure h
  | cons c vs ih =>
    intro h hR
    rw [List.forIn_cons]
    exact wpAny_bind (h c List.mem_cons_self _ (ih (fun d hd => h d (List.mem_cons_of_mem _ hd)) hR))
theorem matches_none {s : Shared} {e p C : Addr} {bm : List Value} {cs : List Addr} {oe : Obj} {Q : Bool → Shared → Prop} (x : ExcAt s.heap C bm) (ys : ∀ D ∈ cs, ∃ bm', ExcAt s.heap D bm') (ht : IsTup s.heap p (cs.map Value.ref).toArray) (he : s.heap.get? e = some oe) (hc : oe.cls = .ref C)
    (no : ∀ D ∈ cs, (Value.ref C :: bm).contains (.ref D) = false) (hq : Q false s) : wpAny M A (excMatches (.ref e) (.ref p)) Q E s := by
  obtain ⟨o, ho, hcl, n, hd⟩ := ht
  unfold excMatches
  refine wpAny_bind (wpAny_isInstance ⟨o, ho, hcl⟩ isSubtype_tuple_tuple ?_)
  dsimp only
  rw [if_pos rfl]
  refine wpAny_bind (wpAny_seqItems ho hd ?_)
  dsimp only [Option.getD_some, Option.getD]
  refine wpAny_bind (wpAny_pure ?_)
  refine wpAny_bind (loop_yes (fun c hc R hR => ?_) ?_)
  · obtain ⟨D, hD, rfl⟩ := List.mem_map.mp hc
    obtain ⟨bm', y⟩ := ys D hD
    refine wpAny_bind (exc_class y ?_)
    rw [if_neg (by decide)]
    exact wpAny_pure hR
  refine wpAny_bind (wpAny_typeOf_ref he ?_)
  rw [hc]
  refine wpAny_bind (loop_yes (fun c hc R hR => ?_) ?_)
  · obtain ⟨D, hD, rfl⟩ := List.mem_map.mp hc
    refine wpAny_bind (exc_sub x ?_)
    rw [no D hD, if_neg (by decide)]
    exact wpAny_pure hR
  exact wpAny_pure hq
end
section
variable {X : Cx} {pins : List (Addr × Obj)} {σ : St} {H : Hp} {s : Shared}
noncomputable def xRow2 (base : Heap) (C0 : Addr) (i : Nat) (cs : List Addr) (ts : TS) (D : Ends) : XE := fun σ1 cls H1 => ∃ C bm, cls = .ref C ∧ ExcAt base C bm ∧ (∀ D ∈ cs, (Value.ref C :: bm).contains (.ref D) = false) ∧ (Value.ref C :: bm).contains (.ref C0) = true ∧
  ∀ x T p, H1 x = none → H1 T = none → T ≠ x → held H1 x T (.ref C) p = none → ts (D.drop i) (σ1.set i (some (.ref x))) (upd (held H1 x T (.ref C)) p (.tup (cs.map V.ref)))
noncomputable def tTry2 (base : Heap) (C0 : Addr) (i : Nat) (cs : List Addr) (tb : XE → TS) (ts : TS) : TS := fun D σ H => tb (xRow2 base C0 i cs ts D) D σ H
noncomputable def tRefs (cs : List Addr) : TE := fun _ H Q => ∀ p, H p = none → Q (.ref p) (upd H p (.tup (cs.map V.ref)))
theorem ps_try2 {outer : List Env} {body suite suite1 : List Stmt} {b0 b1 : Stmt} {tup : Expr} {cs : List Addr} {C0 : Addr} {bm0 : List Value} {cn n : Str} {np hpos hpos1 pos : Pos} {i : Nat} {tb : XE → TS} {ts : TS} (hex : X.ex = []) (hst : X.stack = X.env :: outer) (hf : X.env.frame = some X.env.locals)
    (hN : X.N.Nodup) (hi : X.N[i]? = some n) (hk : X.env.scope.names.lookup n = some .local) (hg : Gl X cn) (hm : X.mg cn = some (.ref C0)) (c2 : ExcAt X.base C0 bm0) (ys : ∀ D ∈ cs, ∃ bm', ExcAt X.base D bm') (ht : ∀ x, PE (X.row (.ref x)) tup (tRefs cs)) (hb : PXs X body tb) (hs : ∀ x, PSs (X.row (.ref x)) (b0 :: suite) ts) (hdb : (cn == ("__debug__" : Str)) = false := by decide) :
    PS X (.Try body [.ExceptHandler (some tup) none (b1 :: suite1) hpos1, .ExceptHandler (some (.Name cn np)) (some n) (b0 :: suite) hpos] [] [] pos) (tTry2 X.base C0 i cs tb ts) := by
  intro pins s σ H D I h
  rw [arm_exec_Try]
  refine wpAny_bind (wpAny_standAt (try_rows (wpAny_mono (hb pins s σ H D _ I h) (fun f s1 q => ?_) fun e s1 q => ?_)))
  · cases f with
    | next => exact wpAny_execs_nil q
    | _ => exact q
  · refine q.caught hex hst hf fun x T cls σ1 H1 h' ee hx hT ne ⟨C, bm, ec, c1, no, hit, q1⟩ J => ?_
    subst ee ec
    have JR := J.row (.ref x)
    refine wpAny_handleBy_cons (codeAny_handlers_test ?_) (by intro z; cases z)
    refine wpAny_mono (ht x pins _ σ1 _ (fun v H2 => ∃ p, v = .ref p ∧ held H1 x T (.ref C) p = none ∧ H2 = upd (held H1 x T (.ref C)) p (.tup (cs.map V.ref))) JR fun p hp => ⟨p, rfl, hp, rfl⟩) (fun v s2 ⟨y, H2, I2, r2, p, ey, hp, e2⟩ => ?_) fun _ _ z => False.elim z
    subst ey e2
    cases r2
    have ex : upd (held H1 x T (.ref C)) p (.tup (cs.map V.ref)) x = some (.ext (IsExc x T (.ref C))) := by
      have e0 : held H1 x T (.ref C) x = some (.ext (IsExc x T (.ref C))) := upd_same
      rw [upd_ne (ne_of_none e0 hp)]; exact e0
    have eT : upd (held H1 x T (.ref C)) p (.tup (cs.map V.ref)) T = some (.ext (IsEnt T)) := by
      have e0 : held H1 x T (.ref C) T = some (.ext (IsEnt T)) := (upd_ne ne).trans (upd_same ..)
      rw [upd_ne (ne_of_none e0 hp)]; exact e0
    obtain ⟨⟨oe, vs, f1, f2, f3, f4⟩, _⟩ := I2.hok x _ ex
    obtain ⟨_, its, rv, tx⟩ := I2.hok p _ (upd_same (H := held H1 x T (.ref C)) (a := p) (o := .tup (cs.map V.ref)))
    have ei : its = cs.map Value.ref := by
      have : ∀ (l : List Addr) (us : List Value), Vals (l.map V.ref) us → us = l.map Value.ref := by
        intro l
        induction l with
        | nil => intro us z; cases z; rfl
        | cons a l ih =>
          intro us z
          cases z with
          | cons r t => cases r; rw [ih _ t]; rfl
      exact this cs its rv
    rw [ei] at tx
    refine matches_none (c1.keeps I2.bk) (fun D hD => let ⟨b, y⟩ := ys D hD; ⟨b, y.keeps I2.bk⟩) tx.tup f1 f2 no ?_
    exact row_as (I2.unrow J.ok) ex eT hN hi hk hg hm c1 c2 hit (hs x) (q1 x T p hx hT ne hp) hdb
end
end L2

namespace L2
open PySem PySem.Spec PyProof.Rows
theorem strs_vals (l : List (Str × Tok)) : Vals ((l.map (·.1)).map V.str) (strValues l) := by
  induction l with
  | nil => exact .nil
  | cons p r ih => exact .cons ⟨p.2, rfl⟩ ih
theorem vals_strs {ws : List Str} : ∀ {its : List Value}, Vals (ws.map V.str) its → ∃ l : List (Str × Tok), its = strValues l ∧ l.map (·.1) = ws := by
  induction ws with
  | nil => intro its h; cases h; exact ⟨[], rfl, rfl⟩
  | cons x ws ih =>
    intro its h
    cases h with
    | cons r t =>
      obtain ⟨tk, rfl⟩ := r
      obtain ⟨l, rfl, e⟩ := ih t
      exact ⟨(x, tk) :: l, rfl, by rw [List.map_cons, e]⟩
section
variable {X : Cx}
noncomputable def rJoin : V → List V → Hp → VK → Prop := fun x vs H Q => ∃ (sep : Str) (l : Addr) (ws : List Str), x = .str sep ∧ vs = [.ref l] ∧ H l = some (.lst (ws.map V.str)) ∧ (ws.map (·.length)).sum + ws.length * sep.length ≤ 1000000 ∧ Q (.str (Txt.join sep ws)) H
theorem mt_join : MtM X "str.join" rJoin := by
  intro pins s σ H x vs v us Q I rx rv h
  obtain ⟨sep, l, ws, rfl, rfl, hl, hz, q⟩ := h
  obtain ⟨t, rfl⟩ := rx
  obtain ⟨u, rfl, ru⟩ := rv.one
  cases ru
  obtain ⟨z, its, n, r, hlen, e⟩ := I.lstM hl
  obtain ⟨ps, rfl, rfl⟩ := vals_strs r
  have sz : sizeLine = 16777216 := sizeLine_eq
  have ok : Builtin.Str.tooLong ((ps.map (·.1)).toArray.foldl (fun a p => a + p.length + sep.length) 0) = false := by
    unfold Builtin.Str.tooLong
    rw [StrLaws.joinTotal]
    exact decide_eq_false (by omega)
  exact call_meets F.slot_str_join (typeIs_str _ _ _) F.entry_str_join (F.args_str_join_2 _ _) (meets_str_join_list sep t l ps ok) ⟨⟨_, e, rfl, _, rfl⟩, post_join ps ⟨joinFit_length ok, fun t' k => ⟨.str _, H, I.tok _, ⟨_, rfl⟩, q⟩⟩⟩
noncomputable def rSplit : V → List V → Hp → VK → Prop := fun x vs H Q => ∃ z y : Str, x = .str z ∧ vs = [.str y] ∧ 1 ≤ y.length ∧ z.length ≤ 1000000 ∧ ∀ l, H l = none → Q (.ref l) (upd H l (.lst ((Txt.split z y).map V.str)))
theorem mt_split : MtM X "str.split" rSplit := by
  intro pins s σ H x vs v us Q I rx rv h
  obtain ⟨z, y, rfl, rfl, hy, hz, q⟩ := h
  obtain ⟨t, rfl⟩ := rx
  obtain ⟨u, rfl, ru⟩ := rv.one
  obtain ⟨u, rfl⟩ := ru
  have sz : sizeLine = 16777216 := sizeLine_eq
  have hw := split_weight z y hy
  have hy0 : (y.length == 0) = false := by rw [beq_eq_false_iff_ne]; omega
  have fin : ∀ (ps : List (Str × Tok)) (tk : Nat), ps.map (·.1) = Txt.split z y → EP X pins σ Q (.ref s.heap.objs.size) { s with toks := tk, heap := s.heap.push { cls := .type "list", data := .seq (strValues ps).toArray } } := fun ps tk e => by
    refine ⟨.ref s.heap.objs.size, _, I.lnew (t' := tk) (strs_vals ps) ?_, rfl, ?_⟩
    · rw [List.length_map, e]; omega
    · rw [e]; exact q _ I.fresh
  cases h1 : (decide (z.length < y.length) || decide (Builtin.Str.strKind z < Builtin.Str.strKind y))
  · cases hf : (Builtin.Str.occurrences z y 0 z.length (z.length + 1)).isEmpty
    · have es : Txt.split z y = Builtin.Str.partsBetween z (Builtin.Str.occurrences z y 0 z.length (z.length + 1)) y.length := (if_neg (ne_true_of_eq_false h1)).trans (if_neg (ne_true_of_eq_false hf))
      refine call_meets F.slot_str_split (typeIs_str _ _ _) F.entry_str_split (F.args_str_split_2 _ _) (meets_str_split_sep z y t u h1 hy0 hf (by omega) (by rw [← es]; omega)) ?_
      rw [strsFrom_eq]
      exact fin (numbered s.toks _) _ ((numbered_texts _ _).trans es.symm)
    · exact call_meets F.slot_str_split (typeIs_str _ _ _) F.entry_str_split (F.args_str_split_2 _ _) (meets_str_split_not_found z y t u h1 hy0 hf) (fin [(z, t)] s.toks ((if_neg (ne_true_of_eq_false h1)).trans (if_pos hf)).symm)
  · exact call_meets F.slot_str_split (typeIs_str _ _ _) F.entry_str_split (F.args_str_split_2 _ _) (meets_str_split_cannot_occur z y t u h1) (fin [(z, t)] s.toks (if_pos h1).symm)
noncomputable def rStarts : V → List V → Hp → VK → Prop := fun x vs H Q => ∃ z y : Str, x = .str z ∧ vs = [.str y] ∧ Q (.bl (Txt.startswith z y)) H
theorem mt_startswith : MtM X "str.startswith" rStarts := by
  intro pins s σ H x vs v us Q I rx rv h
  obtain ⟨z, y, rfl, rfl, q⟩ := h
  obtain ⟨t, rfl⟩ := rx
  obtain ⟨u, rfl, ru⟩ := rv.one
  obtain ⟨u, rfl⟩ := ru
  exact SC.startswith ⟨.bl _, H, I, rfl, q⟩
noncomputable def rSlS : V → Option Int → Option Int → Hp → VK → Prop := fun x lo hi H Q => ∃ z : Str, x = .str z ∧ z.length ≤ 1000000 ∧ Q (.str (Txt.slice z lo hi)) H
theorem part_val {v : Value} {o : Option Int} (h : IsPart v o) : ∃ p : Option (Int × Tok), v = partValue p ∧ p.map (·.1) = o := by
  cases h with
  | none => exact ⟨none, rfl, rfl⟩
  | int i t => exact ⟨some (i, t), rfl, rfl⟩
theorem sl_str : SlR X rSlS := by
  intro pins s σ H x v vl vu lo hi sl Q I rx hs pl pu h
  obtain ⟨z, rfl, hz, q⟩ := h
  obtain ⟨t, rfl⟩ := rx
  obtain ⟨l, rfl, rfl⟩ := part_val pl
  obtain ⟨u, rfl, rfl⟩ := part_val pu
  have sz : sizeLine = 16777216 := sizeLine_eq
  refine ⟨"str", _, F.slot_str_getitem.lookup, typeIs_str _ _ _, wpAny_getItem_str_slice (l := l) (u := u) (st := none) hs rfl ?_⟩
  exact post_val_or_str ⟨Nat.le_trans (Txt.slice_le z _ _) (by omega), fun t' k => ⟨.str _, H, I.tok _, ⟨_, rfl⟩, q⟩⟩
noncomputable def rIntT : List V → Hp → VK → Prop := fun xs H Q => ∃ (z : Str) (n : Int), xs = [.str z] ∧ PySem.intText? z = some n ∧ z.length ≤ 640 ∧ Q (.int n) H
theorem call_intT : CallR X (.type "int") rIntT := by
  intro pins s σ H xs us Q I r h
  obtain ⟨z, n, rfl, hn, hl, q⟩ := h
  obtain ⟨u, rfl, t, rfl⟩ := vals1 r
  exact PySem.W.KIN.call_text hn hl ⟨.int n, H, I.tok _, ⟨_, rfl⟩, q⟩
noncomputable def txV : V → Str
  | .int i => Str.ofString (toString i)
  | .str z => z
  | _ => Str.empty
noncomputable def rStrA : List V → Hp → VK → Prop := fun xs H Q => ∃ x, xs = [x] ∧ ((∃ i, x = .int i ∧ i.natAbs.log2 < 1920) ∨ ∃ z, x = .str z) ∧ Q (.str (txV x)) H
theorem call_strA : CallR X (.type "str") rStrA := by
  intro pins s σ H xs us Q I r h
  obtain ⟨x, rfl, (⟨i, rfl, hi⟩ | ⟨z, rfl⟩), q⟩ := h
  · exact call_str_int pins s σ H _ us Q I r ⟨i, rfl, hi, q⟩
  · obtain ⟨u, rfl, t, rfl⟩ := vals1 r
    exact P.str_of_str ⟨.str z, H, I, ⟨_, rfl⟩, q⟩
theorem bt_str : bootBuiltins "str" = some (.type "str") := by decide +kernel
end
structure Gt (mg : Str → Option Value) (x z : Str) : Prop where
  ex : ∃ t, mg x = some (.str z t)
theorem pe_gt {X : Cx} {mg : Str → Option Value} {x z : Str} {pos : Pos} (g : Gt mg x z) (hg : Gl X x := by rfl) (hm : X.mg = mg := by rfl) (hd : (x == ("__debug__" : Str)) = false := by decide) : PE X (.Name x pos) (tC (.str z)) := by
  subst hm
  obtain ⟨t, e⟩ := g.ex
  exact pe_glob hg e ⟨t, rfl⟩ hd
noncomputable def rEqS (K : PySem.W.Frag) : R2 := fun x y H Q => ∃ (a b : Addr) (ws vs : List Str), x = .ref a ∧ y = .ref b ∧ SqL K H a (ws.map V.str) ∧ SqL K H b (vs.map V.str) ∧ Q (.bl (decide (ws = vs))) H
theorem eqAll_strs {ws vs : List Str} (h : ws.length = vs.length) : eqAll (ws.map V.str) (vs.map V.str) = decide (ws = vs) := by
  unfold eqAll
  rw [List.length_map, List.length_map, h, beq_self_eq_true, Bool.true_and]
  rw [Bool.eq_iff_iff, List.all_eq_true, decide_eq_true_eq]
  constructor
  · intro z
    refine List.ext_getElem h fun i h1 h2 => ?_
    have := z i (List.mem_range.mpr h2)
    rw [List.getD_eq_getElem?_getD, List.getD_eq_getElem?_getD, List.getElem?_map, List.getElem?_map, List.getElem?_eq_getElem h1, List.getElem?_eq_getElem h2] at this
    exact eq_of_beq this
  · rintro rfl i hi
    rw [List.getD_eq_getElem?_getD, List.getElem?_map, List.getElem?_eq_getElem (List.mem_range.mp hi)]
    exact beq_self_eq_true _
theorem flat_strs (ws : List Str) : (ws.map V.str).all flatV = true := by
  rw [List.all_map]
  exact List.all_eq_true.mpr fun _ _ => rfl
theorem op_eqSK {X : Cx} {K : PySem.W.Frag} (hu : X.A.units + 64 < cLine) (hK : X.K = K := by rfl) : OpR X (compareOp .Eq) (rEqS K) := by
  subst hK
  intro pins s σ H x y v u Q I rx ry h
  obtain ⟨a, b, ws, vs, rfl, rfl, ha, hb, q⟩ := h
  by_cases hl : ws.length = vs.length
  · exact op_eqFK hu rfl pins s σ H _ _ v u Q I rx ry ⟨a, b, _, _, rfl, rfl, ha, hb, flat_strs _, flat_strs _, by rw [List.length_map, List.length_map, hl], by rw [eqAll_strs hl]; exact q⟩
  · cases rx; cases ry
    obtain ⟨its, r1, p1, _⟩ := I.list ha
    obtain ⟨its2, r2, p2, _⟩ := I.list hb
    have l1 := r1.length
    have l2 := r2.length
    rw [List.length_map] at l1 l2
    rw [decide_eq_false fun z => hl (by rw [z])] at q
    refine SeqAt.RcAt.lists_lengths p1.isList p2.isList ?_ (by omega) _ _ _ _ ⟨.bl false, H, I, rfl, q⟩
    rw [bne_iff_ne, List.size_toArray, List.size_toArray]
    omega
end L2

namespace L2
open PySem PySem.Spec PyProof.Rows
noncomputable def Its (z : Str) : It := ⟨fun i _ => i < z.cps.size, fun i H x H' => H' = H ∧ ∃ c, z.cps[i]? = some c ∧ x = .str ⟨#[c]⟩, fun i _ => z.cps.size ≤ i⟩
theorem turn_str {P : Program} {w : World} {K : PySem.W.Frag} {tg : Expr} (it : Addr) (z : Str) (t : Tok) (T : String) (hT : T = "str_ascii_iterator" ∨ T = "str_iterator") : Turn P w K tg (Its z) [it] it (fun i h => h.IsStrIter it T z t i) where
  mem := by simp
  obj := fun i h st b hb => by
    have e : b = it := by simpa using hb
    subst e
    obtain ⟨o, e, c, d⟩ := st
    exact ⟨o, e, fun v z => by rw [d] at z; cases z⟩
  keep := fun i h h' st k => let ⟨o, ho, r⟩ := st; ⟨o, k it (by simp) o ho, r⟩
  item := by
    intro X hP hw hK hc i pins s σ H E I hf st hg
    subst hP hw hK
    obtain ⟨f0, f1, f2, f3, f4, f5⟩ := hf it (by simp)
    have ec : z.cps[i]? = some z.cps[i] := Array.getElem?_eq_getElem hg
    have fin : ∀ h', h'.IsStrIter it T z t (i + 1) → Heap.SameBut it s.heap h' → ∃ u, some (Value.str ⟨#[z.cps[i]]⟩ s.toks) = some u ∧
        wpAny (model X.prog X.w) X.A (letOwnedTupleGo tg (.ref it) u) (fun _ s2 => ∃ x H', Inv X pins σ H' s2 ∧ RelV x u ∧ (Its z).yld i H x H' ∧ s2.heap.IsStrIter it T z t (i + 1) ∧ ∀ b ∈ [it], H' b = none) E { s with heap := h', toks := s.toks + 1 } := fun h' st' sb => by
      have I1 : Inv X pins σ H { s with heap := h', toks := s.toks + 1 } := I.turned (fun b o hb e => (sb.2 b hb).trans e) f0 f1 f3 f4 f5
      obtain ⟨o, e, c, d⟩ := id st'
      refine ⟨_, rfl, go_of (s := { s with heap := h', toks := s.toks + 1 }) (n := T) e c d ?_ ⟨.str ⟨#[z.cps[i]]⟩, H, I1, ⟨_, rfl⟩, ⟨rfl, _, ec, rfl⟩, st', fun b hb => (hf b hb).1⟩⟩
      rcases hT with e | e <;> subst e <;> decide
    rcases hT with e | e
    · subst e
      exact wpAny_pyNext_ascii_item st ec fin
    · subst e
      exact wpAny_pyNext_wide_item st ec fin
  done := by
    intro X hP hw hK hc i pins s σ H E I hf st hg
    subst hP hw hK
    obtain ⟨f0, f1, f2, f3, f4, f5⟩ := hf it (by simp)
    have ec : z.cps[i]? = none := Array.getElem?_eq_none hg
    have fin : ∀ h', Heap.ExtBut it s.heap h' → (none : Option Value) = none ∧ Inv X pins σ H { s with heap := h' } := fun h' eb => ⟨rfl, I.turned (t' := s.toks) (fun b o hb e => eb b o hb e) f0 f1 f3 f4 f5⟩
    rcases hT with e | e
    · subst e
      exact wpAny_pyNext_ascii_end (I.ok.hd hc) st ec fin
    · subst e
      exact wpAny_pyNext_wide_end (I.ok.hd hc) st ec fin
  self := fun _ _ _ _ _ st h => by
    rcases hT with e | e
    · subst e; exact wpAny_pyIter_striter_ascii st h
    · subst e; exact wpAny_pyIter_striter_wide st h
noncomputable def iStr (tl : TE) : TI := fun σ H R => tl σ H fun x H1 => ∃ z, x = .str z ∧ R (Its z) H1
section
variable {X : Cx} {tg : Expr}
theorem pi_str {l : Expr} {tl : TE} (hl : PE X l tl) : PI X tg l (iStr tl) := by
  intro pins s σ H R I h
  refine thn (hl pins s σ H _ I h) fun v s1 ⟨x, H1, I1, r1, q1⟩ => ?_
  obtain ⟨z, e, q⟩ := q1
  subst e
  obtain ⟨t, rfl⟩ := r1
  refine wpAny_pyIter_strU ?_
  refine ⟨s1.heap.objs.size, [s1.heap.objs.size], _, _, H1, rfl, I1.kept (t' := s1.toks) fun b o e => Heap.get?_push_of_some _ e, turn_str _ z t (strIterType z) ?_, ⟨_, Heap.get?_push_size _ rfl, rfl, rfl⟩, fun b hb => ?_, q⟩
  · unfold strIterType
    split
    · exact .inl rfl
    · exact .inr rfl
  · have e : b = s1.heap.objs.size := by simpa using hb
    subst e
    exact I1.fpOk (Nat.le_refl _) (I1.hok.fresh (Nat.le_refl _))
noncomputable def Itd (d : Addr) (o : Obj) (kvs : List (Key × V)) : It :=
  ⟨fun i H => i < kvs.length ∧ H d = some (.frz o (.dK kvs)), fun i H x H' => H' = H ∧ ∃ k v, kvs[i]? = some (k, v) ∧ x = kV k, fun i H => kvs.length ≤ i ∧ H d = some (.frz o (.dK kvs))⟩
theorem key_rel {k : Key} {v : Value} (h : keyIs k v = true) : RelV (kV k) v := by
  rcases keyIs_shape h with ⟨i, t, rfl, rfl⟩ | ⟨x, t, rfl, rfl⟩
  · exact ⟨t, rfl⟩
  · exact ⟨t, rfl⟩
theorem frz_at {P : Program} {w : World} {H : Hp} {h : Heap} {d : Addr} {o : Obj} {kvs : List (Key × V)} {es : Array DictEntry} {ep : Nat} (hd : o.data = .dict es ep) (x : ObjOk P w H h d (.frz o (.dK kvs))) :
    ∃ vs, KV kvs vs ∧ h.DictAt (mixKind P w) d vs ep := by
  obtain ⟨e, _, _, vs, r, o', es', ep', e', c, d', k⟩ := x
  rw [e] at e'
  cases e'
  rw [hd] at d'
  cases d'
  exact ⟨vs, r, o, es, e, c, hd, k⟩
theorem turn_dict {P : Program} {w : World} {K : PySem.W.Frag} {tg : Expr} (it d : Addr) (o : Obj) (kvs : List (Key × V)) (es : Array DictEntry) (ep : Nat) (hd : o.data = .dict es ep) : Turn P w K tg (Itd d o kvs) [it] it (fun i h => h.IsKeyIter it d i kvs.length ep) where
  mem := by simp
  obj := fun i h st b hb => by
    have e : b = it := by simpa using hb
    subst e
    obtain ⟨o, e, c, d⟩ := st
    exact ⟨o, e, fun v z => by rw [d] at z; cases z⟩
  keep := fun i h h' st k => st.at fun o e => k it (by simp) o e
  item := by
    intro X hP hw hK hc i pins s σ H E I hf st hg
    subst hP hw hK
    obtain ⟨hi, hH⟩ := hg
    obtain ⟨f0, f1, f2, f3, f4, f5⟩ := hf it (by simp)
    obtain ⟨vs, r, da⟩ := frz_at hd (I.hok d _ hH)
    have lv := Paired.length r
    have hi2 : i < vs.length := by omega
    have pr := paired_get r (List.getElem?_eq_getElem hi) (List.getElem?_eq_getElem hi2)
    rw [lv] at st
    refine wpAny_pyNext_dict_item (knd := mixKind X.prog X.w) (k := vs[i].1) (v := vs[i].2) st da (List.getElem?_eq_getElem hi2) fun key h' hkey st' sb => ?_
    have I1 : Inv X pins σ H { s with heap := h' } := I.turned (t' := s.toks) (fun b o hb e => (sb.2 b hb).trans e) f0 f1 f3 f4 f5
    obtain ⟨o', e, c, d'⟩ := id st'
    rw [← lv] at st'
    refine ⟨_, rfl, go_of (s := { s with heap := h' }) e c d' (by decide) ⟨kV vs[i].1, H, I1, key_rel hkey, ⟨rfl, kvs[i].1, kvs[i].2, List.getElem?_eq_getElem hi, by rw [pr.1]⟩, st', fun b hb => (hf b hb).1⟩⟩
  done := by
    intro X hP hw hK hc i pins s σ H E I hf st hg
    subst hP hw hK
    obtain ⟨hi, hH⟩ := hg
    obtain ⟨f0, f1, f2, f3, f4, f5⟩ := hf it (by simp)
    obtain ⟨vs, r, da⟩ := frz_at hd (I.hok d _ hH)
    have lv := Paired.length r
    rw [lv] at st
    exact wpAny_pyNext_dict_end (knd := mixKind X.prog X.w) (I.ok.hd hc) st da (List.getElem?_eq_none (by omega)) fun h' eb => ⟨rfl, I.turned (t' := s.toks) (fun b o hb e => eb b o hb e) f0 f1 f3 f4 f5⟩
  self := fun _ _ _ _ _ st h => wpAny_pyIter_keyiter st h
noncomputable def iDict (tl : TE) : TI := fun σ H R => tl σ H fun x H1 => ∃ d kvs, x = .ref d ∧ H1 d = some (.dK kvs) ∧ ∀ o, R (Itd d o kvs) (upd H1 d (.frz o (.dK kvs)))
theorem pi_dict {l : Expr} {tl : TE} (hl : PE X l tl) : PI X tg l (iDict tl) := by
  intro pins s σ H R I h
  refine thn (hl pins s σ H _ I h) fun v s1 ⟨x, H1, I1, r1, q1⟩ => ?_
  obtain ⟨d, kvs, e, hk, q⟩ := q1
  subst e
  cases r1
  have ok := I1.hok d _ hk
  obtain ⟨z, hs, vs, r, o, es, ep, e, c, dd, k⟩ := id ok
  have I2 : Inv X pins σ (upd H1 d (.frz o (.dK kvs))) s1 := I1.write (t' := s1.toks) (x := d) (e := d) (by rw [hk]; exact trivial) (.inl rfl) (fun b u hb hu => hu) ⟨_, e⟩ ⟨e, z, hs, vs, r, o, es, ep, e, c, dd, k⟩
  have lv := Paired.length r
  refine wpAny_pyIter_dict (knd := mixKind X.prog X.w) hs ⟨o, es, e, c, dd, k⟩ ?_
  rw [← lv]
  refine ⟨s1.heap.objs.size, [s1.heap.objs.size], _, _, _, rfl, I2.kept (t' := s1.toks) fun b o e => Heap.get?_push_of_some _ e, turn_dict _ d o kvs es ep dd, ⟨_, Heap.get?_push_size _ rfl, rfl, rfl⟩, fun b hb => ?_, q o⟩
  have e : b = s1.heap.objs.size := by simpa using hb
  subst e
  exact I2.fpOk (Nat.le_refl _) (I2.hok.fresh (Nat.le_refl _))
noncomputable def Itn : It := ⟨fun _ _ => False, fun _ _ _ _ => False, fun _ _ => True⟩
theorem turn_none {P : Program} {w : World} {K : PySem.W.Frag} {tg : Expr} (it : Addr) (lo c : Int) : Turn P w K tg Itn [it] it (fun i h => IsRangeIter h it lo 0 c) where
  mem := by simp
  obj := fun i h st b hb => by
    have e : b = it := by simpa using hb
    subst e
    exact ⟨_, st, fun v z => by
      have z' : Data.fields _ = Data.cell v := z
      cases z'⟩
  keep := fun i h h' st k => k it (by simp) _ st
  item := fun X hP hw hK hc i pins s σ H E I hf st hg => hg.elim
  done := by
    intro X hP hw hK hc i pins s σ H E I hf st hg
    subst hP hw hK
    obtain ⟨f0, f1, f2, f3, f4, f5⟩ := hf it (by simp)
    exact wpAny_pyNext_range_end (I.ok.hd hc) st (by omega) fun h' eb => ⟨rfl, I.turned (t' := s.toks) (fun b o hb e => eb b o hb e) f0 f1 f3 f4 f5⟩
  self := fun _ _ _ _ _ st h => wpAny_pyIter_rangeiter st h
noncomputable def iRng3N (ta : TA) : TI := fun σ H R => ta σ H fun vs H1 => ∃ i j c : Int, vs = [.int i, .int j, .int c] ∧ 0 < c ∧ c < 1000 ∧ 0 ≤ j ∧ j ≤ i ∧ i ≤ 1000000 ∧ R Itn H1
theorem pi_range3N {a b d : Expr} {ta : TA} {p pos : Pos} (hg : Gl X "range") (hm : X.mg "range" = none) (ha : PA X [a, b, d] ta)
    (hs : starEach [a, b, d] X.env = [(false, eval a X.env), (false, eval b X.env), (false, eval d X.env)] := by rfl) (hs2 : starEach [b, d] X.env = [(false, eval b X.env), (false, eval d X.env)] := by rfl) :
    PI X tg (.Call (.Name "range" p) [a, b, d] [] pos) (iRng3N ta) := by
  intro pins s σ H R I h
  refine Call_ (ld_blt I hg hm boot_range (PyProof.Rows.callWith_type1 (thn (ha pos pins s σ H _ I h) fun us s1 ⟨vs, H1, I1, r1, q1⟩ => ?_) (by rw [hs, hs2]) (by rw [hs2]; rfl)))
  obtain ⟨i, j, c, e, c0, c1, j0, ji, i1, q⟩ := q1
  subst e
  cases r1 with
  | cons r rr =>
    cases rr with
    | cons r' rr =>
      cases rr with
      | cons r'' rr =>
        cases rr
        obtain ⟨t, rfl⟩ := r
        obtain ⟨t', rfl⟩ := r'
        obtain ⟨t'', rfl⟩ := r''
        refine PySem.call_range_3 (by omega) ?_ (.inl (PyProof.noPylong_small (by omega)))
        have e2 : Builtin.Range.rangeSize i j c = 0 := by
          unfold Builtin.Range.rangeSize
          rw [if_pos (by omega), if_neg (by omega)]
        have sm : Builtin.Range.small i j c = true := by
          unfold Builtin.Range.small
          rw [e2]
          simp only [Builtin.Range.rangeFitsLong, Bool.and_eq_true, Bool.or_eq_true, decide_eq_true_eq, beq_iff_eq]
          exact ⟨⟨⟨⟨⟨by omega, by omega⟩, ⟨by omega, by omega⟩⟩, ⟨by omega, by omega⟩⟩, ⟨by omega, by omega⟩⟩, .inl trivial⟩
        refine wpAny_pyIter_range (IsRange.new ..) sm ?_
        have I2 : Inv X pins σ H1 { s1 with heap := s1.heap.push { cls := .type "range", data := .fields #[.int i t, .int j t', .int c t''] }, toks := s1.toks } := I1.kept fun b o e => Heap.get?_push_of_some _ e
        refine ⟨_, [_], _, _, H1, rfl, I2.kept (t' := s1.toks) fun b o e => Heap.get?_push_of_some _ e, turn_none _ i c, ?_, fun b hb => ?_, q⟩
        · rw [e2]
          exact Heap.get?_push_size _ rfl
        · have e := List.mem_singleton.mp hb
          subst e
          exact I2.fpOk (Nat.le_refl _) (I2.hok.fresh (Nat.le_refl _))
end
section
variable {k : Nat} {js : List Nat} {g : TG} {tt : TT} {te : TE} {σ : St} {H1 : Hp} {Q : VK}
theorem comp_str {z : Str} (Pv : Addr → Nat → List V → Hp → Prop) (h0 : ∀ D, H1 D = none → Pv D 0 [] (upd H1 D (.lst [])))
    (hs : ∀ D i c ys H (N : List V → Hp → Prop), H1 D = none → H D = some (.lst ys) → z.cps[i]? = some c → Pv D i ys H → (∀ zs H', H' D = some (.lst zs) → Pv D (i + 1) zs H' → N zs H') → turnC k js g tt te σ D (.str ⟨#[c]⟩) ys H N)
    (hd : ∀ D ys H, H1 D = none → H D = some (.lst ys) → Pv D z.cps.size ys H → Q (.ref D) H) : rdC k js g tt te (Its z) σ H1 Q := by
  intro D hD
  refine ⟨fun i m ys H => m = z.cps.size - i ∧ i ≤ z.cps.size ∧ H D = some (.lst ys) ∧ Pv D i ys H, ⟨z.cps.size, by simp, Nat.zero_le _, upd_same, h0 D hD⟩, ?_⟩
  rintro i m ys H ⟨rfl, hi, hDy, p⟩
  refine ⟨hDy, ?_⟩
  by_cases hlt : i < z.cps.size
  · refine .inr ⟨hlt, fun x H' y => ?_⟩
    obtain ⟨e, c, ec, y⟩ := y
    subst e y
    exact hs D i c ys _ (fun zs H' => ∃ m', m' < z.cps.size - i ∧ m' = z.cps.size - (i + 1) ∧ i + 1 ≤ z.cps.size ∧ H' D = some (.lst zs) ∧ Pv D (i + 1) zs H') hD hDy ec p fun zs H' e p' => ⟨z.cps.size - (i + 1), by omega, rfl, hlt, e, p'⟩
  · have e : i = z.cps.size := by omega
    subst e
    exact .inl ⟨Nat.le_refl _, hd D ys H hD hDy p⟩
theorem comp_dict {d : Addr} {o : Obj} {kvs : List (Key × V)} (Pv : Addr → Nat → List V → Hp → Prop) (h0 : ∀ D, H1 D = none → Pv D 0 [] (upd H1 D (.lst [])))
    (hl : ∀ D i ys H, i ≤ kvs.length → Pv D i ys H → H d = some (.frz o (.dK kvs)))
    (hs : ∀ D i q v ys H (N : List V → Hp → Prop), H1 D = none → H D = some (.lst ys) → kvs[i]? = some (q, v) → Pv D i ys H → (∀ zs H', H' D = some (.lst zs) → Pv D (i + 1) zs H' → N zs H') → turnC k js g tt te σ D (kV q) ys H N)
    (hd : ∀ D ys H, H1 D = none → H D = some (.lst ys) → Pv D kvs.length ys H → Q (.ref D) H) : rdC k js g tt te (Itd d o kvs) σ H1 Q := by
  intro D hD
  refine ⟨fun i m ys H => m = kvs.length - i ∧ i ≤ kvs.length ∧ H D = some (.lst ys) ∧ Pv D i ys H, ⟨kvs.length, by simp, Nat.zero_le _, upd_same, h0 D hD⟩, ?_⟩
  rintro i m ys H ⟨rfl, hi, hDy, p⟩
  refine ⟨hDy, ?_⟩
  have z := hl D i ys H hi p
  by_cases hlt : i < kvs.length
  · refine .inr ⟨⟨hlt, z⟩, fun x H' y => ?_⟩
    obtain ⟨e, q, v, ec, y⟩ := y
    subst e y
    exact hs D i q v ys _ (fun zs H' => ∃ m', m' < kvs.length - i ∧ m' = kvs.length - (i + 1) ∧ i + 1 ≤ kvs.length ∧ H' D = some (.lst zs) ∧ Pv D (i + 1) zs H') hD hDy ec p fun zs H' e p' => ⟨kvs.length - (i + 1), by omega, rfl, hlt, e, p'⟩
  · have e : i = kvs.length := by omega
    subst e
    exact .inl ⟨⟨Nat.le_refl _, z⟩, hd D ys H hD hDy p⟩
theorem w_iStr {W : It → Hp → Prop} {ta : TE} {σ : St} {H : Hp} (q : ta σ H fun x H1 => ∃ z, x = .str z ∧ W (Its z) H1) : iStr ta σ H W := q
theorem w_iDict {W : It → Hp → Prop} {ta : TE} {σ : St} {H : Hp} (q : ta σ H fun x H1 => ∃ d kvs, x = .ref d ∧ H1 d = some (.dK kvs) ∧ ∀ o, W (Itd d o kvs) (upd H1 d (.frz o (.dK kvs)))) : iDict ta σ H W := q
theorem w_iRng3N {W : It → Hp → Prop} {ts : TA} {σ : St} {H : Hp} (q : ts σ H fun vs H1 => ∃ i j c : Int, vs = [.int i, .int j, .int c] ∧ 0 < c ∧ c < 1000 ∧ 0 ≤ j ∧ j ≤ i ∧ i ≤ 1000000 ∧ W Itn H1) : iRng3N ts σ H W := q
theorem for_none {g : TG} {tb : TS} {D : Ends} {σ : St} {H : Hp} (q : D.nx σ H) : forK g tb D σ Itn H := ⟨fun _ m σ' H' => σ' = σ ∧ H' = H, ⟨0, rfl, rfl⟩, fun i m σ' H' e => .inl ⟨trivial, by obtain ⟨rfl, rfl⟩ := e; exact q⟩⟩
end
end L2
namespace HT
open PySem PySem.Spec PyProof.Rows
section
variable {prog : Program} {w : World} {A : Around} {E : Value → Shared → Prop} {s : Shared}
theorem getItem_tuple_all {t sl : Addr} {items : Array Value} {vl vu : Value} {lo hi : Option Int} {Q : Value → Shared → Prop} (ht : IsTup s.heap t items) (hs : s.heap.IsSliceOf sl vl vu .none) (pl : IsPart vl lo) (pu : IsPart vu hi)
    (hw : sIx items.size 0 lo = 0 ∧ sIx items.size items.size hi = items.size) (h : Q (.ref t) s) : wpAny (model prog w) A (getItem (.ref t) (.ref sl)) Q E s := by
  obtain ⟨os, hos, hcs, hds⟩ := id hs
  have hTs : s.TypeIs (.ref sl) "slice" := ⟨os, hos, hcs⟩
  unfold getItem
  try with_reducible refine wpAny_holding ?_
  first | refine wpAny_bind (wpAny_pure ?_) | skip
  refine wpAny_bind (wpAny_sequenceKey ht.typeIs (by decide) ?_)
  refine wpAny_bind (wpAny_callSpecial?_slot (name := Str.ofString "__getitem__") ht.typeIs PyProof.Rows.slot_tuple_getitem
    (wpAny_call_entry PyProof.Rows.slot_tuple_getitem ht.typeIs entry_tuple_getitem ?_ (args_tuple_getitem _ _)))
  show wpAny _ _ (Builtin.Tuple.tupleItemsOf (.ref t) >>= _) _ _ s
  refine wpAny_bind (tupleItemsOf_ ht ?_)
  refine wpAny_bind (wpAny_typeOf hTs ?_)
  rw [if_pos (by decide)]
  refine wpAny_bind (sliceApplied_gen hs pl pu ?_)
  have hyes : (((sIx items.size 0 lo : Nat) : Int) == 0 && (1 : Int) == 1 && (sIx items.size items.size hi - sIx items.size 0 lo) == items.size) = true := by
    rw [hw.1, hw.2]
    simp
  show wpAny _ _ (if (((sIx items.size 0 lo : Nat) : Int) == 0 && (1 : Int) == 1 && (sIx items.size items.size hi - sIx items.size 0 lo) == items.size) = true then _ else _) _ _ s
  rw [if_pos hyes]
  unfold Builtin.Tuple.tupleIsExact
  refine wpAny_bind (wpAny_bind (wpAny_typeOf ht.typeIs (wpAny_pure ?_)))
  rw [if_pos (by decide)]
  first
    | exact wpAny_bind (wpAny_rule (wpAny_pure ⟨_, rfl, wpAny_pure h⟩))
    | exact wpAny_bind (wpAny_rule (wpAny_pure ⟨_, rfl, h⟩))
end
end HT
namespace L2
open PySem PySem.Spec PyProof.Rows
noncomputable def rSlTA (K : PySem.W.Frag) : V → Option Int → Option Int → Hp → VK → Prop := fun x lo hi H Q => ∃ a xs, x = .ref a ∧ SqT K H a xs ∧
  ((HT.sIx xs.length 0 lo = 0 ∧ HT.sIx xs.length xs.length hi = xs.length ∧ Q (.ref a) H) ∨ (¬ (HT.sIx xs.length 0 lo = 0 ∧ HT.sIx xs.length xs.length hi = xs.length) ∧ ∀ p, H p = none → Q (.ref p) (upd H p (.tup (cutV xs lo hi)))))
theorem sl_tupAK {X : Cx} {K : PySem.W.Frag} (hK : X.K = K := by rfl) : SlR X (rSlTA K) := by
  subst hK
  intro pins s σ H x v vl vu lo hi sl Q I rx hs pl pu h
  obtain ⟨a, xs, rfl, hx, (⟨h1, h2, q⟩ | ⟨hw, q⟩)⟩ := h
  · cases rx
    obtain ⟨its, r, ht, hz⟩ := I.tuple hx
    have hlen : its.toArray.size = xs.length := by rw [List.size_toArray]; exact r.length.symm
    exact ⟨"tuple", _, PyProof.Rows.slot_tuple_getitem.lookup, ht.typeIs, HT.getItem_tuple_all ht hs pl pu (by rw [hlen]; exact ⟨h1, h2⟩) ⟨.ref a, H, I, rfl, q⟩⟩
  · exact sl_tup pins s σ H _ v vl vu lo hi sl Q I rx hs pl pu ⟨a, xs, rfl, hx, hw, q⟩
end L2

namespace L2
open PySem PySem.Spec PyProof.Rows
theorem str_ext {a b : Str} (h : a.cps.toList = b.cps.toList) : a = b := by
  cases a; cases b
  exact congrArg Str.mk (Array.toList_inj.mp h)
theorem codes_app (a b : Str) : (a ++ b).cps.toList = a.cps.toList ++ b.cps.toList := by
  show (a.cps ++ b.cps).toList = _
  rw [Array.toList_append]
theorem len_codes (a : Str) : a.length = a.cps.toList.length := by show a.cps.size = _; rw [Array.length_toList]
theorem app_inj {c : Nat} {p w x y : List Nat} (hp : c ∉ p) (hw : c ∉ w) (h : p ++ c :: x = w ++ c :: y) : p = w ∧ x = y := by
  induction p generalizing w with
  | nil =>
    cases w with
    | nil => exact ⟨rfl, by injection h⟩
    | cons b w => injection h with h1 _; exact absurd (h1 ▸ List.mem_cons_self) hw
  | cons a p ih =>
    cases w with
    | nil => injection h with h1 _; exact absurd (h1 ▸ List.mem_cons_self) hp
    | cons b w =>
      injection h with h1 h2
      obtain ⟨e1, e2⟩ := ih (fun z => hp (List.mem_cons_of_mem _ z)) (fun z => hw (List.mem_cons_of_mem _ z)) h2
      exact ⟨by rw [h1, e1], e2⟩
theorem join_codes (c : Nat) (a b : Str) (l : List Str) : (Str.join ⟨#[c]⟩ (a :: b :: l)).cps.toList = a.cps.toList ++ c :: (Str.join ⟨#[c]⟩ (b :: l)).cps.toList := by
  show (a ++ ⟨#[c]⟩ ++ Str.join ⟨#[c]⟩ (b :: l)).cps.toList = _
  rw [codes_app, codes_app, List.append_assoc]
  rfl
theorem join_inj (c : Nat) : ∀ {ps ws : List Str}, ps ≠ [] → ws ≠ [] → (∀ p ∈ ps, c ∉ p.cps.toList) → (∀ p ∈ ws, c ∉ p.cps.toList) → Str.join ⟨#[c]⟩ ps = Str.join ⟨#[c]⟩ ws → ps = ws := by
  intro ps
  induction ps with
  | nil => intro ws h; exact absurd rfl h
  | cons p ps ih =>
    intro ws _ hws fp fw e
    cases ws with
    | nil => exact absurd rfl hws
    | cons w ws =>
      have f1 := fp p List.mem_cons_self
      have f2 := fw w List.mem_cons_self
      cases ps with
      | nil =>
        cases ws with
        | nil => exact congrArg (fun x => [x]) (show p = w from e)
        | cons w2 ws =>
          have e' := congrArg (fun x : Str => x.cps.toList) e
          simp only [join_codes] at e'
          exact absurd ((show p.cps.toList = _ from e') ▸ List.mem_append_right _ List.mem_cons_self) f1
      | cons p2 ps =>
        cases ws with
        | nil =>
          have e' := congrArg (fun x : Str => x.cps.toList) e
          simp only [join_codes] at e'
          exact absurd ((show w.cps.toList = _ from e'.symm) ▸ List.mem_append_right _ List.mem_cons_self) f2
        | cons w2 ws =>
          have e' := congrArg (fun x : Str => x.cps.toList) e
          simp only [join_codes] at e'
          obtain ⟨a1, a2⟩ := app_inj f1 f2 e'
          rw [str_ext a1, ih (List.cons_ne_nil _ _) (List.cons_ne_nil _ _) (fun q hq => fp q (List.mem_cons_of_mem _ hq)) (fun q hq => fw q (List.mem_cons_of_mem _ hq)) (str_ext a2)]
theorem split_ne (x y : Str) : Txt.split x y ≠ [] := by
  unfold Txt.split
  split
  · exact List.cons_ne_nil _ _
  · split
    · exact List.cons_ne_nil _ _
    · rw [StrLaws.partsBetween_eq]
      obtain ⟨p, r, e⟩ := StrLaws.partsFrom_ne x y.length 0 (Builtin.Str.occurrences x y 0 x.length (x.length + 1))
      rw [e]
      exact List.cons_ne_nil _ _
theorem tjoin (sep : Str) (ws : List Str) : Txt.join sep ws = Str.join sep ws := StrLaws.glued_eq_join sep ws
theorem split_join {c : Nat} {ws : List Str} (h : ws ≠ []) (f : ∀ w ∈ ws, c ∉ w.cps.toList) : Txt.split (Txt.join ⟨#[c]⟩ ws) ⟨#[c]⟩ = ws :=
  join_inj c (split_ne _ _) h (StrLaws.split_free _ c) f (by rw [StrLaws.join_split, tjoin])
theorem join_snoc (sep w : Str) : ∀ {l : List Str}, l ≠ [] → Txt.join sep (l ++ [w]) = Txt.join sep l ++ sep ++ w := by
  intro l
  rw [tjoin, tjoin]
  induction l with
  | nil => intro h; exact absurd rfl h
  | cons a l ih =>
    intro _
    cases l with
    | nil => rfl
    | cons b l =>
      show a ++ sep ++ Str.join sep ((b :: l) ++ [w]) = a ++ sep ++ Str.join sep (b :: l) ++ sep ++ w
      rw [ih (List.cons_ne_nil _ _)]
      apply str_ext
      simp only [codes_app, List.append_assoc]
theorem join_mem {c d : Nat} : ∀ {ws : List Str}, d ∈ (Txt.join ⟨#[c]⟩ ws).cps.toList → d = c ∨ ∃ w ∈ ws, d ∈ w.cps.toList := by
  intro ws
  rw [tjoin]
  induction ws with
  | nil => intro h; exact absurd (show d ∈ ([] : List Nat) from h) List.not_mem_nil
  | cons a l ih =>
    intro h
    cases l with
    | nil => exact .inr ⟨a, List.mem_cons_self, h⟩
    | cons b l =>
      rw [join_codes] at h
      rcases List.mem_append.mp h with h | h
      · exact .inr ⟨a, List.mem_cons_self, h⟩
      · rcases List.mem_cons.mp h with h | h
        · exact .inl h
        · rcases ih h with h | ⟨w, hw, h⟩
          · exact .inl h
          · exact .inr ⟨w, List.mem_cons_of_mem _ hw, h⟩
theorem join_len (sep : Str) (ws : List Str) : (Txt.join sep ws).length ≤ (ws.map (·.length)).sum + ws.length * sep.length := by rw [tjoin]; exact StrLaws.join_length_le sep ws
theorem sum_le {ws : List Str} {m : Nat} (h : ∀ w ∈ ws, w.length ≤ m) : (ws.map (·.length)).sum ≤ ws.length * m := by
  induction ws with
  | nil => exact Nat.zero_le _
  | cons a l ih =>
    have h1 := h a List.mem_cons_self
    have h2 := ih fun w hw => h w (List.mem_cons_of_mem _ hw)
    rw [List.map_cons, List.sum_cons, List.length_cons, Nat.succ_mul]
    omega
noncomputable def dec (n : Nat) : Str := ⟨((Nat.toDigits 10 n).map Char.toNat).toArray⟩
theorem dec_text (n : Nat) : Str.ofString (toString (n : Int)) = dec n := text_ofNat n
noncomputable def numS (i : Int) : Str := if i < 0 then ⟨#[45]⟩ ++ dec i.natAbs else dec i.natAbs
theorem ofString_app (a b : String) : Str.ofString (a ++ b) = Str.ofString a ++ Str.ofString b := by
  apply str_ext
  rw [codes_app, Str.ofString_eq_toList, Str.ofString_eq_toList, Str.ofString_eq_toList]
  simp
theorem num_text (i : Int) : Str.ofString (toString i) = numS i := by
  unfold numS
  split
  · rename_i h
    rw [toString_neg h, ofString_app]
    have e : (0 - i) = ((i.natAbs : Nat) : Int) := by omega
    rw [e, dec_text]
    rfl
  · have e : i = ((i.natAbs : Nat) : Int) := by omega
    conv => lhs; rw [e]
    rw [dec_text]
noncomputable def decOk (n : Nat) : Bool := let d := dec n
  d.cps.toList.all (fun c => 48 ≤ c && c ≤ 57) && (1 ≤ d.length && d.length ≤ 3) && (d.cps.toList == [48] || d.cps.toList.head? != some 48) && decide (PySem.intText? (⟨#[48]⟩ ++ d) = some (n : Int))
theorem dec_ok : ∀ n : Fin 200, decOk n.val = true := by decide +kernel
structure Figs (n : Nat) : Prop where
  fig : ∀ c ∈ (dec n).cps.toList, 48 ≤ c ∧ c ≤ 57
  lo : 1 ≤ (dec n).length
  hi : (dec n).length ≤ 3
  zero : (dec n).cps.toList = [48] ∨ (dec n).cps.toList.head? ≠ some 48
  reads : PySem.intText? (⟨#[48]⟩ ++ dec n) = some (n : Int)
theorem figs {n : Nat} (h : n < 200) : Figs n := by
  have z := dec_ok ⟨n, h⟩
  unfold decOk at z
  simp only [Bool.and_eq_true, Bool.or_eq_true, List.all_eq_true, decide_eq_true_eq, beq_iff_eq, bne_iff_ne] at z
  obtain ⟨⟨⟨a, b, c⟩, d⟩, e⟩ := z
  exact ⟨fun x hx => a x hx, b, c, d, e⟩
theorem sub_sign {x : Str} {c i : Nat} : Builtin.Str.subAt x ⟨#[c]⟩ i = decide (x.cps.toList[i]? = some c) := by
  rw [StrLaws.subAt_eq]
  show ((x.cps.toList.drop i).take 1 == [c]) = _
  rw [Bool.eq_iff_iff, beq_iff_eq, decide_eq_true_eq, ← List.head?_drop]
  cases x.cps.toList.drop i with
  | nil => simp
  | cons a r => simp
theorem occ_sign {x : Str} {c : Nat} (h : c ∈ x.cps.toList) : (Builtin.Str.occurrences x ⟨#[c]⟩ 0 x.length 1).isEmpty = false := by
  obtain ⟨i, e⟩ := List.mem_iff_getElem?.mp h
  have hi := (List.getElem?_eq_some_iff.mp e).1
  rcases StrLaws.occ_head x ⟨#[c]⟩ 1 (Nat.le_refl _) with ⟨_, no⟩ | ⟨j, r, e2, _⟩
  · refine absurd ⟨?_, ?_⟩ (no i)
    · rw [len_codes x]; exact hi
    · rw [sub_sign]; exact decide_eq_true e
  · rw [e2]; rfl
theorem occ_no {x : Str} {c : Nat} (h : c ∉ x.cps.toList) : (Builtin.Str.occurrences x ⟨#[c]⟩ 0 x.length 1).isEmpty = true := by
  rcases StrLaws.occ_head x ⟨#[c]⟩ 1 (Nat.le_refl _) with ⟨e, _⟩ | ⟨j, r, _, a, _⟩
  · rw [e]; rfl
  · have := a.2
    rw [sub_sign] at this
    exact absurd (List.mem_of_getElem? (of_decide_eq_true this)) h
theorem starts_sign {z : Str} {c : Nat} : Txt.startswith z ⟨#[c]⟩ = decide (z.cps.toList.head? = some c) := by
  unfold Txt.startswith
  rw [sub_sign, Bool.eq_iff_iff, Bool.and_eq_true, decide_eq_true_eq, decide_eq_true_eq, decide_eq_true_eq, ← List.head?_eq_getElem?]
  constructor
  · exact fun h => h.2
  · intro h
    refine ⟨?_, h⟩
    show 0 + 1 ≤ z.length
    rw [len_codes]
    cases e : z.cps.toList with
    | nil => rw [e] at h; cases h
    | cons a r => simp
theorem pick_codes (x : Array Nat) (a : Nat) : ∀ m, a + m ≤ x.size → ((List.range m).map (a + ·)).filterMap (x[·]?) = (x.toList.drop a).take m := by
  intro m
  induction m with
  | zero => intro _; simp
  | succ m ih =>
    intro h
    rw [List.range_succ, List.map_append, List.filterMap_append, ih (by omega), List.take_add_one]
    congr 1
    have hl : a + m < x.size := by omega
    simp [hl]
theorem slice_core {z : Str} {l u : Option Int} {a b : Nat} (h : Builtin.Str.strSliceIndices l u 1 z.length = (List.range (b - a)).map (a + ·)) (hab : a ≤ b) (hb : b ≤ z.length) : (Txt.slice z l u).cps.toList = (z.cps.toList.drop a).take (b - a) := by
  have lz := len_codes z
  unfold Txt.slice
  split
  · rename_i c
    rw [h, List.length_map, List.length_range] at c
    have c : b - a = z.length := by simpa using c
    have : a = 0 := by omega
    subst this
    rw [List.drop_zero, c, lz, List.take_length]
  · rw [h]
    show (List.filterMap _ _).toArray.toList = _
    rw [List.toList_toArray]
    exact pick_codes z.cps a (b - a) (by have : z.cps.size = z.length := rfl; omega)
theorem slice_from {z : Str} {i : Nat} (h : i ≤ z.length) : (Txt.slice z (some (i : Int)) none).cps.toList = z.cps.toList.drop i := by
  have lz := len_codes z
  rw [slice_core (a := i) (b := z.length) ?_ h (Nat.le_refl _), lz, ← List.length_drop, List.take_length]
  unfold Builtin.Str.strSliceIndices sliceRange
  have e1 : ¬ ((i : Int) < 0) := by omega
  simp only [show (1 : Int) > 0 by decide, if_true, if_neg e1, Int.one_mul]
  have e2 : max 0 (min (i : Int) (z.length : Int)) = (i : Int) := by omega
  rw [e2]
  have e3 : (if (i : Int) < (z.length : Int) then ((z.length : Int) - i + 1 - 1) / 1 else 0).toNat = z.length - i := by split <;> omega
  rw [e3]
  exact List.map_congr_left fun k _ => by omega
theorem slice_to {z : Str} {i : Nat} (h : i ≤ z.length) : (Txt.slice z none (some (i : Int))).cps.toList = z.cps.toList.take i := by
  have lz := len_codes z
  rw [slice_core (a := 0) (b := i) ?_ (Nat.zero_le _) h, List.drop_zero, Nat.sub_zero]
  unfold Builtin.Str.strSliceIndices sliceRange
  have e1 : ¬ ((i : Int) < 0) := by omega
  simp only [show (1 : Int) > 0 by decide, if_true, if_neg e1, Int.one_mul]
  have e2 : max 0 (min (i : Int) (z.length : Int)) = (i : Int) := by omega
  rw [e2]
  have e3 : (if (0 : Int) < (i : Int) then ((i : Int) - 0 + 1 - 1) / 1 else 0).toNat = i - 0 := by split <;> omega
  rw [e3]
  exact List.map_congr_left fun k _ => by omega
theorem slice_one {z : Str} {c : Nat} : Txt.slice (⟨#[c]⟩ ++ z) (some 1) none = z := by
  apply str_ext
  have := slice_from (z := ⟨#[c]⟩ ++ z) (i := 1) (by rw [len_codes, codes_app]; simp)
  rw [show ((1 : Nat) : Int) = 1 from rfl] at this
  rw [this, codes_app]
  rfl
theorem slice_all {z : Str} : Txt.slice z none (some (z.length : Int)) = z := by
  apply str_ext
  rw [slice_to (Nat.le_refl _), len_codes, List.take_length]
theorem Same.set {H H1 : Hp} {r : Addr} {o : HO} (S : Same H H1) (n : H r = none) : Same H (upd H1 r o) := fun b u e => by rw [upd_ne (ne_of_none e n)]; exact S _ _ e
theorem w_tyS {K : PySem.W.Frag} {H : Hp} {x : Str} {A : Prop} (q : A) : tyV K "str" (.str x) H ∧ A := ⟨rfl, q⟩
theorem w_yes {σ : St} {H : Hp} {R : Bool → Hp → Prop} (q : R true H) : tYes σ H R := q
theorem w_starts {z y : Str} {H : Hp} {Q : VK} (q : Q (.bl (Txt.startswith z y)) H) : rStarts (.str z) [.str y] H Q := ⟨z, y, rfl, rfl, q⟩
theorem c_dash : Str.ofString "-" = ⟨#[45]⟩ := by decide +kernel
theorem c_zero : Str.ofString "0" = ⟨#[48]⟩ := by decide +kernel
theorem c_blank : Str.ofString " " = ⟨#[32]⟩ := by decide +kernel
theorem c_colon : Str.ofString ":" = ⟨#[58]⟩ := by decide +kernel
theorem c_feed : Str.ofString "\n" = ⟨#[10]⟩ := by decide +kernel
theorem c_none : Str.ofString "" = ⟨#[]⟩ := by decide +kernel
theorem c_figs : (Str.ofString "0123456789").cps.toList = [48, 49, 50, 51, 52, 53, 54, 55, 56, 57] := by decide +kernel
theorem ne_none {x : Str} (h : 1 ≤ x.length) : ¬ (V.str x = V.str (Str.ofString "")) := fun z => by
  injection z with z
  rw [z] at h
  exact absurd h (by decide +kernel)
theorem none_app (x : Str) : Str.ofString "" ++ x = x := by
  apply str_ext
  rw [codes_app, c_none]
  rfl
theorem all_rep (n : Nat) : (List.replicate n true).all id = true := List.all_eq_true.mpr fun b hb => (List.mem_replicate.mp hb).2
theorem rep_bl (n : Nat) : List.replicate n (V.bl true) = (List.replicate n true).map V.bl := by rw [List.map_replicate]
theorem rep_snoc {α : Type} (n : Nat) (a : α) : List.replicate n a ++ [a] = List.replicate (n + 1) a := by rw [List.replicate_succ']
theorem comp_in {K : PySem.W.Frag} {σ : St} {H : Hp} {Q : VK} {z L : Str} (hz : ∀ c ∈ z.cps.toList, c ∈ L.cps.toList) (len : z.length ≤ 10000) (q : ∀ (D : Addr) (H2 : Hp), Same H H2 → H2 D = some (.lst ((List.replicate z.length true).map V.bl)) → Q (.ref D) H2) :
    rdC 1 [] (gName 0) tYes (tOp (fun x y H Q => ∃ i j, x = .str i ∧ y = .str j ∧ Q (.bl (!(Builtin.Str.occurrences j i 0 j.length 1).isEmpty)) H) (tVar 0) (tC (.str L))) (Its z) σ H Q := by
  refine comp_str (fun D i ys H' => ys = List.replicate i (V.bl true) ∧ i ≤ z.length ∧ Same H H') (fun D hD => ⟨rfl, Nat.zero_le _, same_new hD _⟩) (fun D i c ys H' N hD hDy ec hP hN => ?_) (fun D ys H2 hD hDy hP => ?_)
  · obtain ⟨rfl, hi, hk⟩ := hP
    have hm : c ∈ z.cps.toList := by
      have : z.cps.toList[i]? = some c := by rw [Array.getElem?_toList]; exact ec
      exact List.mem_of_getElem? this
    have hi2 : i < z.length := by
      obtain ⟨h, _⟩ := Array.getElem?_eq_some_iff.mp ec
      exact h
    refine ⟨⟨[some (.str ⟨#[c]⟩)], rfl, rfl⟩, w_yes (iteT ⟨_, rfl, ⟨#[c]⟩, L, rfl, rfl, ?_⟩)⟩
    rw [occ_sign (hz c hm)]
    refine ⟨hDy, ?_, ?_⟩
    · rw [List.length_replicate, show sizeLine = 16777216 from sizeLine_eq]; omega
    · show N (List.replicate i (V.bl true) ++ [V.bl true]) (upd H' D (.lst (List.replicate i (V.bl true) ++ [V.bl true])))
      rw [rep_snoc]
      exact hN _ _ upd_same ⟨rfl, hi2, Same.set hk hD⟩
  · obtain ⟨rfl, hi, hk⟩ := hP
    rw [rep_bl] at hDy
    exact q D H2 hk hDy
end L2

namespace L2
open PySem PySem.Spec PyProof.Rows
theorem in_sign (L : Str) (c : Nat) : (!(Builtin.Str.occurrences L ⟨#[c]⟩ 0 L.length 1).isEmpty) = decide (c ∈ L.cps.toList) := by
  by_cases h : c ∈ L.cps.toList
  · rw [occ_sign h, decide_eq_true h]; rfl
  · rw [occ_no h, decide_eq_false h]; rfl
theorem all_in {xs L : List Nat} : (xs.map fun c => decide (c ∈ L)).all id = true ↔ ∀ c ∈ xs, c ∈ L := by
  rw [List.all_map, List.all_eq_true]
  exact ⟨fun h c hc => of_decide_eq_true (h c hc), fun h c hc => decide_eq_true (h c hc)⟩
theorem comp_inB {K : PySem.W.Frag} {σ : St} {H : Hp} {Q : VK} {z L : Str} (len : z.length ≤ 10000) (q : ∀ (D : Addr) (H2 : Hp), Same H H2 → H2 D = some (.lst ((z.cps.toList.map fun c => decide (c ∈ L.cps.toList)).map V.bl)) → Q (.ref D) H2) :
    rdC 1 [] (gName 0) tYes (tOp (fun x y H Q => ∃ i j, x = .str i ∧ y = .str j ∧ Q (.bl (!(Builtin.Str.occurrences j i 0 j.length 1).isEmpty)) H) (tVar 0) (tC (.str L))) (Its z) σ H Q := by
  have lz := len_codes z
  refine comp_str (fun D i ys H' => ys = ((z.cps.toList.take i).map fun c => decide (c ∈ L.cps.toList)).map V.bl ∧ i ≤ z.length ∧ Same H H') (fun D hD => ⟨rfl, Nat.zero_le _, same_new hD _⟩) (fun D i c ys H' N hD hDy ec hP hN => ?_) (fun D ys H2 hD hDy hP => ?_)
  · obtain ⟨rfl, hi, hk⟩ := hP
    have ec' : z.cps.toList[i]? = some c := by rw [Array.getElem?_toList]; exact ec
    have hi2 : i < z.length := by rw [lz]; exact (List.getElem?_eq_some_iff.mp ec').1
    refine ⟨⟨[some (.str ⟨#[c]⟩)], rfl, rfl⟩, w_yes (iteT ⟨_, rfl, ⟨#[c]⟩, L, rfl, rfl, ?_⟩)⟩
    rw [in_sign]
    refine ⟨hDy, ?_, hN _ _ upd_same ⟨?_, hi2, Same.set hk hD⟩⟩
    · rw [List.length_map, List.length_map, List.length_take, show sizeLine = 16777216 from sizeLine_eq]; omega
    · rw [List.take_add_one, ec', List.map_append, List.map_append]; rfl
  · obtain ⟨rfl, hi, hk⟩ := hP
    have : z.cps.size = z.cps.toList.length := (Array.length_toList).symm
    rw [this, List.take_length] at hDy
    exact q D H2 hk hDy
noncomputable def spl (c : Nat) : List Nat → List (List Nat)
  | [] => [[]]
  | a :: r => if a = c then [] :: spl c r else match spl c r with
    | [] => [[a]]
    | p :: q => (a :: p) :: q
noncomputable def mkS (l : List Nat) : Str := ⟨l.toArray⟩
theorem mkS_codes (l : List Nat) : (mkS l).cps.toList = l := by unfold mkS; rw [List.toList_toArray]
theorem spl_ne (c : Nat) (l : List Nat) : spl c l ≠ [] := by
  cases l with
  | nil => exact List.cons_ne_nil _ _
  | cons a r =>
    unfold spl
    split
    · exact List.cons_ne_nil _ _
    · split <;> exact List.cons_ne_nil _ _
theorem spl_free (c : Nat) : ∀ (l : List Nat), ∀ p ∈ spl c l, c ∉ p := by
  intro l
  induction l with
  | nil => intro p hp; rw [List.mem_singleton.mp hp]; exact List.not_mem_nil
  | cons a r ih =>
    intro p hp
    unfold spl at hp
    split at hp
    · rcases List.mem_cons.mp hp with e | h
      · rw [e]; exact List.not_mem_nil
      · exact ih p h
    · rename_i hne
      split at hp
      · rename_i e; exact absurd e (spl_ne _ _)
      · rename_i q qs e
        rcases List.mem_cons.mp hp with e2 | h
        · rw [e2]
          intro z
          rcases List.mem_cons.mp z with z | z
          · exact hne z.symm
          · exact ih q (by rw [e]; exact List.mem_cons_self) z
        · exact ih p (by rw [e]; exact List.mem_cons_of_mem _ h)
theorem spl_join (c : Nat) : ∀ (l : List Nat), (Str.join ⟨#[c]⟩ ((spl c l).map mkS)).cps.toList = l := by
  intro l
  induction l with
  | nil => exact mkS_codes []
  | cons a r ih =>
    unfold spl
    split
    · rename_i e
      cases h : spl c r with
      | nil => exact absurd h (spl_ne _ _)
      | cons p q =>
        rw [h] at ih
        rw [List.map_cons, List.map_cons, join_codes, ← List.map_cons, ih, mkS_codes, e]
        rfl
    · cases h : spl c r with
      | nil => exact absurd h (spl_ne _ _)
      | cons p q =>
        rw [h] at ih
        show (Str.join ⟨#[c]⟩ (mkS (a :: p) :: q.map mkS)).cps.toList = _
        cases q with
        | nil =>
          have ih : (mkS p).cps.toList = r := ih
          show (mkS (a :: p)).cps.toList = _
          rw [mkS_codes] at ih ⊢
          rw [ih]
        | cons p2 q =>
          have ih : (Str.join ⟨#[c]⟩ (mkS p :: mkS p2 :: q.map mkS)).cps.toList = r := ih
          show (Str.join ⟨#[c]⟩ (mkS (a :: p) :: mkS p2 :: q.map mkS)).cps.toList = _
          rw [join_codes, mkS_codes] at ih ⊢
          rw [← ih]
          rfl
theorem split_spl (x : Str) (c : Nat) : Txt.split x ⟨#[c]⟩ = (spl c x.cps.toList).map mkS := by
  refine join_inj c (split_ne _ _) (fun z => spl_ne c _ (List.map_eq_nil_iff.mp z)) (StrLaws.split_free x c) (fun p hp => ?_) ?_
  · obtain ⟨l, hl, e⟩ := List.mem_map.mp hp
    rw [← e, mkS_codes]
    exact spl_free c _ l hl
  · rw [StrLaws.join_split]
    exact (str_ext (spl_join c _)).symm
theorem join_last (sep a s : Str) : ∀ (l : List Str), Txt.join sep (l ++ [a ++ s]) = Txt.join sep (l ++ [a]) ++ s := by
  intro l
  cases l with
  | nil => rw [tjoin, tjoin]; rfl
  | cons b l =>
    rw [join_snoc sep _ (List.cons_ne_nil _ _), join_snoc sep _ (List.cons_ne_nil _ _)]
    apply str_ext
    simp only [codes_app, List.append_assoc]
noncomputable def rUpper : V → List V → Hp → VK → Prop := fun x vs H Q => ∃ z : Str, x = .str z ∧ vs = [] ∧ (Txt.upper z).length ≤ 1000 ∧ Q (.str (Txt.upper z)) H
theorem mt_upper {X : Cx} : MtM X "str.upper" rUpper := by
  intro pins s σ H x vs v us Q I rx rv h
  obtain ⟨z, rfl, rfl, l, q⟩ := h
  obtain ⟨t, rfl⟩ := rx
  cases rv.zero
  exact SC.upper (decide_eq_false (by rw [show sizeLine = 16777216 from sizeLine_eq]; omega)) ⟨.str _, H, I.tok _, ⟨_, rfl⟩, q⟩
theorem up_e : Txt.upper ⟨#[101]⟩ = ⟨#[69]⟩ := by decide +kernel
theorem up_d : Txt.upper ⟨#[100]⟩ = ⟨#[68]⟩ := by decide +kernel
theorem up_l : Txt.upper ⟨#[108]⟩ = ⟨#[76]⟩ := by decide +kernel
theorem Dx.calm {P : Program} {w : World} {K : PySem.W.Frag} {mg : Str → Option Value} {base : Heap} {x : Str} {k : Nat} {ps : List Str} {sp : Sp} (D : Dx P w K mg base x k ps sp) : Dn P w K mg base x k ps (fun vs H Q _ => sp vs H Q fun _ _ _ => False) := by
  obtain ⟨f, fd, F, a, b, c⟩ := D.ex
  refine ⟨f, fd, ⟨fun vs H Q E h => F.len vs H Q _ h, fun A outer s H args us vs Q E hr e hb r h => ?_⟩, a, b, c⟩
  refine codeAny_mono (F.run A outer s H args us vs Q _ hr e hb r h) fun a s' hq => ?_
  match a, hq with
  | .error _, hq => obtain ⟨_, _, _, _, _, _, _, _, _, _, _, _, _, _, z⟩ := hq; exact z.elim
  | .ok (.ret _), hq => exact hq
theorem PE.wk {X : Cx} {e : Expr} {t t' : TE} (h : PE X e t) (k : ∀ σ H Q, t' σ H Q → t σ H Q) : PE X e t' := fun pins s σ H Q I q => h pins s σ H Q I (k σ H Q q)
end L2

local macro_rules | `(tactic| wtm_at "zh") => `(tactic| first | assumption | exact L2.upd_same | (refine L2.same_new (by assumption) _ _ _ ?_; wtm_at "zh") | (refine (show L2.Same _ _ by assumption) _ _ ?_; wtm_at "zh"))
local macro_rules | `(tactic| wtm_at "zs") => `(tactic| first | assumption | exact L2.SqT.of (by wtm_at "zh") | exact L2.SqL.of (by wtm_at "zh") | (refine L2.Same.seq (by assumption) ?_; wtm_at "zs"))
local macro_rules | `(tactic| wtm_at "zat") => `(tactic| first | rfl | assumption | exact L2.at_head _ _ | exact FP.at_int (by assumption) | exact L2.atI_nat (by assumption))
local macro_rules | `(tactic| wtm_at "zw") => `(tactic| repeat first
  | (with_reducible first | apply L2.w_seq | apply L2.w_asg | apply L2.w_c | apply L2.w_name | apply L2.w_op | apply L2.w_un | apply L2.w_I0 | apply L2.w_U | apply L2.w_test | apply L2.w_B | apply L2.w_bl | apply L2.w_exI | apply L2.w_not | apply L2.w_and | apply L2.w_andV | apply L2.w_orV | apply L2.w_notV | apply L2.w_ifS | apply L2.w_drop | apply L2.w_ret | apply L2.w_next | apply L2.w_cons | apply L2.w_nil | apply L2.w_call | apply L2.w_cb | apply L2.w_tup | apply L2.w_lst | apply L2.w_bm0 | apply L2.w_bm | apply L2.w_sl | apply L2.w_noPart | apply L2.w_part | apply L2.w_gnil | apply L2.w_gcons | apply L2.w_iList | apply L2.w_iTup | apply L2.w_rng1 | apply L2.w_tyS | apply L2.w_yes | apply L2.w_starts | apply L2.w_iStr | apply L2.w_iDict | apply L2.w_iRng3N | apply L2.w_dget | apply L2.w_dput)
  | ((with_reducible show L2.tVar _ _ _ _); refine L2.w_var rfl ?_)
  | ((with_reducible show L2.rEq _ _ _ _); refine L2.w_eq rfl ?_)
  | ((with_reducible show L2.rNe _ _ _ _); refine L2.w_ne rfl ?_)
  | ((with_reducible show L2.rIxT _ _ _ _ _); refine L2.w_ixT (by wtm_at "zs") (by wtm_at "zat") ?_)
  | ((with_reducible show L2.rIxL _ _ _ _ _); refine L2.w_ixL (by wtm_at "zs") (by wtm_at "zat") ?_)
  | ((with_reducible show L2.gTup _ _ _ _ _ _ _); refine L2.w_gtup (by wtm_at "zs") rfl ?_)
  | ((with_reducible show L2.rLen _ _ _ _); refine L2.w_len (by first | exact .inl (by wtm_at "zs") | exact .inr (by wtm_at "zs")) ?_)
  | apply L2.w_true (FP.dec_str_eq _)
  | refine L2.w_false (FP.dec_str_ne (by assumption)) ?_
  | refine L2.w_false (FP.dec_str_ne (by decide +kernel)) ?_
  | (with_reducible first | apply L2.iteT | apply L2.iteF | apply L2.iteNT | apply L2.iteNF))
local macro_rules | `(tactic| wtm_at "zf") => `(tactic| wtm_at "zw"; (with_reducible first | apply L2.w_for | apply L2.w_comp); wtm_at "zw")
namespace FP
open PySem L2
noncomputable def top (i : Nat) : Stmt := PySem.Challenge.pw_forkplan_k85_texts_of_no_plan.main.body.getD i (.Pass ⟨0, 0, 0, 0⟩)
structure Bl (mg : Str → Option Value) : Prop where
  len' : mg "len" = none
  range' : mg "range" = none
  min' : mg "min" = none
  isinstance' : mg "isinstance" = none
  list' : mg "list" = none
  reversed' : mg "reversed" = none
  tuple' : mg "tuple" = none
  int' : mg "int" = none
  bool' : mg "bool" = none
  dict' : mg "dict" = none
  zip' : mg "zip" = none
structure FunE (K : PySem.W.Frag) (mg : Str → Option Value) (x : Str) (f : Addr) (fd : FuncData) (ps : List Str) : Prop where
  mg : mg x = some (.ref f)
  kp : PySem.W.keepIn K (.ref f) = true
  bd : Binds K fd ps []
section
seal L2.PE L2.PA L2.PS L2.PSs
variable {P : Program} {w : World} {K : PySem.W.Frag} {mg : Str → Option Value} {base : Heap}

theorem nat_lt {n : Int} {B : Nat} (h0 : 0 ≤ n) (h : n < (B : Int)) : n.natAbs < B := by omega
theorem big (n : Int) (h0 : 0 ≤ n) (h : n < 10 ^ 200) : n.natAbs < 2 ^ 1000 := nat_lt h0 (Int.lt_of_lt_of_le h (by decide +kernel))
theorem mul_bd {a b c d : Int} (ha : 0 ≤ a) (hb : 0 ≤ b) (h1 : a ≤ c) (h2 : b ≤ d) : 0 ≤ a * b ∧ a * b ≤ c * d :=
  ⟨Int.mul_nonneg ha hb, Int.mul_le_mul h1 h2 hb (Int.le_trans ha h1)⟩

theorem sc_law_take : FnScope ["deck", "many", "taken"] ["deck", "many"] (defScope (top 30)) := ⟨rfl, rfl, rfl, by decide +kernel, rfl, by decide +kernel, by decide +kernel⟩
noncomputable def spTake : Sp := fun vs H Q _ => ∃ (dk : Addr) (m de : Int), vs = [.ref dk, .int m] ∧ H dk = some (.lst [.int de]) ∧ 0 < m ∧ m.natAbs < 2 ^ 1000 ∧ ∀ x d' : Int, 0 ≤ x → x < m → Q (.int x) (upd H dk (.lst [.int d']))
theorem ok_take {f : Addr} {fd : FuncData} (F : Fun K "_law_take" "_law_take" (top 30) f fd) : FnOk P w K mg base CX0 1 f fd ["deck", "many"] spTake := by
  refine F.ok sc_law_take (fun vs H Q E h => ?_) (fun cdv A outer s H vs Q E hr h => ?_)
  · obtain ⟨dk, m, de, rfl, _⟩ := h
    rfl
  obtain ⟨dk, m, de, rfl, hd, h0, h1, q⟩ := h
  refine ⟨_, (pss_cons (ps_set (i := 2) sc_law_take.nd rfl (by first | exact Or.inl rfl | exact Or.inr rfl) (pe_op op_mod (pe_ix (ix_listK (K := K)) (pv 0) pe_int (fun _ _ => rfl)) (pv 1)))
    (pss_cons (ps_asg (pe_op op_fdivB (pe_ix (ix_listK (K := K)) (pv 0) pe_int (fun _ _ => rfl)) (pv 1)) (pg_sub (pv 0) pe_int set_list))
    (pss_one (ps_ret (pv 2))))), ?_⟩
  refine ⟨_, rfl, dk, _, 0, .int de, rfl, rfl, SqL.of hd, rfl, _, rfl, de, m, rfl, rfl, h0, ?_⟩
  refine ⟨_, rfl, dk, _, 0, .int de, rfl, rfl, SqL.of hd, rfl, _, rfl, de, m, rfl, rfl, ⟨h0, h1⟩, ?_⟩
  refine ⟨_, rfl, dk, [.int de], 0, 0, rfl, rfl, hd, rfl, ?_⟩
  exact ⟨_, rfl, q _ _ (Int.emod_nonneg _ (by omega)) (Int.emod_lt_of_pos _ h0)⟩

theorem sc_law_cell_at : FnScope ["script", "k"] ["script", "k"] (defScope (top 26)) := ⟨rfl, rfl, rfl, by decide +kernel, rfl, by decide +kernel, by decide +kernel⟩
noncomputable def spCell (K : PySem.W.Frag) : Sp := fun vs H Q _ => ∃ (a : Addr) (ns : List Int) (k : Int), vs = [.ref a, .int k] ∧ SqL K H a (ns.map V.int) ∧ 0 ≤ k ∧ ∀ c : Int, Q (.int c) H
theorem ok_cell {f : Addr} {fd : FuncData} (F : Fun K "_law_cell_at" "_law_cell_at" (top 26) f fd) (B : Bl mg) : FnOk P w K mg base CX0 1 f fd ["script", "k"] (spCell K) := by
  refine F.ok sc_law_cell_at (fun vs H Q E h => ?_) (fun cdv A outer s H vs Q E hr h => ?_)
  · obtain ⟨a, ns, k, rfl, _⟩ := h
    rfl
  obtain ⟨a, ns, k, rfl, hS, h0, q⟩ := h
  refine ⟨_, (pss_cons (ps_if (pt_cmpR op_lt (pv 1) (pe_callB (call_lenK (K := K)) rfl B.len' bt_len (pa_cons (pv 0) pa_nil)) (nomark _)) (pss_one (ps_ret (pe_ix (ix_listK (K := K)) (pv 0) (pv 1) (fun _ _ => rfl)))) pss_nil)
    (pss_one (ps_ret pe_int))), ?_⟩
  refine ⟨_, rfl, _, rfl, a, _, rfl, .inl hS, _, _, rfl, rfl, _, rfl, ?_⟩
  refine ite2 (fun c => ?_) (fun c => ?_)
  · have c' : k < (((ns.map V.int).length : Nat) : Int) := of_decide_eq_true c
    rw [List.length_map] at c'
    have hk : k.toNat < ns.length := by omega
    have e : k = ((k.toNat : Nat) : Int) := by omega
    have z : atI (ns.map V.int) ((k.toNat : Nat) : Int) = some (.int ns[k.toNat]) := atI_nat (by rw [List.getElem?_map, List.getElem?_eq_getElem hk] <;> rfl)
    rw [← e] at z
    exact ⟨_, rfl, _, rfl, a, _, k, _, rfl, rfl, hS, z, q _⟩
  · exact q 0

theorem sc_law_stir : FnScope ["cell", "k", "number"] ["cell", "k"] (defScope (top 27)) := ⟨rfl, rfl, rfl, by decide +kernel, rfl, by decide +kernel, by decide +kernel⟩
noncomputable def spStir : Sp := fun vs H Q _ => ∃ c k : Int, vs = [.int c, .int k] ∧ 0 ≤ k ∧ k ≤ 1000 ∧ ∀ x : Int, 0 ≤ x → x < 10 ^ 61 → Q (.int x) H
theorem stir1 {c k : Int} (h0 : 0 ≤ k) (h1 : k ≤ 1000) : 0 ≤ c % 10 ^ 40 * 48271 + 3 ^ 60 * (k + 1) * (k + 1) + k ∧ c % 10 ^ 40 * 48271 + 3 ^ 60 * (k + 1) * (k + 1) + k < 10 ^ 46 := by
  have a1 : 0 ≤ c % 10 ^ 40 := Int.emod_nonneg _ (by decide +kernel)
  have a2 : c % 10 ^ 40 < 10 ^ 40 := Int.emod_lt_of_pos _ (by decide +kernel)
  have b1 := mul_bd (a := 3 ^ 60) (b := k + 1) (c := 3 ^ 60) (d := 1001) (by decide +kernel) (by omega) (Int.le_refl _) (by omega)
  have b2 := mul_bd (a := 3 ^ 60 * (k + 1)) (b := k + 1) (c := 3 ^ 60 * 1001) (d := 1001) b1.1 (by omega) b1.2 (by omega)
  have e1 : (3 : Int) ^ 60 * 1001 * 1001 ≤ 10 ^ 40 := by decide +kernel
  have e2 : (10 : Int) ^ 40 * 48271 + 10 ^ 40 + 1000 < 10 ^ 46 := by decide +kernel
  generalize c % 10 ^ 40 = a at *
  generalize 3 ^ 60 * (k + 1) * (k + 1) = b at *
  have m : a * 48271 ≤ 10 ^ 40 * 48271 := Int.mul_le_mul_of_nonneg_right (Int.le_of_lt a2) (by decide)
  have n0 : 0 ≤ a * 48271 := Int.mul_nonneg a1 (by decide)
  generalize a * 48271 = z at *
  generalize (10 : Int) ^ 40 * 48271 = y at *
  generalize (3 : Int) ^ 60 * 1001 * 1001 = x at *
  generalize (10 : Int) ^ 40 = u at *
  generalize (10 : Int) ^ 46 = v at *
  omega
theorem stir2 {n : Int} (h0 : 0 ≤ n) (h1 : n < 10 ^ 46) : 0 ≤ n * n + 69621 * n ∧ n * n + 69621 * n < 10 ^ 93 := by
  have b := mul_bd h0 h0 (Int.le_of_lt h1) (Int.le_of_lt h1)
  have b2 := mul_bd (a := 69621) (b := n) (c := 69621) (d := 10 ^ 46) (by decide) h0 (Int.le_refl _) (Int.le_of_lt h1)
  have e : (10 : Int) ^ 46 * 10 ^ 46 + 69621 * 10 ^ 46 < 10 ^ 93 := by decide +kernel
  generalize n * n = x at *
  generalize 69621 * n = y at *
  generalize (10 : Int) ^ 46 * 10 ^ 46 = u at *
  generalize 69621 * (10 : Int) ^ 46 = v at *
  generalize (10 : Int) ^ 93 = z at *
  omega
theorem lt200 {n : Int} {k : Nat} (h : n < 10 ^ k) (hk : (10 : Int) ^ k ≤ 10 ^ 200 := by decide +kernel) : n < 10 ^ 200 := Int.lt_of_lt_of_le h hk
theorem ok_stir {f : Addr} {fd : FuncData} (F : Fun K "_law_stir" "_law_stir" (top 27) f fd) : FnOk P w K mg base CX0 1 f fd ["cell", "k"] spStir := by
  refine F.ok sc_law_stir (fun vs H Q E h => ?_) (fun cdv A outer s H vs Q E hr h => ?_)
  · obtain ⟨c, k, rfl, _⟩ := h
    rfl
  obtain ⟨c, k, rfl, h0, h1, q⟩ := h
  have a1 : 0 ≤ c % 10 ^ 40 := Int.emod_nonneg _ (by decide +kernel)
  have a2 : c % 10 ^ 40 < 10 ^ 40 := Int.emod_lt_of_pos _ (by decide +kernel)
  have b1 := mul_bd (a := 3 ^ 60) (b := k + 1) (c := 3 ^ 60) (d := 1001) (by decide +kernel) (by omega) (Int.le_refl _) (by omega)
  have s1 := stir1 (c := c) h0 h1
  have s2 := stir2 s1.1 s1.2
  have pw : ∀ i j : Int, 0 ≤ j → j ≤ 1000 → i.natAbs < 2 ^ 64 → CPow i j := fun i j x y z => ⟨x, by omega, z⟩
  refine ⟨_, (pss_cons (ps_set (i := 2) sc_law_stir.nd rfl (by first | exact Or.inl rfl | exact Or.inr rfl) (pe_op op_add (pe_op op_add (pe_op op_mulB (pe_op op_mod (pv 0) (pe_op op_pow pe_int pe_int)) pe_int) (pe_op op_mulB (pe_op op_mulB (pe_op op_pow pe_int pe_int) (pe_op op_add (pv 1) pe_int)) (pe_op op_add (pv 1) pe_int))) (pv 1)))
    (pss_cons (ps_set (i := 2) sc_law_stir.nd rfl (by first | exact Or.inl rfl | exact Or.inr rfl) (pe_op op_add (pe_op op_mulB (pv 2) (pv 2)) (pe_op op_mulB pe_int (pv 2))))
    (pss_one (ps_ret (pe_op op_fdivB (pe_op op_mod (pe_op op_mulB (pv 2) (pv 2)) (pe_op op_add (pe_op op_pow pe_int pe_int) pe_int)) pe_int))))), ?_⟩
  refine ⟨_, rfl, 10, 40, rfl, rfl, pw 10 40 (by decide) (by decide) (by decide), c, _, rfl, rfl, (by decide +kernel : (0 : Int) < 10 ^ 40), _, _, rfl, rfl,
    ⟨big _ a1 (lt200 a2), by decide +kernel⟩, 3, 60, rfl, rfl, pw 3 60 (by decide) (by decide) (by decide), _, rfl, _, _, rfl, rfl, _, _, rfl, rfl,
    ⟨by decide +kernel, big _ (by omega) (Int.lt_of_le_of_lt (b := 1001) (by omega) (by decide +kernel))⟩, _, rfl, _, _, rfl, rfl, _, _, rfl, rfl,
    ⟨big _ b1.1 (Int.lt_of_le_of_lt b1.2 (by decide +kernel)), big _ (by omega) (Int.lt_of_le_of_lt (b := 1001) (by omega) (by decide +kernel))⟩, _, _, rfl, rfl, _, rfl, _, _, rfl, rfl, ?_⟩
  obtain ⟨n, hn⟩ : ∃ n, n = c % 10 ^ 40 * 48271 + 3 ^ 60 * (k + 1) * (k + 1) + k := ⟨_, rfl⟩
  rw [← hn] at s1 s2
  refine ⟨_, rfl, _, rfl, n, n, (by subst hn; rfl), (by subst hn; rfl), ⟨big _ s1.1 (lt200 s1.2), big _ s1.1 (lt200 s1.2)⟩, _, rfl, 69621, n, rfl, (by subst hn; rfl), ⟨by decide +kernel, big _ s1.1 (lt200 s1.2)⟩, _, _, rfl, rfl, ?_⟩
  obtain ⟨m, hm⟩ : ∃ m, m = n * n + 69621 * n := ⟨_, rfl⟩
  rw [← hm] at s2
  refine ⟨_, rfl, _, rfl, m, m, (by subst hm; rfl), (by subst hm; rfl), ⟨big _ s2.1 (lt200 s2.2), big _ s2.1 (lt200 s2.2)⟩, 10, 61, rfl, rfl, pw 10 61 (by decide) (by decide) (by decide), _, 7, rfl, rfl, m * m, 10 ^ 61 + 7, rfl, rfl, (show (0 : Int) < 10 ^ 61 + 7 by decide +kernel), _, 8, rfl, rfl, ⟨by decide, by decide +kernel⟩, ?_⟩
  have r1 : 0 ≤ m * m % (10 ^ 61 + 7) := Int.emod_nonneg _ (by decide +kernel)
  have r2 : m * m % (10 ^ 61 + 7) < 10 ^ 61 + 7 := Int.emod_lt_of_pos _ (by decide +kernel)
  have e : (10 : Int) ^ 61 ≥ 100 := by decide +kernel
  refine q _ ?_ ?_
  · generalize m * m % (10 ^ 61 + 7) = z at r1
    omega
  · generalize m * m % (10 ^ 61 + 7) = z at r1 r2 ⊢
    generalize (10 : Int) ^ 61 = y at *
    omega

theorem sc_law_deck : FnScope ["cell"] ["cell"] (defScope (top 29)) := ⟨rfl, rfl, rfl, by decide +kernel, rfl, by decide +kernel, by decide +kernel⟩
noncomputable def spDeck : Sp := fun vs H Q _ => ∃ c : Int, vs = [.int c] ∧ ∀ (r : Addr) (d : Int), H r = none → Q (.ref r) (upd H r (.lst [.int d]))
theorem ok_deck {f g : Addr} {fd gd : FuncData} (F : Fun K "_law_deck" "_law_deck" (top 29) f fd) (G_law_stir : FnOk P w K mg base CX0 1 g gd ["cell", "k"] spStir) (E_law_stir : FunE K mg "_law_stir" g gd ["cell", "k"]) :
    FnOk P w K mg base CX0 2 f fd ["cell"] spDeck := by
  refine F.ok sc_law_deck (fun vs H Q E h => ?_) (fun cdv A outer s H vs Q E hr h => ?_)
  · obtain ⟨c, rfl, _⟩ := h
    rfl
  obtain ⟨c, rfl, q⟩ := h
  have pw : ∀ i j : Int, 0 ≤ j → j ≤ 1000 → i.natAbs < 2 ^ 64 → CPow i j := fun i j x y z => ⟨x, by omega, z⟩
  have t60 : ((10 : Int) ^ (60 : Int).toNat).natAbs < 2 ^ 1000 := by decide +kernel
  refine ⟨_, (pss_cons (ps_if (pt_cmpR op_ge (pv 0) (pe_op op_pow pe_int pe_int) (nomark _)) (pss_one (ps_ret (pe_lst (pa_cons (pe_op op_sub (pv 0) (pe_op op_pow pe_int pe_int)) pa_nil)))) pss_nil)
    (pss_one (ps_ret (pe_lst (pa_cons (pe_op op_add (pe_op op_mulB (pe_op op_add (pe_op op_mulB (pe_call G_law_stir hr rfl E_law_stir.mg E_law_stir.kp E_law_stir.bd .nil pass0 (pa_cons (pv 0) (pa_cons pe_int pa_nil))) (pe_op op_pow pe_int pe_int)) (pe_call G_law_stir hr rfl E_law_stir.mg E_law_stir.kp E_law_stir.bd .nil pass0 (pa_cons (pv 0) (pa_cons pe_int pa_nil)))) (pe_op op_pow pe_int pe_int)) (pe_call G_law_stir hr rfl E_law_stir.mg E_law_stir.kp E_law_stir.bd .nil pass0 (pa_cons (pv 0) (pa_cons pe_int pa_nil)))) pa_nil))))), ?_⟩
  refine ⟨_, rfl, 10, 18, rfl, rfl, pw 10 18 (by decide) (by decide) (by decide), _, _, rfl, rfl, _, rfl, ?_⟩
  refine ite2 (fun c => ?_) (fun c => ?_)
  · exact ⟨_, rfl, 10, 18, rfl, rfl, pw 10 18 (by decide) (by decide) (by decide), _, _, rfl, rfl, (by show 1 ≤ sizeLine; decide), fun r hr' => q r _ hr'⟩
  · refine ⟨_, rfl, _, 1, rfl, by decide, by decide, fun x hx0 hx1 => ?_⟩
    have e1 : x.natAbs < 2 ^ 1000 := big _ hx0 (lt200 hx1)
    refine ⟨10, 60, rfl, rfl, pw 10 60 (by decide) (by decide) (by decide), _, _, rfl, rfl, ⟨e1, t60⟩, _, rfl, _, 2, rfl, by decide, by decide, fun y hy0 hy1 => ?_⟩
    refine ⟨_, _, rfl, rfl, 10, 60, rfl, rfl, pw 10 60 (by decide) (by decide) (by decide), _, _, rfl, rfl, ⟨?_, t60⟩, _, rfl, _, 3, rfl, by decide, by decide, fun z hz0 hz1 => ?_⟩
    · have b := mul_bd (a := x) (b := 10 ^ 60) (c := 10 ^ 61) (d := 10 ^ 60) hx0 (by decide +kernel) (Int.le_of_lt hx1) (Int.le_refl _)
      have e : (10 : Int) ^ 61 * 10 ^ 60 + 10 ^ 61 < 10 ^ 200 := by decide +kernel
      refine big _ ?_ ?_
      · show 0 ≤ x * 10 ^ 60 + y
        generalize x * 10 ^ 60 = u at *
        omega
      · show x * 10 ^ 60 + y < 10 ^ 200
        generalize x * 10 ^ 60 = u at *
        generalize (10 : Int) ^ 61 * 10 ^ 60 = v at *
        generalize (10 : Int) ^ 61 = v2 at *
        generalize (10 : Int) ^ 200 = v3 at *
        omega
    · exact ⟨_, _, rfl, rfl, (by show 1 ≤ sizeLine; decide), fun r hr' => q r _ hr'⟩

theorem sc_law_drawn : FnScope ["cell", "sizes", "found", "rest", "k"] ["cell", "sizes"] (defScope (top 28)) := ⟨rfl, rfl, rfl, by decide +kernel, rfl, by decide +kernel, by decide +kernel⟩
noncomputable def Below (xs szs : List Int) : Prop := ∀ (i : Nat) (x z : Int), xs[i]? = some x → szs[i]? = some z → 0 ≤ x ∧ x < z
noncomputable def spDrawn : Sp := fun vs H Q _ => ∃ (c : Int) (a : Addr) (szs : List Int), vs = [.int c, .ref a] ∧ H a = some (.lst (intsV szs)) ∧ szs.length ≤ 100 ∧ (∀ z ∈ szs, 0 < z ∧ z < 2 ^ 64) ∧
  ∀ (r : Addr) (xs : List Int), H r = none → xs.length = szs.length → Below xs szs → Q (.ref r) (upd H r (.lst (intsV xs)))
theorem below_snoc {xs szs : List Int} {x z : Int} (h : Below xs szs) (hz : szs[xs.length]? = some z) (h0 : 0 ≤ x) (h1 : x < z) : Below (xs ++ [x]) szs := fun i y u e1 e2 => by
  by_cases hi : i < xs.length
  · rw [List.getElem?_append_left hi] at e1
    exact h i y u e1 e2
  · by_cases he : i = xs.length
    · subst he
      rw [List.getElem?_append_right (Nat.le_refl _), Nat.sub_self] at e1
      have e1 : some x = some y := e1
      cases e1
      rw [hz] at e2
      cases e2
      exact ⟨h0, h1⟩
    · rw [List.getElem?_append_right (by omega)] at e1
      have : i - xs.length = (i - xs.length - 1) + 1 := by omega
      rw [this] at e1
      simp at e1
theorem at_int {ns : List Int} {k : Nat} {z : Int} (h : ns[k]? = some z) : atI (intsV ns) (k : Int) = some (.int z) := atI_nat (by rw [List.getElem?_map, h]; rfl)
theorem ok_drawn {f g : Addr} {fd gd : FuncData} (F : Fun K "_law_drawn" "_law_drawn" (top 28) f fd) (B : Bl mg) (G_law_stir : FnOk P w K mg base CX0 1 g gd ["cell", "k"] spStir) (E_law_stir : FunE K mg "_law_stir" g gd ["cell", "k"]) :
    FnOk P w K mg base CX0 2 f fd ["cell", "sizes"] spDrawn := by
  refine F.ok sc_law_drawn (fun vs H Q E h => ?_) (fun cdv A outer s H vs Q E hr h => ?_)
  · obtain ⟨c, a, szs, rfl, _⟩ := h
    rfl
  obtain ⟨c, a, szs, rfl, ha, hl, hz, q⟩ := h
  have pw : ∀ i j : Int, 0 ≤ j → j ≤ 1000 → i.natAbs < 2 ^ 64 → CPow i j := fun i j x y z => ⟨x, by omega, z⟩
  have hlen : (intsV szs).length = szs.length := List.length_map _
  refine ⟨_, (pss_cons (ps_set (i := 2) sc_law_drawn.nd rfl (by first | exact Or.inl rfl | exact Or.inr rfl) (pe_lst pa_nil))
    (pss_cons (ps_set (i := 3) sc_law_drawn.nd rfl (by first | exact Or.inl rfl | exact Or.inr rfl) (pe_op op_sub (pv 0) (pe_op op_pow pe_int pe_int)))
    (pss_cons (ps_for PassesOwn.never rfl (pi_range1 rfl B.range' (pa_cons (pe_callB (call_lenK (K := K)) rfl B.len' bt_len (pa_cons (pv 1) pa_nil)) pa_nil)) (pg_name (i := 4) sc_law_drawn.nd rfl (by first | exact Or.inl rfl | exact Or.inr rfl)) (pss_one (ps_if (pt_cmpR op_ge (pv 0) (pe_op op_pow pe_int pe_int) (nomark _)) (pss_cons (ps_expr (pe_bmK (K := K) PySem.F.plainAttrs_list PySem.F.slot_list_append PySem.F.type_list_append mt_append (pv 2) (pa_cons (pe_op op_mod (pv 3) (pe_ix (ix_listK (K := K)) (pv 1) (pv 4) (fun _ _ => rfl))) pa_nil)))
    (pss_one (ps_set (i := 3) sc_law_drawn.nd rfl (by first | exact Or.inl rfl | exact Or.inr rfl) (pe_op op_fdivB (pv 3) (pe_ix (ix_listK (K := K)) (pv 1) (pv 4) (fun _ _ => rfl)))))) (pss_one (ps_expr (pe_bmK (K := K) PySem.F.plainAttrs_list PySem.F.slot_list_append PySem.F.type_list_append mt_append (pv 2) (pa_cons (pe_op op_mod (pe_call G_law_stir hr rfl E_law_stir.mg E_law_stir.kp E_law_stir.bd .nil pass0 (pa_cons (pv 0) (pa_cons (pv 4) pa_nil))) (pe_ix (ix_listK (K := K)) (pv 1) (pv 4) (fun _ _ => rfl))) pa_nil)))))))
    (pss_one (ps_ret (pv 2)))))), ?_⟩
  refine ⟨(by show 0 ≤ sizeLine; decide), fun r hr' => ?_⟩
  have har : a ≠ r := ne_of_none ha hr'
  refine ⟨_, rfl, 10, 18, rfl, rfl, pw 10 18 (by decide) (by decide) (by decide), _, _, rfl, rfl, ?_⟩
  have e1 : upd H r (.lst []) a = some (.lst (intsV szs)) := by rw [upd_ne har]; exact ha
  refine ⟨_, rfl, a, _, rfl, .inl (SqL.of e1), _, rfl, by omega, by omega, ?_⟩
  refine for_range (fun i σ' H' => ∃ (xs : List Int) (re : Int) (z : Option V), σ' = [some (.int c), some (.ref a), some (.ref r), some (.int re), z] ∧ H' = upd H r (.lst (intsV xs)) ∧ xs.length = i ∧ Below xs szs)
    ⟨[], _, none, rfl, rfl, rfl, fun i x z e => by simp at e⟩ ?_ ?_
  · rintro i σ' H' hi ⟨xs, re, zz, rfl, rfl, hxi, hb⟩
    have hi : i < szs.length := by
      have : (((intsV szs).length : Nat) : Int).toNat = szs.length := by rw [hlen]; omega
      rw [this] at hi
      exact hi
    subst hxi
    obtain ⟨z, ez⟩ : ∃ z, szs[xs.length]? = some z := ⟨_, List.getElem?_eq_getElem hi⟩
    have hz' := hz z (List.mem_of_getElem? ez)
    have hz1 : z.natAbs < 2 ^ 1000 := big _ (by omega) (Int.lt_trans hz'.2 (by decide +kernel))
    have e0 : (0 : Int) + (xs.length : Int) = (xs.length : Int) := Int.zero_add _
    have ea : upd H r (.lst (intsV xs)) a = some (.lst (intsV szs)) := by rw [upd_ne har]; exact ha
    have at0 : atI (intsV szs) (0 + (xs.length : Int)) = some (.int z) := by rw [e0]; exact at_int ez
    have fin : ∀ x : Int, 0 ≤ x → x < z → ∀ re' : Int, ∃ (ys : List Int) (re : Int) (zz : Option V), [some (V.int c), some (.ref a), some (.ref r), some (.int re'), some (.int (0 + (xs.length : Int)))] = [some (V.int c), some (.ref a), some (.ref r), some (.int re), zz] ∧
        upd (upd H r (.lst (intsV xs))) r (.lst (intsV xs ++ [.int x])) = upd H r (.lst (intsV ys)) ∧ ys.length = xs.length + 1 ∧ Below ys szs := fun x h0 h1 re' =>
      ⟨xs ++ [x], re', _, rfl, by rw [upd_upd, intsV_snoc], by simp, below_snoc hb ez h0 h1⟩
    have hsz : (intsV xs).length < sizeLine := by rw [intsV_len]; exact small (by omega)
    refine ⟨_, rfl, 10, 18, rfl, rfl, pw 10 18 (by decide) (by decide) (by decide), _, _, rfl, rfl, _, rfl, ?_⟩
    refine ite2 (fun _ => ?_) (fun _ => ?_)
    · refine ⟨_, rfl, .inl ⟨rfl, _, SqL.of upd_same⟩, _, rfl, _, rfl, _, rfl, a, _, _, _, rfl, rfl, SqL.of ea, at0, _, _, rfl, rfl, hz'.1, r, _, _, rfl, rfl, upd_same, hsz, ?_⟩
      have ea2 : upd (upd H r (.lst (intsV xs))) r (.lst (intsV xs ++ [.int (re % z)])) a = some (.lst (intsV szs)) := by rw [upd_ne har, upd_ne har]; exact ha
      refine ⟨_, rfl, _, rfl, _, rfl, a, _, _, _, rfl, rfl, SqL.of ea2, at0, _, _, rfl, rfl, ⟨hz'.1, hz1⟩, ?_⟩
      exact fin _ (Int.emod_nonneg _ (by omega)) (Int.emod_lt_of_pos _ hz'.1) _
    · refine ⟨_, rfl, .inl ⟨rfl, _, SqL.of upd_same⟩, _, rfl, _, rfl, c, 0 + (xs.length : Int), rfl, by omega, by omega, fun x hx0 hx1 => ?_⟩
      refine ⟨_, rfl, _, rfl, a, _, _, _, rfl, rfl, SqL.of ea, at0, _, _, rfl, rfl, hz'.1, r, _, _, rfl, rfl, upd_same, hsz, ?_⟩
      exact fin _ (Int.emod_nonneg _ (by omega)) (Int.emod_lt_of_pos _ hz'.1) _
  · rintro σ' H' ⟨xs, re, zz, rfl, rfl, hxi, hb⟩
    have : (((intsV szs).length : Nat) : Int).toNat = szs.length := by rw [hlen]; omega
    rw [this] at hxi
    exact ⟨_, rfl, q r xs hr' hxi hb⟩
theorem for_rangeN {lo : Int} {n : Nat} {g : TG} {tb : TS} {D : Ends} {σ : St} {H : Hp} (Pv : Nat → St → Hp → Prop) (h0 : Pv 0 σ H)
    (hs : ∀ (N : St → Hp → Prop) (rt : VK) (bk : St → Hp → Prop) i σ H, i < n → Pv i σ H → (∀ σ H, Pv (i + 1) σ H → N σ H) → g (.int (lo + i)) σ H fun σ2 H2 => tb ⟨N, rt, bk, N⟩ σ2 H2) (hd : ∀ σ H, Pv n σ H → D.nx σ H) :
    ∃ W : Nat → Nat → St → Hp → Prop, (∃ m, W 0 m σ H) ∧ ∀ i m σ H, W i m σ H →
      ((Itr lo n).stop i H ∧ D.nx σ H) ∨ ((Itr lo n).go i H ∧ ∃ N : St → Hp → Prop, (∀ σ' H', N σ' H' → ∃ m', m' < m ∧ W (i + 1) m' σ' H') ∧ ∀ x H', (Itr lo n).yld i H x H' → g x σ H' fun σ2 H2 => tb { D with nx := N, ct := N, bk := D.nx } σ2 H2) :=
  for_range Pv h0 (fun i σ H e p => hs _ _ _ i σ H e p fun _ _ z => z) hd

theorem sc_law_unlike : FnScope ["number", "many", "letters", "pad", "size", "at", "first", "found", "k", "sign"] ["number", "many"] (defScope (top 31)) := ⟨rfl, rfl, rfl, by decide +kernel, rfl, by decide +kernel, by decide +kernel⟩
noncomputable def abc : List Nat := ("abcdefghijklmnopqrstuvwxyz" : Str).cps.toList
noncomputable def letter (i : Int) : Nat := abc.getD i.toNat 0
theorem abc_len : abc.length = 26 := by decide +kernel
theorem letters_at {i : Int} (h0 : 0 ≤ i) (h1 : i < 26) : atI ("abcdefghijklmnopqrstuvwxyz" : Str).cps.toList i = some (letter i) := by
  have e : i = ((i.toNat : Nat) : Int) := by omega
  have hk : i.toNat < abc.length := by rw [abc_len]; omega
  have z : atI abc ((i.toNat : Nat) : Int) = some (letter i) := atI_nat (by unfold letter; rw [List.getD_eq_getElem?_getD, List.getElem?_eq_getElem hk]; rfl)
  rw [← e] at z
  exact z
noncomputable def wordOf (c : Nat) (a r : Int) (k : Nat) : Str := Txt.mul ⟨#[c]⟩ a ++ ⟨#[k]⟩ ++ Txt.mul ⟨#[c]⟩ r
theorem fold_codes (c : Nat) : ∀ (k : Nat) (acc : Array Nat), ((List.replicate k #[c]).foldl (· ++ ·) acc).toList = acc.toList ++ List.replicate k c
  | 0, acc => by simp
  | k + 1, acc => by
    rw [List.replicate_succ, List.foldl_cons, fold_codes c k, Array.toList_append, List.append_assoc, List.replicate_succ]
    rfl
theorem mul_codes (c : Nat) (n : Int) : (Txt.mul ⟨#[c]⟩ n).cps.toList = List.replicate n.toNat c := by
  unfold Txt.mul
  split
  · have : n.toNat = 0 := by omega
    rw [this]; rfl
  · split
    · rename_i h1 h2
      have h3 : (n == 1) = true := by
        rw [Bool.or_eq_true] at h2
        rcases h2 with h | h
        · exact h
        · exact absurd (show ((1 : Nat) == 0) = true from h) (by decide)
      have : n = 1 := eq_of_beq h3
      subst this; rfl
    · rw [fold_codes]; rfl
theorem word_codes (c : Nat) (a r : Int) (k : Nat) : (wordOf c a r k).cps.toList = List.replicate a.toNat c ++ k :: List.replicate r.toNat c := by
  show ((Txt.mul ⟨#[c]⟩ a).cps ++ #[k] ++ (Txt.mul ⟨#[c]⟩ r).cps).toList = _
  rw [Array.toList_append, Array.toList_append, mul_codes, mul_codes]
  simp
structure Word (x : Str) : Prop where
  lo : 1 ≤ x.length
  hi : x.length ≤ 8
  abc : ∀ c ∈ x.cps.toList, c ∈ abc
theorem atI_mem {i : Int} {c : Nat} (h : atI ("abcdefghijklmnopqrstuvwxyz" : Str).cps.toList i = some c) : c ∈ abc := by
  obtain ⟨j, _, e⟩ := Option.bind_eq_some_iff.mp h
  exact List.mem_of_getElem? e
noncomputable def spUnlike : Sp := fun vs H Q _ => ∃ n m : Int, vs = [.int n, .int m] ∧ 0 ≤ n ∧ 0 ≤ m ∧ m ≤ 26 ∧
  ∀ (r : Addr) (ws : List Str), H r = none → ws.length = m.toNat → (∀ x ∈ ws, Word x) → Q (.ref r) (upd H r (.lst (strsV ws)))
theorem letters_len : ("abcdefghijklmnopqrstuvwxyz" : Str).length ≤ sizeLine := by decide +kernel
theorem len_app (x y : Str) : (x ++ y).length = x.length + y.length := by
  show (x.cps ++ y.cps).size = _
  rw [Array.size_append]; rfl
theorem ok_unlike {f : Addr} {fd : FuncData} (F : Fun K "_law_unlike" "_law_unlike" (top 31) f fd) (B : Bl mg) : FnOk P w K mg base CX0 1 f fd ["number", "many"] spUnlike := by
  refine F.ok sc_law_unlike (fun vs H Q E h => ?_) (fun cdv A outer s H vs Q E hr h => ?_)
  · obtain ⟨n, m, rfl, _⟩ := h
    rfl
  obtain ⟨n, m, rfl, hn, hm0, hm1, q⟩ := h
  have z26 : (0 : Int) < 26 := by decide
  obtain ⟨c1, ec1⟩ : ∃ c, atI ("abcdefghijklmnopqrstuvwxyz" : Str).cps.toList (n % 26) = some c := ⟨_, letters_at (Int.emod_nonneg n (by decide)) (Int.emod_lt_of_pos n z26)⟩
  have d26 : 0 ≤ n / 26 := Int.ediv_nonneg hn (by decide)
  have s0 := Int.emod_nonneg (n / 26) (b := 8) (by decide)
  have s1 := Int.emod_lt_of_pos (n / 26) (b := 8) (by decide)
  refine ⟨_, (pss_cons (ps_set (i := 2) sc_law_unlike.nd rfl (by first | exact Or.inl rfl | exact Or.inr rfl) pe_str)
    (pss_cons (ps_set (i := 3) sc_law_unlike.nd rfl (by first | exact Or.inl rfl | exact Or.inr rfl) (pe_ix ix_str (pv 2) (pe_op op_mod (pv 0) pe_int) (fun _ _ => rfl)))
    (pss_cons (ps_set (i := 4) sc_law_unlike.nd rfl (by first | exact Or.inl rfl | exact Or.inr rfl) (pe_op op_add pe_int (pe_op op_mod (pe_op op_fdivB (pv 0) pe_int) pe_int)))
    (pss_cons (ps_set (i := 5) sc_law_unlike.nd rfl (by first | exact Or.inl rfl | exact Or.inr rfl) (pe_op op_mod (pe_op op_fdivB (pv 0) pe_int) (pv 4)))
    (pss_cons (ps_set (i := 6) sc_law_unlike.nd rfl (by first | exact Or.inl rfl | exact Or.inr rfl) (pe_op op_mod (pe_op op_fdivB (pv 0) pe_int) pe_int))
    (pss_cons (ps_set (i := 7) sc_law_unlike.nd rfl (by first | exact Or.inl rfl | exact Or.inr rfl) (pe_lst pa_nil))
    (pss_cons (ps_for PassesOwn.never rfl (pi_range1 rfl B.range' (pa_cons (pv 1) pa_nil)) (pg_name (i := 8) sc_law_unlike.nd rfl (by first | exact Or.inl rfl | exact Or.inr rfl)) (pss_cons (ps_set (i := 9) sc_law_unlike.nd rfl (by first | exact Or.inl rfl | exact Or.inr rfl) (pe_ix ix_str (pv 2) (pe_op op_mod (pe_op op_add (pv 6) (pe_op op_mulB pe_int (pv 8))) pe_int) (fun _ _ => rfl)))
    (pss_one (ps_expr (pe_bmK (K := K) PySem.F.plainAttrs_list PySem.F.slot_list_append PySem.F.type_list_append mt_append (pv 7) (pa_cons (pe_op op_add_str (pe_op op_add_str (pe_op op_repS (pv 3) (pv 5)) (pv 9)) (pe_op op_repS (pv 3) (pe_op op_sub (pe_op op_sub (pv 4) (pv 5)) pe_int))) pa_nil))))))
    (pss_one (ps_ret (pv 7)))))))))), ?_⟩
  refine ⟨_, rfl, _, rfl, _, 26, rfl, rfl, z26, _, _, c1, rfl, rfl, letters_len, ec1, ?_⟩
  refine ⟨_, rfl, _, 26, rfl, rfl, ⟨z26, by decide +kernel⟩, _, 8, rfl, rfl, (by decide : (0 : Int) < 8), 1, _, rfl, rfl, ?_⟩
  obtain ⟨sz, hsz⟩ : ∃ sz, sz = n / 26 % 8 := ⟨_, rfl⟩
  rw [← hsz] at s0 s1
  have t0 : 0 < 1 + sz := by omega
  refine ⟨_, rfl, _, 208, rfl, rfl, ⟨by decide, by decide +kernel⟩, _, rfl, _, 1 + sz, rfl, (by subst hsz; rfl), t0, ?_⟩
  obtain ⟨at', hat⟩ : ∃ a, a = n / 208 % (1 + sz) := ⟨_, rfl⟩
  have a0 : 0 ≤ at' := by rw [hat]; exact Int.emod_nonneg _ (by omega)
  have a1 : at' < 1 + sz := by rw [hat]; exact Int.emod_lt_of_pos _ t0
  refine ⟨_, rfl, _, 1664, rfl, rfl, ⟨by decide, by decide +kernel⟩, _, 26, rfl, rfl, z26, ?_⟩
  obtain ⟨fi, hfi⟩ : ∃ a, a = n / 1664 % 26 := ⟨_, rfl⟩
  have f0 : 0 ≤ fi := by rw [hfi]; exact Int.emod_nonneg _ (by decide)
  have f1 : fi < 26 := by rw [hfi]; exact Int.emod_lt_of_pos _ z26
  refine ⟨(by show 0 ≤ sizeLine; decide), fun r hr' => ?_⟩
  refine ⟨_, rfl, m, rfl, by omega, by omega, ?_⟩
  have cm : c1 ∈ abc := atI_mem ec1
  refine for_rangeN (fun i σ' H' => ∃ (ws : List Str) (z1 z2 : Option V), σ' = [some (.int n), some (.int m), some (.str "abcdefghijklmnopqrstuvwxyz"), some (.str ⟨#[c1]⟩), some (.int (1 + sz)), some (.int at'), some (.int fi), some (.ref r), z1, z2] ∧ H' = upd H r (.lst (strsV ws)) ∧ ws.length = i ∧ ∀ x ∈ ws, Word x)
    ⟨[], none, none, (by subst hfi hat hsz; rfl), rfl, rfl, fun x hx => nomatch hx⟩ ?_ ?_
  · rintro N rt bk i σ' H' hi ⟨ws, z1, z2, rfl, rfl, hw, hx⟩ hN
    have i100 : i < 26 := by omega
    have m0 := fun j : Nat => Int.emod_nonneg (fi + 3 * (0 + (j : Int))) (b := 26) (by decide)
    have m1 := fun j : Nat => Int.emod_lt_of_pos (fi + 3 * (0 + (j : Int))) z26
    obtain ⟨c2, hc2⟩ : ∃ c, c = letter ((fi + 3 * (0 + (i : Int))) % 26) := ⟨_, rfl⟩
    have ec2 := letters_at (m0 i) (m1 i)
    rw [← hc2] at ec2
    have cm2 : c2 ∈ abc := atI_mem ec2
    refine ⟨_, rfl, _, rfl, _, rfl, 3, _, rfl, rfl, ⟨by decide +kernel, big _ (by omega) (Int.lt_of_le_of_lt (b := 100) (by omega) (by decide +kernel))⟩, _, _, rfl, rfl, _, 26, rfl, rfl, z26, _, _, c2, rfl, rfl, letters_len, ec2, ?_⟩
    have l1 : (⟨#[c1]⟩ : Str).length = 1 := rfl
    have l2 : (⟨#[c2]⟩ : Str).length = 1 := rfl
    have m1 := mul_len ⟨#[c1]⟩ at'
    have m2 := mul_len ⟨#[c1]⟩ (1 + sz - at' - 1)
    rw [l1] at m1 m2
    have k1 : (Txt.mul ⟨#[c1]⟩ at').length ≤ 8 := by omega
    have k2 : (Txt.mul ⟨#[c1]⟩ (1 + sz - at' - 1)).length ≤ 8 := by omega
    have wc := word_codes c1 at' (1 + sz - at' - 1) c2
    have wl : (wordOf c1 at' (1 + sz - at' - 1) c2).length = at'.toNat + 1 + (1 + sz - at' - 1).toNat := by rw [len_codes, wc]; simp; omega
    have ww : Word (wordOf c1 at' (1 + sz - at' - 1) c2) := ⟨by omega, by omega, fun c hc => by
      rw [wc] at hc
      rcases List.mem_append.mp hc with h | h
      · rw [(List.mem_replicate.mp h).2]; exact cm
      · rcases List.mem_cons.mp h with h | h
        · rw [h]; exact cm2
        · rw [(List.mem_replicate.mp h).2]; exact cm⟩
    refine ⟨_, rfl, .inl ⟨rfl, _, SqL.of upd_same⟩, _, rfl, _, rfl, _, _, rfl, rfl, by omega, by omega, by rw [l1]; decide, _, rfl, _, _, rfl, rfl, by rw [l2]; exact smallE (by omega), _, rfl, _, rfl, _, rfl, _, _, rfl, rfl, _, 1, rfl, rfl, _, _, rfl, rfl, by omega, by omega, by rw [l1]; decide, _, _, rfl, rfl, ?_, ?_⟩
    · rw [len_app, l2]; exact smallE (by omega)
    · refine ⟨r, _, _, rfl, rfl, upd_same, by rw [strsV_len]; exact small (by omega), ?_⟩
      refine hN _ _ ⟨ws ++ [wordOf c1 at' (1 + sz - at' - 1) c2], _, _, rfl, by rw [upd_upd, strsV_snoc]; rfl, by simp [hw], fun x hx' => ?_⟩
      rcases List.mem_append.mp hx' with h | h
      · exact hx x h
      · rw [List.mem_singleton.mp h]; exact ww
  · rintro σ' H' ⟨ws, z1, z2, rfl, rfl, hw, hx⟩
    exact ⟨_, rfl, q r ws hr' hw hx⟩

theorem line_le {n : Nat} (h : n ≤ 1000000) : n ≤ sizeLine := by rw [show sizeLine = 16777216 by decide]; omega
theorem log_lt {n : Nat} (h : n < 10 ^ 100) : n.log2 < 1920 := by
  by_cases z : n = 0
  · rw [z]; decide
  · exact (Nat.log2_lt z).mpr (Nat.lt_trans h (by decide +kernel))
inductive BadNum (y : Str) : Prop
  | nil (h : y.length = 0)
  | sign (c : Nat) (h : c ∈ y.cps.toList) (n : c ∉ (Str.ofString "0123456789").cps.toList)
  | zero (h : ∀ c ∈ y.cps.toList, c ∈ (Str.ofString "0123456789").cps.toList) (z : y.cps.toList.head? = some 48) (n : y ≠ Str.ofString "0")
inductive BadWorth (s : Str) : Prop
  | num (h : ¬ (s.cps.toList.head? = some 45)) (b : BadNum s)
  | neg (t : Str) (e : s = ⟨#[45]⟩ ++ t) (b : BadNum t)
  | zero (e : s = ⟨#[45]⟩ ++ dec 0)
inductive BadSides (ws : List Str) : Prop
  | len (h : ws.length ≠ 2)
  | worth (s t : Str) (e : ws = [s, t]) (b : BadWorth s)
  | num (i : Int) (t : Str) (e : ws = [numS i, t]) (hi : i.natAbs < 200) (b : BadNum t)
theorem sc_refuse_unless : FnScope ["fits", "reason"] ["fits", "reason"] (defScope (top 19)) := ⟨rfl, rfl, rfl, by decide +kernel, rfl, by decide +kernel, by decide +kernel⟩
noncomputable def spUnless (C : Addr) : Sp := fun vs H Q E => ∃ (b : Bool) (r : Str), vs = [.bl b, .str r] ∧ ((b = true ∧ Q .non H) ∨ (b = false ∧ E (.ref C) none H))
theorem dx_unless {C : Addr} (F : Fd K mg "refuse_unless" (top 19) ["fits", "reason"]) (O_NoText : PyProof.Rows.OwnCls "NoText" C bmV "ValueError.__new__" mg base) : Dx P w K mg base "refuse_unless" 1 ["fits", "reason"] (spUnless C) := by
  refine F.okx sc_refuse_unless (fun vs H Q E h => ?_) (fun f cdv A outer s H vs Q E hr h => ?_)
  · obtain ⟨_, _, rfl, _⟩ := h
    rfl
  obtain ⟨b, r, rfl, h⟩ := h
  refine ⟨_, (pss_one (ps_if (pt_not (pt_val (pv 0))) (pss_one (ps_raise O_NoText (pa_cons (pv 1) pa_nil))) pss_nil)), ?_⟩
  rcases h with ⟨rfl, q⟩ | ⟨rfl, q⟩
  · wtm_at "zw"
    exact q
  · wtm_at "zw"
    exact ⟨_, rfl, line_le (show 1 ≤ 1000000 by decide), q⟩
theorem sc_is_word : FnScope ["text"] ["text"] (defScope (top 18)) := ⟨rfl, rfl, rfl, by decide +kernel, rfl, by decide +kernel, by decide +kernel⟩
theorem co_is_word1 : CompOk (defScope (top 18)) ["text"] (scAt (defBody (top 18)) [0] [2, 1]) ["sign"] 1 [] :=
  ⟨by decide +kernel, by decide +kernel, by decide +kernel, by decide +kernel, by decide +kernel, by decide +kernel, by decide +kernel, by decide +kernel⟩
noncomputable def spWord : Sp := fun vs H Q _ => ∃ x : Str, vs = [.str x] ∧ x.length ≤ 10000 ∧ ((Word x ∧ ∀ H', Same H H' → Q (.bl true) H') ∨ (¬ Word x ∧ ∀ H', Same H H' → Q (.bl false) H'))
theorem dn_word (F : Fd K mg "is_word" (top 18) ["text"]) (B : Bl mg) (B_all : mg "all" = none) (GL_LETTERS : Gt mg "LETTERS" "abcdefghijklmnopqrstuvwxyz") (GL_MOST_LETTERS : Gi mg "MOST_LETTERS" 8) : Dn P w K mg base "is_word" 1 ["text"] spWord := by
  refine F.ok sc_is_word (fun vs H Q E h => ?_) (fun f cdv A outer s H vs Q E hr h => ?_)
  · obtain ⟨_, rfl, _⟩ := h
    rfl
  obtain ⟨x, rfl, lx, hx⟩ := h
  refine ⟨_, (pss_one (ps_ret (pe_and (pe_cmpR op_ne (pv 0) pe_str (nomark _)) (pe_and (pe_cmpR op_le (pe_callB call_len_str rfl B.len' bt_len (pa_cons (pv 0) pa_nil)) (pe_gi GL_MOST_LETTERS) (nomark _)) (pe_one (pe_callB (call_allK (K := K) rfl) rfl B_all bt_all (pa_cons (pe_comp rfl co_is_word1 (pi_str (pv 0)) (fun cl fp s H => (pg_name (i := 0) co_is_word1.nd rfl (Or.inl rfl) (.inr rfl))) (fun cl fp s H => pts_nil) (fun cl fp s H => (pe_cmpR op_in_str (pv 0) (pe_gt GL_LETTERS) (by with_unfolding_all rfl)))) pa_nil))))))), ?_⟩
  wtm_at "zw"
  by_cases n0 : 1 ≤ x.length
  · rw [decide_eq_false (ne_none n0)]
    refine iteNF ?_
    wtm_at "zw"
    refine ⟨x, rfl, line_le (by omega), ?_⟩
    wtm_at "zw"
    by_cases n8 : x.length ≤ 8
    · rw [decide_eq_true (show ((x.length : Nat) : Int) ≤ 8 by omega)]
      refine iteT ?_
      wtm_at "zf"
      refine ⟨x, rfl, comp_inB (K := K) lx fun D H2 S e => ?_⟩
      wtm_at "zw"
      refine ⟨D, _, rfl, SqL.of e, ?_⟩
      rcases hx with ⟨wx, q⟩ | ⟨wx, q⟩
      · rw [all_in.mpr (show ∀ c ∈ x.cps.toList, c ∈ (Str.ofString "abcdefghijklmnopqrstuvwxyz").cps.toList from wx.abc)]
        exact q H2 S
      · have : (x.cps.toList.map fun c => decide (c ∈ (Str.ofString "abcdefghijklmnopqrstuvwxyz").cps.toList)).all id = false := by
          rw [← Bool.not_eq_true, all_in]
          exact fun z => wx ⟨n0, n8, z⟩
        rw [this]
        exact q H2 S
    · rw [decide_eq_false (show ¬ (((x.length : Nat) : Int) ≤ 8) by omega)]
      refine iteF ?_
      rcases hx with ⟨wx, q⟩ | ⟨wx, q⟩
      · exact absurd wx.hi n8
      · exact q H (Same.refl _)
  · have e : V.str x = V.str (Str.ofString "") := congrArg V.str (str_ext (by
      rw [c_none]
      exact List.length_eq_zero_iff.mp (by rw [← len_codes]; omega)))
    rw [decide_eq_true e]
    refine iteNT ?_
    rcases hx with ⟨wx, q⟩ | ⟨wx, q⟩
    · exact absurd wx.lo n0
    · exact q H (Same.refl _)
theorem sc_read_name : FnScope ["word"] ["word"] (defScope (top 22)) := ⟨rfl, rfl, rfl, by decide +kernel, rfl, by decide +kernel, by decide +kernel⟩
noncomputable def spName (C : Addr) : Sp := fun vs H Q E => ∃ x : Str, vs = [.str x] ∧ x.length ≤ 10000 ∧ ((Word x ∧ ∀ H', Same H H' → Q (.str x) H') ∨ (¬ Word x ∧ ∀ H', Same H H' → E (.ref C) none H'))
theorem dx_name {C : Addr} (F : Fd K mg "read_name" (top 22) ["word"]) (D_is_word : Dn P w K mg base "is_word" 1 ["text"] spWord) (X_refuse_unless : Dx P w K mg base "refuse_unless" 1 ["fits", "reason"] (spUnless C)) : Dx P w K mg base "read_name" 2 ["word"] (spName C) := by
  refine F.okx sc_read_name (fun vs H Q E h => ?_) (fun f cdv A outer s H vs Q E hr h => ?_)
  · obtain ⟨_, rfl, _⟩ := h
    rfl
  obtain ⟨x, rfl, lx, hx⟩ := h
  refine ⟨_, (pss_cons (ps_expr (pe_callX X_refuse_unless hr (pa_cons (pe_callD D_is_word hr (pa_cons (pv 0) pa_nil)) (pa_cons pe_str pa_nil))))
    (pss_one (ps_ret (pv 0)))), ?_⟩
  wtm_at "zw"
  rcases hx with ⟨wx, q⟩ | ⟨wx, q⟩
  · refine ⟨x, rfl, lx, .inl ⟨wx, fun H' S => ?_⟩⟩
    wtm_at "zw"
    refine ⟨_, _, rfl, .inl ⟨rfl, ?_⟩⟩
    wtm_at "zw"
    exact q H' S
  · refine ⟨x, rfl, lx, .inr ⟨wx, fun H' S => ?_⟩⟩
    wtm_at "zw"
    exact ⟨_, _, rfl, .inr ⟨rfl, q H' S⟩⟩
theorem sc_read_number : FnScope ["figures", "first", "number", "start"] ["figures"] (defScope (top 24)) := ⟨rfl, rfl, rfl, by decide +kernel, rfl, by decide +kernel, by decide +kernel⟩
theorem co_read_number1 : CompOk (defScope (top 24)) ["figures", "first", "number", "start"] (scAt (defBody (top 24)) [0] [1, 1, 1]) ["sign"] 1 [] :=
  ⟨by decide +kernel, by decide +kernel, by decide +kernel, by decide +kernel, by decide +kernel, by decide +kernel, by decide +kernel, by decide +kernel⟩
noncomputable def spRNum (C : Addr) : Sp := fun vs H Q E => ∃ y : Str, vs = [.str y] ∧ y.length ≤ 10000 ∧ ((∃ n : Nat, y = dec n ∧ n < 200 ∧ ∀ H', Same H H' → Q (.int n) H') ∨ (BadNum y ∧ ∀ H', Same H H' → E (.ref C) none H'))
theorem dx_rnum {C : Addr} (F : Fd K mg "read_number" (top 24) ["figures"]) (B : Bl mg) (B_all : mg "all" = none) (GL_FIGURES : Gt mg "FIGURES" "0123456789") (GL_FIGURES_OF_A_BLOCK : Gi mg "FIGURES_OF_A_BLOCK" 18)
    (X_refuse_unless : Dx P w K mg base "refuse_unless" 1 ["fits", "reason"] (spUnless C)) : Dx P w K mg base "read_number" 2 ["figures"] (spRNum C) := by
  refine F.okx sc_read_number (fun vs H Q E h => ?_) (fun f cdv A outer s H vs Q E hr h => ?_)
  · obtain ⟨_, rfl, _⟩ := h
    rfl
  obtain ⟨y, rfl, ly, h⟩ := h
  refine ⟨_, (pss_cons (ps_expr (pe_callX X_refuse_unless hr (pa_cons (pe_and (pe_cmpR op_ne (pv 0) pe_str (nomark _)) (pe_one (pe_callB (call_allK (K := K) rfl) rfl B_all bt_all (pa_cons (pe_comp rfl co_read_number1 (pi_str (pv 0)) (fun cl fp s H => (pg_name (i := 0) co_read_number1.nd rfl (Or.inl rfl) (.inr rfl))) (fun cl fp s H => pts_nil) (fun cl fp s H => (pe_cmpR op_in_str (pv 0) (pe_gt GL_FIGURES) (by with_unfolding_all rfl)))) pa_nil)))) (pa_cons pe_str pa_nil))))
    (pss_cons (ps_expr (pe_callX X_refuse_unless hr (pa_cons (pe_or (pe_cmpR op_eq (pv 0) pe_str (nomark _)) (pe_one (pe_not (pe_bmK (K := K) PySem.F.plainAttrs_str PySem.F.slot_str_startswith PySem.F.type_str_startswith mt_startswith (pv 0) (pa_cons pe_str pa_nil))))) (pa_cons pe_str pa_nil))))
    (pss_cons (ps_set (i := 1) sc_read_number.nd rfl (by first | exact Or.inl rfl | exact Or.inr rfl) (pe_op op_mod (pe_callB call_len_str rfl B.len' bt_len (pa_cons (pv 0) pa_nil)) (pe_gi GL_FIGURES_OF_A_BLOCK)))
    (pss_cons (ps_set (i := 2) sc_read_number.nd rfl (by first | exact Or.inl rfl | exact Or.inr rfl) (pe_callTy call_intT rfl B.int' bt_int (pa_cons (pe_op op_add_str pe_str (pe_slice sl_str (pv 0) po_none (po_some (pv 1)))) pa_nil)))
    (pss_cons (ps_for PassesOwn.leaving rfl (pi_range3N rfl B.range' (pa_cons (pv 1) (pa_cons (pe_callB call_len_str rfl B.len' bt_len (pa_cons (pv 0) pa_nil)) (pa_cons (pe_gi GL_FIGURES_OF_A_BLOCK) pa_nil)))) (pg_name (i := 3) sc_read_number.nd rfl (by first | exact Or.inl rfl | exact Or.inr rfl)) (pss_one ps_never))
    (pss_one (ps_ret (pv 2)))))))), ?_⟩
  wtm_at "zw"
  rcases h with ⟨n, rfl, hn, q⟩ | ⟨bad, q⟩
  · have fg := figs hn
    rw [decide_eq_false (ne_none fg.lo)]
    refine iteNF ?_
    wtm_at "zf"
    refine ⟨_, rfl, comp_in (K := K) (fun c hc => ?_) (by have := fg.hi; omega) fun D H2 S e => ?_⟩
    · have := fg.fig c hc
      rw [c_figs]
      simp only [List.mem_cons, List.not_mem_nil, or_false]
      omega
    wtm_at "zw"
    refine ⟨D, _, rfl, SqL.of e, ?_⟩
    rw [all_rep]
    wtm_at "zw"
    refine ⟨_, _, rfl, .inl ⟨rfl, ?_⟩⟩
    wtm_at "zw"
    have z0 : ¬ (V.str (dec n) = V.str (Str.ofString "0")) → Txt.startswith (dec n) (Str.ofString "0") = false := fun hc => by
      rw [c_zero, starts_sign]
      refine decide_eq_false fun z => ?_
      rcases fg.zero with h | h
      · exact hc (by rw [c_zero]; exact congrArg V.str (str_ext h))
      · exact h z
    have m18 : ((dec n).length : Int) % 18 = ((dec n).length : Int) := Int.emod_eq_of_lt (by omega) (by have := fg.hi; omega)
    by_cases hc : V.str (dec n) = V.str (Str.ofString "0")
    case' pos =>
      rw [decide_eq_true hc]
      refine iteT ?_
    case' neg =>
      rw [decide_eq_false hc]
      refine iteF ?_
      wtm_at "zw"
      rw [z0 hc]
    all_goals
      wtm_at "zw"
      refine ⟨_, _, rfl, .inl ⟨rfl, ?_⟩⟩
      wtm_at "zw"
      refine ⟨_, rfl, line_le (by have := fg.hi; omega), ?_⟩
      wtm_at "zw"
      refine w_I (show (0 : Int) < 18 by decide) ?_
      wtm_at "zw"
      rw [m18]
      refine ⟨_, rfl, (by have := fg.hi; omega), ?_⟩
      rw [slice_all]
      wtm_at "zw"
      refine ⟨_, _, rfl, rfl, line_le (by rw [c_zero]; have := fg.hi; show 1 + (dec n).length ≤ 1000000; omega), ?_⟩
      wtm_at "zw"
      refine ⟨_, (n : Int), rfl, (by rw [c_zero]; exact fg.reads), (by rw [len_app, c_zero]; have := fg.hi; show 1 + (dec n).length ≤ 640; omega), ?_⟩
      wtm_at "zf"
      refine ⟨_, rfl, line_le (by have := fg.hi; omega), ?_⟩
      wtm_at "zw"
      refine ⟨_, _, _, rfl, by decide, by decide, by omega, by omega, (by have := fg.hi; omega), for_none ?_⟩
      wtm_at "zw"
      exact q _ S
  · by_cases n0 : 1 ≤ y.length
    · rw [decide_eq_false (ne_none n0)]
      refine iteNF ?_
      wtm_at "zf"
      refine ⟨_, rfl, comp_inB (K := K) ly fun D H2 S e => ?_⟩
      wtm_at "zw"
      refine ⟨D, _, rfl, SqL.of e, ?_⟩
      cases bad with
      | nil h => omega
      | sign c h n =>
        have : (y.cps.toList.map fun c => decide (c ∈ (Str.ofString "0123456789").cps.toList)).all id = false := by
          rw [← Bool.not_eq_true, all_in]
          exact fun z => n (z c h)
        rw [this]
        wtm_at "zw"
        exact ⟨_, _, rfl, .inr ⟨rfl, q H2 S⟩⟩
      | zero h z n =>
        rw [all_in.mpr h]
        wtm_at "zw"
        refine ⟨_, _, rfl, .inl ⟨rfl, ?_⟩⟩
        wtm_at "zw"
        have sw : Txt.startswith y (Str.ofString "0") = true := by rw [c_zero, starts_sign]; exact decide_eq_true z
        rw [sw]
        wtm_at "zw"
        exact ⟨_, _, rfl, .inr ⟨rfl, q H2 S⟩⟩
    · have e : V.str y = V.str (Str.ofString "") := congrArg V.str (str_ext (by
        rw [c_none]
        exact List.length_eq_zero_iff.mp (by rw [← len_codes]; omega)))
      rw [decide_eq_true e]
      refine iteNT ?_
      wtm_at "zw"
      exact ⟨_, _, rfl, .inr ⟨rfl, q H (Same.refl _)⟩⟩
theorem sc_read_worth : FnScope ["text", "number"] ["text"] (defScope (top 23)) := ⟨rfl, rfl, rfl, by decide +kernel, rfl, by decide +kernel, by decide +kernel⟩
noncomputable def spRWorth (C : Addr) : Sp := fun vs H Q E => ∃ s : Str, vs = [.str s] ∧ s.length ≤ 10000 ∧ ((∃ i : Int, s = numS i ∧ i.natAbs < 200 ∧ ∀ H', Same H H' → Q (.int i) H') ∨ (BadWorth s ∧ ∀ H', Same H H' → E (.ref C) none H'))
theorem dx_rworth {C : Addr} (F : Fd K mg "read_worth" (top 23) ["text"]) (X_refuse_unless : Dx P w K mg base "refuse_unless" 1 ["fits", "reason"] (spUnless C)) (X_read_number : Dx P w K mg base "read_number" 2 ["figures"] (spRNum C)) : Dx P w K mg base "read_worth" 3 ["text"] (spRWorth C) := by
  refine F.okx sc_read_worth (fun vs H Q E h => ?_) (fun f cdv A outer s H vs Q E hr h => ?_)
  · obtain ⟨_, rfl, _⟩ := h
    rfl
  obtain ⟨s, rfl, ls, h⟩ := h
  refine ⟨_, (pss_cons (ps_if (pt_not (pt_val (pe_bmK (K := K) PySem.F.plainAttrs_str PySem.F.slot_str_startswith PySem.F.type_str_startswith mt_startswith (pv 0) (pa_cons pe_str pa_nil)))) (pss_one (ps_ret (pe_callX X_read_number hr (pa_cons (pv 0) pa_nil)))) pss_nil)
    (pss_cons (ps_set (i := 1) sc_read_worth.nd rfl (by first | exact Or.inl rfl | exact Or.inr rfl) (pe_callX X_read_number hr (pa_cons (pe_slice sl_str (pv 0) (po_some pe_int) po_none) pa_nil)))
    (pss_cons (ps_expr (pe_callX X_refuse_unless hr (pa_cons (pe_cmpR op_gt (pv 1) pe_int (nomark _)) (pa_cons pe_str pa_nil))))
    (pss_one (ps_ret (pe_un un_neg (pv 1))))))), ?_⟩
  wtm_at "zw"
  rw [c_dash, starts_sign]
  have minus : ∀ t : Str, (⟨#[45]⟩ ++ t : Str).cps.toList.head? = some 45 := fun t => by rw [codes_app]; rfl
  have lm : ∀ t : Str, (⟨#[45]⟩ ++ t : Str).length = 1 + t.length := fun t => by rw [len_app]; rfl
  rcases h with ⟨i, rfl, hi, q⟩ | ⟨bad, q⟩
  · have fg := figs hi
    by_cases hn : i < 0
    · have e : numS i = ⟨#[45]⟩ ++ dec i.natAbs := if_pos hn
      rw [e, decide_eq_true (minus _)]
      refine iteNT ?_
      wtm_at "zw"
      refine ⟨_, rfl, (by rw [lm]; have := fg.hi; omega), ?_⟩
      rw [slice_one]
      wtm_at "zw"
      refine ⟨_, rfl, (by have := fg.hi; omega), .inl ⟨_, rfl, hi, fun H1 S1 => ?_⟩⟩
      wtm_at "zw"
      rw [decide_eq_true (show (0 : Int) < ((i.natAbs : Nat) : Int) by omega)]
      refine ⟨_, _, rfl, .inl ⟨rfl, ?_⟩⟩
      wtm_at "zw"
      have e2 : -((i.natAbs : Nat) : Int) = i := by omega
      rw [e2]
      exact q H1 S1
    · have e : numS i = dec i.natAbs := if_neg hn
      have hd : ¬ ((dec i.natAbs).cps.toList.head? = some 45) := fun z => by
        have := fg.fig 45 (List.mem_of_head? z)
        omega
      rw [e, decide_eq_false hd]
      refine iteNF ?_
      wtm_at "zw"
      refine ⟨_, rfl, (by have := fg.hi; omega), .inl ⟨_, rfl, hi, fun H1 S1 => ?_⟩⟩
      have e2 : ((i.natAbs : Nat) : Int) = i := by omega
      rw [e2]
      exact q H1 S1
  · cases bad with
    | num h b =>
      rw [decide_eq_false h]
      refine iteNF ?_
      wtm_at "zw"
      exact ⟨_, rfl, ls, .inr ⟨b, fun H1 S1 => q H1 S1⟩⟩
    | neg t e b =>
      subst e
      rw [lm] at ls
      rw [decide_eq_true (minus _)]
      refine iteNT ?_
      wtm_at "zw"
      refine ⟨_, rfl, (by rw [lm]; omega), ?_⟩
      rw [slice_one]
      wtm_at "zw"
      exact ⟨_, rfl, (by omega), .inr ⟨b, fun H1 S1 => q H1 S1⟩⟩
    | zero e =>
      subst e
      rw [lm] at ls
      rw [decide_eq_true (minus _)]
      refine iteNT ?_
      wtm_at "zw"
      refine ⟨_, rfl, (by rw [lm]; omega), ?_⟩
      rw [slice_one]
      wtm_at "zw"
      refine ⟨_, rfl, (by omega), .inl ⟨0, rfl, by decide, fun H1 S1 => ?_⟩⟩
      wtm_at "zw"
      exact ⟨_, _, rfl, .inr ⟨by decide, q H1 S1⟩⟩
theorem sc_read_fork : FnScope ["sides"] ["sides"] (defScope (top 21)) := ⟨rfl, rfl, rfl, by decide +kernel, rfl, by decide +kernel, by decide +kernel⟩
noncomputable def spRFork (C : Addr) : Sp := fun vs H Q E => ∃ (l : Addr) (ws : List Str), vs = [.ref l] ∧ H l = some (.lst (ws.map V.str)) ∧ (∀ w ∈ ws, w.length ≤ 10000) ∧
  ((∃ (i : Int) (n : Nat), ws = [numS i, dec n] ∧ i.natAbs < 200 ∧ n < 200 ∧ ∀ p H', H p = none → Same H H' → H' p = some (.tup [.int i, .int n]) → Q (.ref p) H') ∨ (BadSides ws ∧ ∀ H', Same H H' → E (.ref C) none H'))
theorem dx_rfork {C : Addr} (F : Fd K mg "read_fork" (top 21) ["sides"]) (B : Bl mg) (X_refuse_unless : Dx P w K mg base "refuse_unless" 1 ["fits", "reason"] (spUnless C)) (X_read_number : Dx P w K mg base "read_number" 2 ["figures"] (spRNum C))
    (X_read_worth : Dx P w K mg base "read_worth" 3 ["text"] (spRWorth C)) : Dx P w K mg base "read_fork" 4 ["sides"] (spRFork C) := by
  refine F.okx sc_read_fork (fun vs H Q E h => ?_) (fun f cdv A outer s H vs Q E hr h => ?_)
  · obtain ⟨_, _, rfl, _⟩ := h
    rfl
  obtain ⟨l, ws, rfl, hl, lw, h⟩ := h
  refine ⟨_, (pss_cons (ps_expr (pe_callX X_refuse_unless hr (pa_cons (pe_cmpR op_eq (pe_callB (call_lenK (K := K)) rfl B.len' bt_len (pa_cons (pv 0) pa_nil)) pe_int (nomark _)) (pa_cons pe_str pa_nil))))
    (pss_one (ps_ret (pe_tup (pa_cons (pe_callX X_read_worth hr (pa_cons (pe_ix (ix_listK (K := K)) (pv 0) pe_int (fun _ _ => rfl)) pa_nil)) (pa_cons (pe_callX X_read_number hr (pa_cons (pe_ix (ix_listK (K := K)) (pv 0) pe_int (fun _ _ => rfl)) pa_nil)) pa_nil)))))), ?_⟩
  wtm_at "zw"
  rcases h with ⟨i, n, rfl, hi, hn, q⟩ | ⟨bad, q⟩
  · refine ⟨_, _, rfl, .inl ⟨rfl, ?_⟩⟩
    wtm_at "zw"
    refine ⟨_, rfl, lw _ List.mem_cons_self, .inl ⟨i, rfl, hi, fun H1 S1 => ?_⟩⟩
    have e1 := S1 _ _ hl
    wtm_at "zw"
    refine ⟨_, rfl, lw _ (List.mem_cons_of_mem _ List.mem_cons_self), .inl ⟨n, rfl, hn, fun H2 S2 => ?_⟩⟩
    wtm_at "zw"
    refine ⟨line_le (show 2 ≤ 1000000 by decide), fun p hp => ?_⟩
    have S3 := S1.trans S2
    exact q p _ (S3.free hp) (S3.trans (same_new hp _)) upd_same
  · cases bad with
    | len h =>
      have : ¬ (V.int (((ws.map V.str).length : Nat) : Int) = V.int 2) := fun z => by
        injection z with z
        rw [List.length_map] at z
        omega
      rw [decide_eq_false this]
      exact ⟨_, _, rfl, .inr ⟨rfl, q H (Same.refl _)⟩⟩
    | worth s t e b =>
      subst e
      refine ⟨_, _, rfl, .inl ⟨rfl, ?_⟩⟩
      wtm_at "zw"
      exact ⟨_, rfl, lw _ List.mem_cons_self, .inr ⟨b, fun H1 S1 => q H1 S1⟩⟩
    | num i t e hi b =>
      subst e
      refine ⟨_, _, rfl, .inl ⟨rfl, ?_⟩⟩
      wtm_at "zw"
      refine ⟨_, rfl, lw _ List.mem_cons_self, .inl ⟨i, rfl, hi, fun H1 S1 => ?_⟩⟩
      have e1 := S1 _ _ hl
      wtm_at "zw"
      exact ⟨_, rfl, lw _ (List.mem_cons_of_mem _ List.mem_cons_self), .inr ⟨b, fun H2 S2 => q H2 (S1.trans S2)⟩⟩

inductive Nd where
  | fin
  | act (x : Str) (to : Nat)
  | see (x : Str) (fs : List (Int × Nat))
noncomputable def PairN (H : Hp) (f : Int × Nat) (u : V) : Prop := ∃ a, u = .ref a ∧ H a = some (.tup [.int f.1, .int f.2])
noncomputable def NdAt (H : Hp) : Nd → V → Prop
  | .fin, u => ∃ a, u = .ref a ∧ H a = some (.tup [.str (Str.ofString "end")])
  | .act x to, u => ∃ a, u = .ref a ∧ H a = some (.tup [.str (Str.ofString "do"), .str x, .int to])
  | .see x fs, u => ∃ a p us, u = .ref a ∧ H a = some (.tup [.str (Str.ofString "look"), .str x, .ref p]) ∧ H p = some (.tup us) ∧ Paired (PairN H) fs us
theorem PairN.same {H H' : Hp} {f : Int × Nat} {u : V} (h : PairN H f u) (S : Same H H') : PairN H' f u := let ⟨a, e, h⟩ := h; ⟨a, e, S _ _ h⟩
theorem NdAt.same {H H' : Hp} {n : Nd} {u : V} (h : NdAt H n u) (S : Same H H') : NdAt H' n u := by
  cases n with
  | fin => obtain ⟨a, e, h⟩ := h; exact ⟨a, e, S _ _ h⟩
  | act x to => obtain ⟨a, e, h⟩ := h; exact ⟨a, e, S _ _ h⟩
  | see x fs => obtain ⟨a, p, us, e, h, h2, h3⟩ := h; exact ⟨a, p, us, e, S _ _ h, S _ _ h2, Paired.mapP h3 fun _ _ z => PairN.same z S⟩
theorem NdAt.but {H : Hp} {n : Nd} {u : V} {D : Addr} {xs : List V} {o : HO} (h : NdAt H n u) (d : H D = some (.lst xs)) : NdAt (upd H D o) n u := by
  have k : ∀ a ys, H a = some (.tup ys) → upd H D o a = some (.tup ys) := fun a ys e => by rw [upd_ne (fun z => by rw [z, d] at e; cases e)]; exact e
  cases n with
  | fin => obtain ⟨a, e, h⟩ := h; exact ⟨a, e, k _ _ h⟩
  | act x to => obtain ⟨a, e, h⟩ := h; exact ⟨a, e, k _ _ h⟩
  | see x fs => obtain ⟨a, p, us, e, h, h2, h3⟩ := h; exact ⟨a, p, us, e, k _ _ h, k _ _ h2, Paired.mapP h3 fun _ _ ⟨b, eb, hb⟩ => ⟨b, eb, k _ _ hb⟩⟩
noncomputable def Nd.Good : Nd → Prop
  | .fin => True
  | .act x to => Word x ∧ to < 200
  | .see x fs => Word x ∧ fs.length ≤ 6 ∧ ∀ f ∈ fs, f.1.natAbs < 200 ∧ f.2 < 200
noncomputable def forkS (f : Int × Nat) : Str := numS f.1 ++ Str.ofString ":" ++ dec f.2
noncomputable def Nd.words : Nd → List Str
  | .fin => [Str.ofString "end"]
  | .act x to => [Str.ofString "do", x, dec to]
  | .see x fs => Str.ofString "look" :: x :: fs.map forkS
noncomputable def Nd.row (n : Nd) : Str := Txt.join (Str.ofString " ") n.words
theorem abc_codes : abc = [97, 98, 99, 100, 101, 102, 103, 104, 105, 106, 107, 108, 109, 110, 111, 112, 113, 114, 115, 116, 117, 118, 119, 120, 121, 122] := by decide +kernel
theorem abc_range {c : Nat} (h : c ∈ abc) : 97 ≤ c ∧ c ≤ 122 := by
  rw [abc_codes] at h
  simp only [List.mem_cons, List.not_mem_nil, or_false] at h
  omega
theorem num_signs {i : Int} (h : i.natAbs < 200) {c : Nat} (hc : c ∈ (numS i).cps.toList) : c = 45 ∨ 48 ≤ c ∧ c ≤ 57 := by
  unfold numS at hc
  split at hc
  · rw [codes_app] at hc
    rcases List.mem_append.mp hc with z | z
    · exact .inl (List.mem_singleton.mp z)
    · exact .inr ((figs h).fig c z)
  · exact .inr ((figs h).fig c hc)
theorem num_len {i : Int} (h : i.natAbs < 200) : (numS i).length ≤ 4 := by
  have := (figs h).hi
  unfold numS
  split
  · rw [len_app]; show 1 + (dec i.natAbs).length ≤ 4; omega
  · omega
theorem fork_signs {f : Int × Nat} (h1 : f.1.natAbs < 200) (h2 : f.2 < 200) {c : Nat} (hc : c ∈ (forkS f).cps.toList) : 45 ≤ c ∧ c ≤ 58 := by
  unfold forkS at hc
  rw [codes_app, codes_app, c_colon] at hc
  rcases List.mem_append.mp hc with z | z
  · rcases List.mem_append.mp z with z | z
    · have := num_signs h1 z; omega
    · have := List.mem_singleton.mp z; omega
  · have := (figs h2).fig c z; omega
theorem fork_len {f : Int × Nat} (h1 : f.1.natAbs < 200) (h2 : f.2 < 200) : (forkS f).length ≤ 8 := by
  unfold forkS
  rw [len_app, len_app, c_colon]
  have := num_len h1
  have := (figs h2).hi
  show (numS f.1).length + 1 + (dec f.2).length ≤ 8
  omega
theorem word_signs {x : Str} (h : Word x) {c : Nat} (hc : c ∈ x.cps.toList) : 97 ≤ c ∧ c ≤ 122 := abc_range (h.abc c hc)
theorem c_end : (Str.ofString "end").cps.toList = [101, 110, 100] := by decide +kernel
theorem c_do : (Str.ofString "do").cps.toList = [100, 111] := by decide +kernel
theorem c_look : (Str.ofString "look").cps.toList = [108, 111, 111, 107] := by decide +kernel
theorem words_free {n : Nd} (h : n.Good) : ∀ w ∈ n.words, (∀ c ∈ w.cps.toList, 33 ≤ c) ∧ w.length ≤ 8 := by
  cases n with
  | fin =>
    intro w hw
    rw [List.mem_singleton.mp hw, len_codes, c_end]
    exact ⟨by decide, by decide⟩
  | act x to =>
    intro w hw
    rcases List.mem_cons.mp hw with e | hw
    · rw [e, len_codes, c_do]; exact ⟨by decide, by decide⟩
    · rcases List.mem_cons.mp hw with e | hw
      · rw [e]; exact ⟨fun c hc => by have := word_signs h.1 hc; omega, h.1.hi⟩
      · rw [List.mem_singleton.mp hw]; exact ⟨fun c hc => by have := (figs h.2).fig c hc; omega, by have := (figs h.2).hi; omega⟩
  | see x fs =>
    intro w hw
    rcases List.mem_cons.mp hw with e | hw
    · rw [e, len_codes, c_look]; exact ⟨by decide, by decide⟩
    · rcases List.mem_cons.mp hw with e | hw
      · rw [e]; exact ⟨fun c hc => by have := word_signs h.1 hc; omega, h.1.hi⟩
      · obtain ⟨f, hf, e⟩ := List.mem_map.mp hw
        have := h.2.2 f hf
        rw [← e]
        exact ⟨fun c hc => by have := fork_signs this.1 this.2 hc; omega, fork_len this.1 this.2⟩
theorem words_ne (n : Nd) : n.words ≠ [] := by cases n <;> exact List.cons_ne_nil _ _
theorem words_len {n : Nd} (h : n.Good) : n.words.length ≤ 8 := by
  cases n with
  | fin => exact (by decide : 1 ≤ 8)
  | act x to => exact (by decide : 3 ≤ 8)
  | see x fs => show (fs.map forkS).length + 1 + 1 ≤ 8; rw [List.length_map]; have := h.2.1; omega
theorem words_sum {n : Nd} (h : n.Good) : (n.words.map (·.length)).sum + n.words.length * (Str.ofString " ").length ≤ 100 := by
  have h1 := words_len h
  have h2 := sum_le fun w hw => (words_free h w hw).2
  have : (Str.ofString " ").length = 1 := by rw [c_blank]; rfl
  rw [this]
  omega
theorem row_split {n : Nd} (h : n.Good) : Txt.split n.row (Str.ofString " ") = n.words := by
  unfold Nd.row
  rw [c_blank]
  exact split_join (words_ne n) fun w hw z => by have := (words_free h w hw).1 _ z; omega
theorem row_len {n : Nd} (h : n.Good) : n.row.length ≤ 100 := Nat.le_trans (join_len _ _) (words_sum h)
theorem row_free {n : Nd} (h : n.Good) : ∀ c ∈ n.row.cps.toList, 32 ≤ c := fun c hc => by
  unfold Nd.row at hc
  rw [c_blank] at hc
  rcases join_mem hc with e | ⟨w, hw, hc⟩
  · omega
  · have := (words_free h w hw).1 c hc; omega
theorem fork_split {f : Int × Nat} (h1 : f.1.natAbs < 200) (h2 : f.2 < 200) : Txt.split (forkS f) (Str.ofString ":") = [numS f.1, dec f.2] := by
  have e : forkS f = Txt.join (Str.ofString ":") [numS f.1, dec f.2] := by rw [tjoin]; rfl
  rw [e, c_colon]
  refine split_join (List.cons_ne_nil _ _) fun w hw z => ?_
  rcases List.mem_cons.mp hw with e | hw
  · rw [e] at z; have := num_signs h1 z; omega
  · rw [List.mem_singleton.mp hw] at z; have := (figs h2).fig _ z; omega
theorem paired_snoc {α β : Type} {F : α → β → Prop} {l : List α} {m : List β} {a : α} {b : β} (h : Paired F l m) (r : F a b) : Paired F (l ++ [a]) (m ++ [b]) := paired_app h (.cons r .nil)
theorem take_snoc {α : Type} {l : List α} {i : Nat} {a : α} (h : l[i]? = some a) : l.take (i + 1) = l.take i ++ [a] := by rw [List.take_add_one, h]; rfl
theorem take_words {fs : List (Int × Nat)} {x : Str} (k : Nat) (h : (Nd.see x fs).Good) : (Nd.see x (fs.take k)).Good := ⟨h.1, by rw [List.length_take]; have := h.2.1; omega, fun f hf => h.2.2 f (List.mem_of_mem_take hf)⟩

noncomputable def spRow : Sp := fun vs H Q _ => ∃ (n : Nd) (u : V), vs = [u] ∧ NdAt H n u ∧ n.Good ∧ ∀ H', Same H H' → Q (.str n.row) H'
inductive BadRow (ws : List Str) : Prop
  | none (h : Str) (r : List Str) (e : ws = h :: r) (n1 : h ≠ Str.ofString "end" ∨ r ≠ []) (n2 : h ≠ Str.ofString "do" ∨ r.length ≠ 2) (n3 : h ≠ Str.ofString "look" ∨ r = [])
  | doName (x y : Str) (e : ws = [Str.ofString "do", x, y]) (n : ¬ Word x)
  | doNum (x y : Str) (e : ws = [Str.ofString "do", x, y]) (wx : Word x) (b : BadNum y)
  | lookName (x : Str) (r : List Str) (e : ws = Str.ofString "look" :: x :: r) (n : ¬ Word x)
  | lookFork (x : Str) (fs : List (Int × Nat)) (w : Str) (post : List Str) (e : ws = Str.ofString "look" :: x :: (fs.map forkS ++ w :: post)) (wx : Word x) (gf : ∀ f ∈ fs, f.1.natAbs < 200 ∧ f.2 < 200) (b : BadSides (Txt.split w (Str.ofString ":")))
theorem cut2 (a b : Str) (r : List Str) : cutV ((a :: b :: r).map V.str) (some 2) none = r.map V.str := by
  have e2 : HT.sIx ((a :: b :: r).map V.str).length 0 (some 2) = 2 := by
    have : 2 ≤ ((a :: b :: r).map V.str).length := by rw [List.length_map]; show 2 ≤ r.length + 1 + 1; omega
    rw [show (2 : Int) = ((2 : Nat) : Int) from rfl, HT.sIx_nat]
    omega
  have e3 : HT.sIx ((a :: b :: r).map V.str).length ((a :: b :: r).map V.str).length none = ((a :: b :: r).map V.str).length := rfl
  unfold cutV
  rw [e2, e3]
  show (r.map V.str).take _ = _
  refine List.take_of_length_le ?_
  show _ ≤ (r.map V.str).length + 1 + 1 - 2
  omega
theorem sc_read_node : FnScope ["words"] ["words"] (defScope (top 20)) := ⟨rfl, rfl, rfl, by decide +kernel, rfl, by decide +kernel, by decide +kernel⟩
theorem co_read_node1 : CompOk (defScope (top 20)) ["words"] (scAt (defBody (top 20)) [3] [2, 1]) ["word"] 1 [] :=
  ⟨by decide +kernel, by decide +kernel, by decide +kernel, by decide +kernel, by decide +kernel, by decide +kernel, by decide +kernel, by decide +kernel⟩
noncomputable def spRNode (C : Addr) : Sp := fun vs H Q E => ∃ (l : Addr) (ws : List Str), vs = [.ref l] ∧ H l = some (.lst (ws.map V.str)) ∧ ws.length ≤ 1001 ∧ (∀ w ∈ ws, w.length ≤ 1000) ∧
  ((∃ n : Nd, n.Good ∧ ws = n.words ∧ ∀ u H', Same H H' → NdAt H' n u → Q u H') ∨ (BadRow ws ∧ ∀ H', Same H H' → E (.ref C) none H'))
theorem comp_forks {C : Addr} {E : XK} {σ : St} {H : Hp} {Q : VK} {p : Addr} {rest : List Str} (hp : H p = some (.lst (rest.map V.str))) (lr : rest.length ≤ 1000) (lw : ∀ w ∈ rest, w.length ≤ 1000) (fs : List (Int × Nat)) (gf : ∀ f ∈ fs, f.1.natAbs < 200 ∧ f.2 < 200)
    (h : (rest = fs.map forkS ∧ ∀ (D : Addr) (ys : List V) (H' : Hp), Same H H' → H' D = some (.lst ys) → Paired (PairN H') fs ys → Q (.ref D) H') ∨ (∃ w post, rest = fs.map forkS ++ w :: post ∧ BadSides (Txt.split w (Str.ofString ":")) ∧ ∀ H', Same H H' → E (.ref C) none H')) :
    rdC 1 [] (gName 0) tYes (tCall (spRFork C) [] E (tCons (tBM K "str" rSplit (tVar 0) (tCons (tC (V.str (Str.ofString ":"))) tNil)) tNil)) (Itl K p) σ H Q := by
  have lf : fs.length ≤ rest.length := by
    rcases h with ⟨e, _⟩ | ⟨w, post, e, _⟩
    · rw [e, List.length_map]; exact Nat.le_refl _
    · rw [e, List.length_append, List.length_map]; omega
  refine comp_list (xs := rest.map V.str) (fun D i ys H' => i ≤ fs.length ∧ Paired (PairN H') (fs.take i) ys ∧ Same H H') (fun D hD => ⟨Nat.zero_le _, .nil, same_new hD _⟩)
    (fun D i ys H' _ hP => SqL.of (hP.2.2 _ _ hp)) (fun D i u ys H' N hD hDy ex hP hN => ?_) (fun D ys H4 hD hDy hP => ?_)
  · obtain ⟨il, pp, hk⟩ := hP
    have hi := (List.getElem?_eq_some_iff.mp ex).1
    rw [List.length_map] at hi
    obtain ⟨v, ev⟩ : ∃ b, rest[i]? = some b := ⟨_, List.getElem?_eq_getElem hi⟩
    have eu : u = .str v := by
      rw [List.getElem?_map, ev] at ex
      exact (Option.some.inj ex).symm
    subst eu
    have lv := lw v (List.mem_of_getElem? ev)
    refine ⟨⟨[some (.str v)], rfl, rfl⟩, w_yes (iteT ?_)⟩
    wtm_at "zw"
    refine ⟨_, _, rfl, rfl, (by rw [c_colon]; decide), by omega, fun l4 hl4 => ?_⟩
    have lp : ∀ w ∈ Txt.split v (Str.ofString ":"), w.length ≤ 10000 := fun w hw => by have := PyProof.Rows.part_short hw; omega
    have S5 := same_new hl4 (.lst ((Txt.split v (Str.ofString ":")).map V.str))
    have e5 : upd H' l4 (.lst ((Txt.split v (Str.ofString ":")).map V.str)) l4 = some (.lst ((Txt.split v (Str.ofString ":")).map V.str)) := upd_same
    generalize upd H' l4 (.lst ((Txt.split v (Str.ofString ":")).map V.str)) = H5 at S5 e5 ⊢
    wtm_at "zw"
    refine ⟨l4, _, rfl, e5, lp, ?_⟩
    by_cases hlt : i < fs.length
    · obtain ⟨g, eg⟩ : ∃ b, fs[i]? = some b := ⟨_, List.getElem?_eq_getElem hlt⟩
      have gg := gf g (List.mem_of_getElem? eg)
      have ew : v = forkS g := by
        rcases h with ⟨e, _⟩ | ⟨w, post, e, _⟩
        · rw [e, List.getElem?_map, eg] at ev
          exact (Option.some.inj ev).symm
        · rw [e, List.getElem?_append_left (by rw [List.length_map]; exact hlt), List.getElem?_map, eg] at ev
          exact (Option.some.inj ev).symm
      subst ew
      refine .inl ⟨g.1, g.2, fork_split gg.1 gg.2, gg.1, gg.2, fun p6 H6 n6 S6 e6 => ?_⟩
      have S7 := S5.trans S6
      have ly := Paired.length pp
      rw [List.length_take] at ly
      refine ⟨S7 _ _ hDy, small (by omega), hN _ _ upd_same ⟨hlt, ?_, (hk.trans S7).set hD⟩⟩
      rw [take_snoc eg]
      have np : p6 ≠ D := fun z => by rw [z, S5 _ _ hDy] at n6; cases n6
      have nf : ∀ f u, PairN H' f u → PairN (upd H6 D (.lst (ys ++ [V.ref p6]))) f u := fun f u ⟨a, ea, h⟩ => ⟨a, ea, by
        rw [upd_ne (fun z => by rw [z, hDy] at h; cases h)]; exact S7 _ _ h⟩
      exact paired_snoc (Paired.mapP pp nf) ⟨p6, rfl, by rw [upd_ne np]; exact e6⟩
    · rcases h with ⟨e, _⟩ | ⟨w, post, e, b, q⟩
      · rw [e, List.length_map] at hi
        exact absurd hi hlt
      · have e0 : i = fs.length := by omega
        have ew : v = w := by
          rw [e, List.getElem?_append_right (by rw [List.length_map]; omega), List.length_map, e0, Nat.sub_self] at ev
          exact (Option.some.inj ev).symm
        subst ew
        exact .inr ⟨b, fun H6 S6 => q H6 ((hk.trans S5).trans S6)⟩
  · obtain ⟨il, pp, hk⟩ := hP
    rw [List.length_map] at il pp
    rcases h with ⟨e, q⟩ | ⟨w, post, e, _⟩
    · rw [e, List.length_map, List.take_length] at pp
      exact q D ys H4 hk hDy pp
    · rw [e, List.length_append, List.length_map] at il
      have : (w :: post).length = post.length + 1 := rfl
      omega
theorem dx_rnode {C : Addr} (F : Fd K mg "read_node" (top 20) ["words"]) (B : Bl mg) (X_refuse_unless : Dx P w K mg base "refuse_unless" 1 ["fits", "reason"] (spUnless C)) (X_read_name : Dx P w K mg base "read_name" 2 ["word"] (spName C))
    (X_read_number : Dx P w K mg base "read_number" 2 ["figures"] (spRNum C)) (X_read_fork : Dx P w K mg base "read_fork" 4 ["sides"] (spRFork C)) : Dx P w K mg base "read_node" 5 ["words"] (spRNode C) := by
  refine F.okx sc_read_node (fun vs H Q E h => ?_) (fun f cdv A outer s H vs Q E hr h => ?_)
  · obtain ⟨_, _, rfl, _⟩ := h
    rfl
  obtain ⟨l, ws, rfl, hl, ln, lw, h⟩ := h
  refine ⟨_, (pss_cons (ps_if (pt_cmpR (op_eqSK (K := K) hr.units) (pv 0) (pe_lst (pa_cons pe_str pa_nil)) (nomark _)) (pss_one (ps_ret (pe_tup (pa_cons pe_str pa_nil)))) pss_nil)
    (pss_cons (ps_if (PW.pt (pw_and (pt_cmpR op_eq (pe_ix (ix_listK (K := K)) (pv 0) pe_int (fun _ _ => rfl)) pe_str (nomark _)) (pw_and1 (pt_cmpR op_eq (pe_callB (call_lenK (K := K)) rfl B.len' bt_len (pa_cons (pv 0) pa_nil)) pe_int (nomark _))))) (pss_one (ps_ret (pe_tup (pa_cons pe_str (pa_cons (pe_callX X_read_name hr (pa_cons (pe_ix (ix_listK (K := K)) (pv 0) pe_int (fun _ _ => rfl)) pa_nil)) (pa_cons (pe_callX X_read_number hr (pa_cons (pe_ix (ix_listK (K := K)) (pv 0) pe_int (fun _ _ => rfl)) pa_nil)) pa_nil)))))) pss_nil)
    (pss_cons (ps_expr (pe_callX X_refuse_unless hr (pa_cons (pe_and (pe_cmpR op_eq (pe_ix (ix_listK (K := K)) (pv 0) pe_int (fun _ _ => rfl)) pe_str (nomark _)) (pe_one (pe_cmpR op_gt (pe_callB (call_lenK (K := K)) rfl B.len' bt_len (pa_cons (pv 0) pa_nil)) pe_int (nomark _)))) (pa_cons pe_str pa_nil))))
    (pss_one (ps_ret (pe_tup (pa_cons pe_str (pa_cons (pe_callX X_read_name hr (pa_cons (pe_ix (ix_listK (K := K)) (pv 0) pe_int (fun _ _ => rfl)) pa_nil)) (pa_cons (pe_callTy (call_tupleK (K := K)) rfl B.tuple' bt_tuple (pa_cons (pe_compX co_read_node1 (pi_listK (K := K) (pe_slice (sl_listK (K := K)) (pv 0) (po_some pe_int) po_none)) (fun cl fp s H => (pg_name (i := 0) co_read_node1.nd rfl (Or.inl rfl) (.inr rfl))) (fun cl fp s H => pts_nil) (fun cl fp s H => (pe_callXC X_read_fork hr (pa_cons (pe_bmK (K := K) PySem.F.plainAttrs_str PySem.F.slot_str_split PySem.F.type_str_split mt_split (pv 0) (pa_cons pe_str pa_nil)) pa_nil)))) pa_nil)) pa_nil))))))))), ?_⟩
  wtm_at "zw"
  refine ⟨line_le (show 1 ≤ 1000000 by decide), fun p hp => ?_⟩
  have S1 := same_new hp (.lst [V.str (Str.ofString "end")])
  have e1 : upd H p (.lst [V.str (Str.ofString "end")]) p = some (.lst ([Str.ofString "end"].map V.str)) := upd_same
  generalize upd H p (.lst [V.str (Str.ofString "end")]) = H1 at S1 e1 ⊢
  have hl1 := S1 _ _ hl
  refine ⟨l, p, ws, _, rfl, rfl, SqL.of hl1, SqL.of e1, _, rfl, ?_⟩
  have ln2 : ∀ (x : Str) (r : List Str), (1 : Int) < ((((Str.ofString "look" :: x :: r).map V.str).length : Nat) : Int) := fun x r => by rw [List.length_map]; show (1 : Int) < ((r.length + 1 + 1 : Nat) : Int); omega
  have ne1 : ∀ (a x : Str) (r : List Str), ¬ (a :: x :: r = [Str.ofString "end"]) := fun a x r z => by injection z with _ z; cases z
  rcases h with ⟨n, good, rfl, q⟩ | ⟨bad, q⟩
  · cases n with
    | fin =>
      rw [decide_eq_true (by rfl)]
      refine iteT ?_
      wtm_at "zw"
      exact ⟨line_le (show 1 ≤ 1000000 by decide), fun u hu => q _ _ (S1.trans (same_new hu _)) ⟨u, rfl, upd_same⟩⟩
    | act x to =>
      rw [decide_eq_false (show ¬ ((Nd.act x to).words = [Str.ofString "end"]) from ne1 _ _ _)]
      refine iteF ?_
      wtm_at "zw"
      rw [decide_eq_true (by rfl)]
      refine iteT ?_
      wtm_at "zw"
      refine ⟨x, rfl, (by have := good.1.hi; omega), .inl ⟨good.1, fun H2 S2 => ?_⟩⟩
      have hl2 := S2 _ _ hl1
      wtm_at "zw"
      refine ⟨_, rfl, (by have := (figs good.2).hi; omega), .inl ⟨to, rfl, good.2, fun H3 S3 => ?_⟩⟩
      wtm_at "zw"
      exact ⟨line_le (show 3 ≤ 1000000 by decide), fun u hu => q _ _ (((S1.trans S2).trans S3).trans (same_new hu _)) ⟨u, rfl, upd_same⟩⟩
    | see x fs =>
      rw [decide_eq_false (show ¬ ((Nd.see x fs).words = [Str.ofString "end"]) from ne1 _ _ _)]
      refine iteF ?_
      wtm_at "zw"
      rw [decide_eq_true (show (1 : Int) < ((((Nd.see x fs).words.map V.str).length : Nat) : Int) from ln2 _ _)]
      refine ⟨_, _, rfl, .inl ⟨rfl, ?_⟩⟩
      wtm_at "zw"
      refine w_ixL (SqL.of hl1) (show atI ((Nd.see x fs).words.map V.str) ((1 : Nat) : Int) = some (.str x) from atI_nat rfl) ?_
      wtm_at "zw"
      refine ⟨x, rfl, (by have := good.1.hi; omega), .inl ⟨good.1, fun H2 S2 => ?_⟩⟩
      have hl2 := S2 _ _ hl1
      wtm_at "zf"
      refine ⟨l, _, rfl, SqL.of hl2, fun p2 hp2 => ?_⟩
      have ec : cutV ((Nd.see x fs).words.map V.str) (some 2) none = (fs.map forkS).map V.str := cut2 _ _ _
      rw [ec]
      have S3 := same_new hp2 (.lst ((fs.map forkS).map V.str))
      have e3 : upd H2 p2 (.lst ((fs.map forkS).map V.str)) p2 = some (.lst ((fs.map forkS).map V.str)) := upd_same
      generalize upd H2 p2 (.lst ((fs.map forkS).map V.str)) = H3 at S3 e3 ⊢
      refine ⟨p2, rfl, ⟨_, SqL.of e3⟩, comp_forks e3 (by rw [List.length_map]; have := good.2.1; omega) (fun v hv => lw v (List.mem_cons_of_mem _ (List.mem_cons_of_mem _ hv))) fs good.2.2 (.inl ⟨rfl, fun D ys H4 hk hDy pp => ?_⟩)⟩
      wtm_at "zw"
      refine ⟨D, ys, rfl, SqL.of hDy, fun p7 hp7 => ?_⟩
      have S8 := same_new hp7 (.tup ys)
      have e8 : upd H4 p7 (.tup ys) p7 = some (.tup ys) := upd_same
      generalize upd H4 p7 (.tup ys) = H8 at S8 e8 ⊢
      wtm_at "zw"
      exact ⟨line_le (show 3 ≤ 1000000 by decide), fun u hu => q _ _ (((((S1.trans S2).trans S3).trans hk).trans S8).trans (same_new hu _)) ⟨u, p7, ys, rfl, upd_same, same_new hu _ _ _ e8, Paired.mapP pp fun _ _ z => (z.same S8).same (same_new hu _)⟩⟩
  · cases bad with
    | none h r e n1 n2 n3 =>
      subst e
      have nE : ¬ (h :: r = [Str.ofString "end"]) := fun z => by
        injection z with z1 z2
        rcases n1 with y | y
        · exact y z1
        · exact y z2
      rw [decide_eq_false nE]
      refine iteF ?_
      have fin : ∀ (b : Bool) (Q' : VK), b = false → spUnless C [V.bl b, V.str (Str.ofString "a row is none of a plan's")] H1 Q' E := fun b Q' z => ⟨b, _, rfl, .inr ⟨z, q H1 S1⟩⟩
      wtm_at "zw"
      by_cases hd : h = Str.ofString "do"
      · subst hd
        wtm_at "zw"
        have l3 : ¬ (V.int ((((Str.ofString "do" :: r).map V.str).length : Nat) : Int) = V.int 3) := fun z => by
          injection z with z
          rw [List.length_map] at z
          have : (((r.length + 1 : Nat)) : Int) = 3 := z
          rcases n2 with y | y
          · exact y rfl
          · omega
        rw [decide_eq_false l3]
        refine iteF ?_
        wtm_at "zw"
        exact fin _ _ rfl
      · wtm_at "zw"
        by_cases hk : h = Str.ofString "look"
        · subst hk
          rcases n3 with y | y
          · exact absurd rfl y
          · subst y
            wtm_at "zw"
            exact fin _ _ rfl
        · wtm_at "zw"
          exact fin _ _ rfl
    | doName x y e n =>
      subst e
      rw [decide_eq_false (ne1 _ _ _)]
      refine iteF ?_
      wtm_at "zw"
      rw [decide_eq_true (by rfl)]
      refine iteT ?_
      wtm_at "zw"
      exact ⟨x, rfl, (by have := lw x (by simp); omega), .inr ⟨n, fun H2 S2 => q H2 (S1.trans S2)⟩⟩
    | doNum x y e wx b =>
      subst e
      rw [decide_eq_false (ne1 _ _ _)]
      refine iteF ?_
      wtm_at "zw"
      rw [decide_eq_true (by rfl)]
      refine iteT ?_
      wtm_at "zw"
      refine ⟨x, rfl, (by have := wx.hi; omega), .inl ⟨wx, fun H2 S2 => ?_⟩⟩
      have hl2 := S2 _ _ hl1
      wtm_at "zw"
      exact ⟨y, rfl, (by have := lw y (by simp); omega), .inr ⟨b, fun H3 S3 => q H3 ((S1.trans S2).trans S3)⟩⟩
    | lookName x r e n =>
      subst e
      rw [decide_eq_false (ne1 _ _ _)]
      refine iteF ?_
      wtm_at "zw"
      rw [decide_eq_true (ln2 _ _)]
      refine ⟨_, _, rfl, .inl ⟨rfl, ?_⟩⟩
      wtm_at "zw"
      refine w_ixL (SqL.of hl1) (show atI ((Str.ofString "look" :: x :: r).map V.str) ((1 : Nat) : Int) = some (.str x) from atI_nat rfl) ?_
      wtm_at "zw"
      exact ⟨x, rfl, (by have := lw x (by simp); omega), .inr ⟨n, fun H2 S2 => q H2 (S1.trans S2)⟩⟩
    | lookFork x fs v post e wx gf b =>
      subst e
      rw [decide_eq_false (ne1 _ _ _)]
      refine iteF ?_
      wtm_at "zw"
      rw [decide_eq_true (ln2 _ _)]
      refine ⟨_, _, rfl, .inl ⟨rfl, ?_⟩⟩
      wtm_at "zw"
      refine w_ixL (SqL.of hl1) (show atI ((Str.ofString "look" :: x :: (fs.map forkS ++ v :: post)).map V.str) ((1 : Nat) : Int) = some (.str x) from atI_nat rfl) ?_
      wtm_at "zw"
      refine ⟨x, rfl, (by have := wx.hi; omega), .inl ⟨wx, fun H2 S2 => ?_⟩⟩
      have hl2 := S2 _ _ hl1
      wtm_at "zf"
      refine ⟨l, _, rfl, SqL.of hl2, fun p2 hp2 => ?_⟩
      rw [cut2]
      have S3 := same_new hp2 (.lst ((fs.map forkS ++ v :: post).map V.str))
      have e3 : upd H2 p2 (.lst ((fs.map forkS ++ v :: post).map V.str)) p2 = some (.lst ((fs.map forkS ++ v :: post).map V.str)) := upd_same
      generalize upd H2 p2 (.lst ((fs.map forkS ++ v :: post).map V.str)) = H3 at S3 e3 ⊢
      refine ⟨p2, rfl, ⟨_, SqL.of e3⟩, comp_forks e3 (by have : (Str.ofString "look" :: x :: (fs.map forkS ++ v :: post)).length = (fs.map forkS ++ v :: post).length + 1 + 1 := rfl; omega) (fun u hu => lw u (List.mem_cons_of_mem _ (List.mem_cons_of_mem _ hu))) fs gf (.inr ⟨v, post, rfl, b, fun H4 S4 => q H4 (((S1.trans S2).trans S3).trans S4)⟩)⟩
theorem sc_read_plan : FnScope ["text"] ["text"] (defScope (top 17)) := ⟨rfl, rfl, rfl, by decide +kernel, rfl, by decide +kernel, by decide +kernel⟩
theorem co_read_plan1 : CompOk (defScope (top 17)) ["text"] (scAt (defBody (top 17)) [0] []) ["row"] 1 [] :=
  ⟨by decide +kernel, by decide +kernel, by decide +kernel, by decide +kernel, by decide +kernel, by decide +kernel, by decide +kernel, by decide +kernel⟩
noncomputable def spRPlan (C : Addr) : Sp := fun vs H Q E => ∃ (rows : List Str) (ns : List Nd), vs = [.str (Txt.join (Str.ofString "\n") rows)] ∧ rows ≠ [] ∧ rows.length ≤ 100 ∧ (∀ r ∈ rows, r.length ≤ 1000 ∧ ∀ c ∈ r.cps.toList, c ≠ 10) ∧ (∀ n ∈ ns, n.Good) ∧
  ((rows = ns.map Nd.row ∧ ∀ l us H', H l = none → Same H H' → H' l = some (.lst us) → Paired (NdAt H') ns us → Q (.ref l) H') ∨ (∃ b post, rows = ns.map Nd.row ++ b :: post ∧ BadRow (Txt.split b (Str.ofString " ")) ∧ ∀ H', Same H H' → E (.ref C) none H'))
theorem dx_rplan {C : Addr} (F : Fd K mg "read_plan" (top 17) ["text"]) (X_read_node : Dx P w K mg base "read_node" 5 ["words"] (spRNode C)) : Dx P w K mg base "read_plan" 6 ["text"] (spRPlan C) := by
  refine F.okx sc_read_plan (fun vs H Q E h => ?_) (fun f cdv A outer s H vs Q E hr h => ?_)
  · obtain ⟨_, _, rfl, _⟩ := h
    rfl
  obtain ⟨rows, ns, rfl, ne, lr, fr, good, h⟩ := h
  refine ⟨_, (pss_one (ps_ret (pe_compX co_read_plan1 (pi_listK (K := K) (pe_bmK (K := K) PySem.F.plainAttrs_str PySem.F.slot_str_split PySem.F.type_str_split mt_split (pv 0) (pa_cons pe_str pa_nil))) (fun cl fp s H => (pg_name (i := 0) co_read_plan1.nd rfl (Or.inl rfl) (.inr rfl))) (fun cl fp s H => pts_nil) (fun cl fp s H => (pe_callXC X_read_node hr (pa_cons (pe_bmK (K := K) PySem.F.plainAttrs_str PySem.F.slot_str_split PySem.F.type_str_split mt_split (pv 0) (pa_cons pe_str pa_nil)) pa_nil)))))), ?_⟩
  have lt : (Txt.join (Str.ofString "\n") rows).length ≤ 1000000 := by
    have h1 := join_len (Str.ofString "\n") rows
    have h2 := sum_le (ws := rows) (m := 1000) fun v hv => (fr v hv).1
    have : (Str.ofString "\n").length = 1 := by rw [c_feed]; rfl
    rw [this] at h1
    have : rows.length * 1000 ≤ 100 * 1000 := Nat.mul_le_mul_right _ lr
    omega
  have es : Txt.split (Txt.join (Str.ofString "\n") rows) (Str.ofString "\n") = rows := by
    rw [c_feed]
    exact split_join ne fun v hv z => (fr v hv).2 _ z rfl
  have lf : ns.length ≤ rows.length := by
    rcases h with ⟨e, _⟩ | ⟨b, post, e, _⟩
    · rw [e, List.length_map]; exact Nat.le_refl _
    · rw [e, List.length_append, List.length_map]; omega
  wtm_at "zf"
  refine ⟨_, _, rfl, rfl, (by rw [c_feed]; decide), lt, fun l0 hl0 => ?_⟩
  rw [es]
  have S1 := same_new hl0 (.lst (rows.map V.str))
  have e1 : upd H l0 (.lst (rows.map V.str)) l0 = some (.lst (rows.map V.str)) := upd_same
  generalize upd H l0 (.lst (rows.map V.str)) = H1 at S1 e1 ⊢
  refine ⟨l0, rfl, ⟨_, SqL.of e1⟩, ?_⟩
  refine comp_list (xs := rows.map V.str) (fun D i ys H' => i ≤ ns.length ∧ Paired (NdAt H') (ns.take i) ys ∧ Same H1 H') (fun D hD => ⟨Nat.zero_le _, .nil, same_new hD _⟩)
    (fun D i ys H' _ hP => SqL.of (hP.2.2 _ _ e1)) (fun D i u ys H' N hD hDy ex hP hN => ?_) (fun D ys H4 hD hDy hP => ?_)
  · obtain ⟨il, pp, hk⟩ := hP
    have hi := (List.getElem?_eq_some_iff.mp ex).1
    rw [List.length_map] at hi
    obtain ⟨v, ev⟩ : ∃ b, rows[i]? = some b := ⟨_, List.getElem?_eq_getElem hi⟩
    have eu : u = .str v := by
      rw [List.getElem?_map, ev] at ex
      exact (Option.some.inj ex).symm
    subst eu
    have lv := (fr v (List.mem_of_getElem? ev)).1
    refine ⟨⟨[some (.str v)], rfl, rfl⟩, w_yes (iteT ?_)⟩
    wtm_at "zw"
    refine ⟨_, _, rfl, rfl, (by rw [c_blank]; decide), by omega, fun l4 hl4 => ?_⟩
    have wt := PyProof.Rows.split_weight v (Str.ofString " ") (by rw [c_blank]; decide)
    have lp : ∀ w ∈ Txt.split v (Str.ofString " "), w.length ≤ 1000 := fun w hw => by have := PyProof.Rows.part_short hw; omega
    have lq : (Txt.split v (Str.ofString " ")).length ≤ 1001 := by omega
    have S5 := same_new hl4 (.lst ((Txt.split v (Str.ofString " ")).map V.str))
    have e5 : upd H' l4 (.lst ((Txt.split v (Str.ofString " ")).map V.str)) l4 = some (.lst ((Txt.split v (Str.ofString " ")).map V.str)) := upd_same
    generalize upd H' l4 (.lst ((Txt.split v (Str.ofString " ")).map V.str)) = H5 at S5 e5 ⊢
    wtm_at "zw"
    refine ⟨l4, _, rfl, e5, lq, lp, ?_⟩
    by_cases hlt : i < ns.length
    · obtain ⟨g, eg⟩ : ∃ b, ns[i]? = some b := ⟨_, List.getElem?_eq_getElem hlt⟩
      have gg := good g (List.mem_of_getElem? eg)
      have ew : v = g.row := by
        rcases h with ⟨e, _⟩ | ⟨b, post, e, _⟩
        · rw [e, List.getElem?_map, eg] at ev
          exact (Option.some.inj ev).symm
        · rw [e, List.getElem?_append_left (by rw [List.length_map]; exact hlt), List.getElem?_map, eg] at ev
          exact (Option.some.inj ev).symm
      subst ew
      refine .inl ⟨g, gg, row_split gg, fun u6 H6 S6 e6 => ?_⟩
      have S7 := S5.trans S6
      have ly := Paired.length pp
      rw [List.length_take] at ly
      have d6 := S7 _ _ hDy
      refine ⟨d6, small (by omega), hN _ _ upd_same ⟨hlt, ?_, (hk.trans S7).set hD⟩⟩
      rw [take_snoc eg]
      exact paired_snoc (Paired.mapP pp fun _ _ z => (z.same S7).but d6) (e6.but d6)
    · rcases h with ⟨e, _⟩ | ⟨b, post, e, bd, q⟩
      · rw [e, List.length_map] at hi
        exact absurd hi hlt
      · have e0 : i = ns.length := by omega
        have ew : v = b := by
          rw [e, List.getElem?_append_right (by rw [List.length_map]; omega), List.length_map, e0, Nat.sub_self] at ev
          exact (Option.some.inj ev).symm
        subst ew
        exact .inr ⟨bd, fun H6 S6 => q H6 (((S1.trans hk).trans S5).trans S6)⟩
  · obtain ⟨il, pp, hk⟩ := hP
    rw [List.length_map] at il pp
    rcases h with ⟨e, q⟩ | ⟨b, post, e, _⟩
    · rw [e, List.length_map, List.take_length] at pp
      exact q D ys H4 (S1.free hD) (S1.trans hk) hDy pp
    · rw [e, List.length_append, List.length_map] at il
      have : (b :: post).length = post.length + 1 := rfl
      omega

theorem sc_law_node_row : FnScope ["node", "row", "fork"] ["node"] (defScope (top 33)) := ⟨rfl, rfl, rfl, by decide +kernel, rfl, by decide +kernel, by decide +kernel⟩
theorem co_law_node_row1 : CompOk (defScope (top 33)) ["node", "row", "fork"] (scAt (defBody (top 33)) [0] [1]) ["part"] 1 [] :=
  ⟨by decide +kernel, by decide +kernel, by decide +kernel, by decide +kernel, by decide +kernel, by decide +kernel, by decide +kernel, by decide +kernel⟩
theorem comp_strA {σ : St} {H : Hp} {Q : VK} {a : Addr} {xs : List V} (hx : H a = some (.tup xs)) (ok : ∀ x ∈ xs, (∃ i, x = .int i ∧ i.natAbs < 200) ∨ ∃ z, x = .str z) (l : xs.length ≤ 100) (q : ∀ (D : Addr) (H2 : Hp), Same H H2 → H2 D = some (.lst ((xs.map txV).map V.str)) → Q (.ref D) H2) :
    rdC 1 [] (gName 0) tYes (tCB rStrA (tCons (tVar 0) tNil)) (Itt K a) σ H Q := by
  refine comp_tup (xs := xs) (fun D i ys H' => ys = ((xs.take i).map txV).map V.str ∧ Same H H') (fun D hD => ⟨rfl, same_new hD _⟩)
    (fun D i ys H' _ hP => SqT.of (hP.2 _ _ hx)) (fun D i u ys H' N hD hDy ex hP hN => ?_) (fun D ys H2 hD hDy hP => ?_)
  · obtain ⟨rfl, hk⟩ := hP
    have hi := (List.getElem?_eq_some_iff.mp ex).1
    refine ⟨⟨[some u], rfl, rfl⟩, w_yes (iteT ?_)⟩
    wtm_at "zw"
    refine ⟨u, rfl, ?_, hDy, ?_, hN _ _ upd_same ⟨?_, hk.set hD⟩⟩
    · rcases ok u (List.mem_of_getElem? ex) with ⟨i, e, h⟩ | h
      · exact .inl ⟨i, e, log_lt (Nat.lt_of_lt_of_le h (by decide +kernel))⟩
      · exact .inr h
    · rw [List.length_map, List.length_map, List.length_take]; exact small (by omega)
    · rw [take_snoc ex, List.map_append, List.map_append]; rfl
  · obtain ⟨rfl, hk⟩ := hP
    rw [List.take_length] at hDy
    exact q D H2 hk hDy
theorem d_end : decide (V.str (Str.ofString "end") = V.str (Str.ofString "look")) = false := decide_eq_false fun z => by injection z with z; exact absurd z (by decide +kernel)
theorem d_do : decide (V.str (Str.ofString "do") = V.str (Str.ofString "look")) = false := decide_eq_false fun z => by injection z with z; exact absurd z (by decide +kernel)
theorem dn_lrow (F : Fd K mg "_law_node_row" (top 33) ["node"]) (B : Bl mg) (B_str : mg "str" = none) : Dn P w K mg base "_law_node_row" 1 ["node"] spRow := by
  refine F.ok sc_law_node_row (fun vs H Q E h => ?_) (fun f cdv A outer s H vs Q E hr h => ?_)
  · obtain ⟨_, _, rfl, _⟩ := h
    rfl
  obtain ⟨n, u, rfl, hn, good, q⟩ := h
  refine ⟨_, (pss_cons (ps_set (i := 1) sc_law_node_row.nd rfl (by first | exact Or.inl rfl | exact Or.inr rfl) (pe_bmK (K := K) PySem.F.plainAttrs_str PySem.F.slot_str_join PySem.F.type_str_join mt_join pe_str (pa_cons (pe_comp rfl co_law_node_row1 (pi_tupK (K := K) (pe_slice (sl_tupAK (K := K)) (pv 0) po_none (po_some (pe_op op_sub pe_int (pe_callTy call_int1 rfl B.int' bt_int (pa_cons (pe_cmpR op_eq (pe_ix (ix_tupK (K := K)) (pv 0) pe_int (fun _ _ => rfl)) pe_str (nomark _)) pa_nil)))))) (fun cl fp s H => (pg_name (i := 0) co_law_node_row1.nd rfl (Or.inl rfl) (.inr rfl))) (fun cl fp s H => pts_nil) (fun cl fp s H => (pe_callTy call_strA rfl B_str bt_str (pa_cons (pv 0) pa_nil)))) pa_nil)))
    (pss_cons (ps_if (pt_cmpR op_eq (pe_ix (ix_tupK (K := K)) (pv 0) pe_int (fun _ _ => rfl)) pe_str (nomark _)) (pss_one (ps_for PassesOwn.never rfl (pi_tupK (K := K) (pe_ix (ix_tupK (K := K)) (pv 0) pe_int (fun _ _ => rfl))) (pg_name (i := 2) sc_law_node_row.nd rfl (by first | exact Or.inl rfl | exact Or.inr rfl)) (pss_one (ps_set (i := 1) sc_law_node_row.nd rfl (by first | exact Or.inl rfl | exact Or.inr rfl) (pe_op op_add_str (pe_op op_add_str (pe_op op_add_str (pe_op op_add_str (pv 1) pe_str) (pe_callTy call_strA rfl B_str bt_str (pa_cons (pe_ix (ix_tupK (K := K)) (pv 2) pe_int (fun _ _ => rfl)) pa_nil))) pe_str) (pe_callTy call_strA rfl B_str bt_str (pa_cons (pe_ix (ix_tupK (K := K)) (pv 2) pe_int (fun _ _ => rfl)) pa_nil))))))) pss_nil)
    (pss_one (ps_ret (pv 1))))), ?_⟩
  cases n with
  | fin =>
    obtain ⟨a, rfl, ea⟩ := hn
    wtm_at "zf"
    rw [d_end]
    refine .inr ⟨_, rfl, ?_⟩
    wtm_at "zw"
    refine ⟨a, _, rfl, SqT.of ea, .inl ⟨rfl, by decide, ?_⟩⟩
    refine ⟨a, rfl, ⟨_, SqT.of ea⟩, comp_strA ea (fun x hx => .inr ⟨_, List.mem_singleton.mp hx⟩) (by decide) fun D H2 S2 e2 => ?_⟩
    have ea2 := S2 _ _ ea
    wtm_at "zw"
    refine ⟨_, D, (Nd.fin).words, rfl, rfl, e2, Nat.le_trans (words_sum good) (by decide), ?_⟩
    wtm_at "zw"
    exact q H2 S2
  | act x to =>
    obtain ⟨a, rfl, ea⟩ := hn
    wtm_at "zf"
    rw [d_do]
    refine .inr ⟨_, rfl, ?_⟩
    wtm_at "zw"
    refine ⟨a, _, rfl, SqT.of ea, .inl ⟨rfl, by show min 3 3 = 3; decide, ?_⟩⟩
    refine ⟨a, rfl, ⟨_, SqT.of ea⟩, comp_strA ea (fun x hx => ?_) (Nat.le_of_ble_eq_true rfl) fun D H2 S2 e2 => ?_⟩
    · rcases List.mem_cons.mp hx with e | hx
      · exact .inr ⟨_, e⟩
      · rcases List.mem_cons.mp hx with e | hx
        · exact .inr ⟨_, e⟩
        · exact .inl ⟨_, List.mem_singleton.mp hx, by have := good.2; omega⟩
    have ea2 := S2 _ _ ea
    have ew : ([V.str (Str.ofString "do"), .str x, .int (to : Int)].map txV) = (Nd.act x to).words := by
      show [Str.ofString "do", x, Str.ofString (toString ((to : Nat) : Int))] = _
      rw [dec_text]
      rfl
    rw [ew] at e2
    wtm_at "zw"
    refine ⟨_, D, (Nd.act x to).words, rfl, rfl, e2, Nat.le_trans (words_sum good) (by decide), ?_⟩
    wtm_at "zw"
    exact q H2 S2
  | see x fs =>
    obtain ⟨a, p, us, rfl, ea, ep, pf⟩ := hn
    have lu := Paired.length pf
    wtm_at "zf"
    rw [decide_eq_true (show V.str (Str.ofString "look") = V.str (Str.ofString "look") from rfl)]
    refine .inr ⟨_, rfl, ?_⟩
    wtm_at "zw"
    refine ⟨a, _, rfl, SqT.of ea, .inr ⟨fun z => absurd z.2 (by show ¬ (min 2 3 = 3); decide), fun p1 hp1 => ?_⟩⟩
    have S1 := same_new hp1 (.tup [V.str (Str.ofString "look"), V.str x])
    have e1 : upd H p1 (.tup [V.str (Str.ofString "look"), V.str x]) p1 = some (.tup [V.str (Str.ofString "look"), V.str x]) := upd_same
    show ∃ a_1, V.ref p1 = V.ref a_1 ∧ (∃ xs, SqT K (upd H p1 (.tup [V.str (Str.ofString "look"), V.str x])) a_1 xs) ∧ rdC _ _ _ _ _ _ _ (upd H p1 (.tup [V.str (Str.ofString "look"), V.str x])) _
    generalize upd H p1 (.tup [V.str (Str.ofString "look"), V.str x]) = H1 at S1 e1 ⊢
    refine ⟨p1, rfl, ⟨_, SqT.of e1⟩, comp_strA e1 (fun x hx => ?_) (Nat.le_of_ble_eq_true rfl) fun D H2 S2 e2 => ?_⟩
    · rcases List.mem_cons.mp hx with e | hx
      · exact .inr ⟨_, e⟩
      · exact .inr ⟨_, List.mem_singleton.mp hx⟩
    have S3 := S1.trans S2
    have ea2 := S3 _ _ ea
    have ep2 := S3 _ _ ep
    have g0 := take_words 0 good
    wtm_at "zw"
    refine ⟨_, D, (Nd.see x (fs.take 0)).words, rfl, rfl, e2, Nat.le_trans (words_sum g0) (by decide), ?_⟩
    wtm_at "zf"
    refine ⟨p, rfl, ⟨us, SqT.of ep2⟩, ?_⟩
    refine for_tup (xs := us) (fun i σ' H' => ∃ z, σ' = [some (.ref a), some (.str (Nd.see x (fs.take i)).row), z] ∧ H' = H2) ⟨none, rfl, rfl⟩ (fun i σ' H' _ hP => by obtain ⟨_, _, rfl⟩ := hP; exact SqT.of ep2) ?_ ?_
    · rintro i u σ' H' ex ⟨z, rfl, rfl⟩
      have hi := (List.getElem?_eq_some_iff.mp ex).1
      obtain ⟨g, eg⟩ : ∃ b, fs[i]? = some b := ⟨_, List.getElem?_eq_getElem (by omega)⟩
      have gg := good.2.2 g (List.mem_of_getElem? eg)
      obtain ⟨c, rfl, ec⟩ := paired_get pf eg ex
      have ec' := S3 _ _ ec
      have rl := row_len (take_words i good)
      have e1 : txV (.int g.1) = numS g.1 := num_text _
      have e2 : txV (.int ((g.2 : Nat) : Int)) = dec g.2 := dec_text _
      have l1 : (Str.ofString " ").length = 1 := by rw [c_blank]; rfl
      have l2 : (Str.ofString ":").length = 1 := by rw [c_colon]; rfl
      have l3 := num_len gg.1
      have l4 := (figs gg.2).hi
      wtm_at "zw"
      refine ⟨_, _, rfl, rfl, line_le (by rw [l1]; omega), ?_⟩
      wtm_at "zw"
      refine ⟨_, rfl, .inl ⟨_, rfl, log_lt (Nat.lt_of_lt_of_le gg.1 (by decide +kernel))⟩, ?_⟩
      rw [e1]
      refine ⟨_, _, rfl, rfl, line_le (by rw [len_app, l1]; omega), ?_⟩
      wtm_at "zw"
      refine ⟨_, _, rfl, rfl, line_le (by rw [len_app, len_app, l1, l2]; omega), ?_⟩
      wtm_at "zw"
      refine ⟨_, rfl, .inl ⟨_, rfl, log_lt (Nat.lt_of_lt_of_le (show ((g.2 : Nat) : Int).natAbs < 200 by have := gg.2; omega) (by decide +kernel))⟩, ?_⟩
      rw [e2]
      refine ⟨_, _, rfl, rfl, line_le (by rw [len_app, len_app, len_app, l1, l2]; omega), ?_⟩
      wtm_at "zw"
      refine ⟨some (.ref c), ?_, rfl⟩
      have er : (Nd.see x (fs.take (i + 1))).row = (Nd.see x (fs.take i)).row ++ Str.ofString " " ++ numS g.1 ++ Str.ofString ":" ++ dec g.2 := by
        unfold Nd.row
        have : (Nd.see x (fs.take (i + 1))).words = (Nd.see x (fs.take i)).words ++ [forkS g] := by
          show Str.ofString "look" :: x :: (fs.take (i + 1)).map forkS = Str.ofString "look" :: x :: (fs.take i).map forkS ++ [forkS g]
          rw [take_snoc eg, List.map_append]
          rfl
        rw [this, join_snoc _ _ (words_ne _)]
        apply str_ext
        unfold forkS
        simp only [codes_app, List.append_assoc]
      rw [er]
      rfl
    · rintro σ' H' ⟨z, rfl, rfl⟩
      rw [← lu, List.take_length]
      wtm_at "zw"
      exact q _ S3

theorem sc_law_nodes : FnScope ["script", "drawn", "words", "found", "many", "k", "deck", "kind", "name", "forks", "j"] ["script"] (defScope (top 32)) := ⟨rfl, rfl, rfl, by decide +kernel, rfl, by decide +kernel, by decide +kernel⟩
theorem co_law_nodes1 : CompOk (defScope (top 32)) ["script", "drawn", "words", "found", "many", "k", "deck", "kind", "name", "forks", "j"] (scAt (defBody (top 32)) [4, 3, 1, 3] [1, 2, 1]) ["sight", "forks"] 1 [9] :=
  ⟨by decide +kernel, by decide +kernel, by decide +kernel, by decide +kernel, by decide +kernel, by decide +kernel, by decide +kernel, by decide +kernel⟩
noncomputable def spNodes (K : PySem.W.Frag) : Sp := fun vs H Q _ => ∃ (a : Addr) (cs : List Int), vs = [.ref a] ∧ SqL K H a (cs.map V.int) ∧ ∀ (l : Addr) (us : List V) (ns : List Nd) (H' : Hp), H l = none → Same H H' → H' l = some (.lst us) → Paired (NdAt H') ns us → ns ≠ [] → (∀ n ∈ ns, n.Good) → ns.length ≤ 40 → Q (.ref l) H'
noncomputable def GoodK (kvs : List (Key × V)) : Prop := ∀ p ∈ kvs, ∃ (i : Int) (n : Nat), p = (Sum.inl i, V.int n) ∧ i.natAbs < 200 ∧ n < 200
theorem GoodK.put {kvs : List (Key × V)} {i : Int} {n : Nat} (h : GoodK kvs) (hi : i.natAbs < 200) (hn : n < 200) : GoodK (putK kvs (Sum.inl i) (.int n)) := by
  intro p hp
  unfold putK at hp
  split at hp
  · obtain ⟨r, hr, e⟩ := List.mem_map.mp hp
    obtain ⟨j, m, er, h1, h2⟩ := h r hr
    subst er
    by_cases z : (Sum.inl j : Key) = Sum.inl i
    · rw [if_pos z] at e
      exact ⟨j, n, e.symm, h1, hn⟩
    · rw [if_neg z] at e
      exact ⟨j, m, e.symm, h1, h2⟩
  · rcases List.mem_append.mp hp with z | z
    · exact h p z
    · exact ⟨i, n, List.mem_singleton.mp z, hi, hn⟩
theorem put_len (kvs : List (Key × V)) (k : Key) (v : V) : (putK kvs k v).length ≤ kvs.length + 1 := by
  unfold putK
  split
  · rw [List.length_map]; omega
  · rw [List.length_append]; exact Nat.le_refl _
theorem val_some {kvs : List (Key × V)} {k : Key} {v : V} (h : (k, v) ∈ kvs) : ∃ v', valV kvs k = some v' ∧ (k, v') ∈ kvs := by
  unfold valV
  cases e : kvs.find? fun kv => decide (kv.1 = k) with
  | none => exact absurd (List.find?_eq_none.mp e _ h) (by simp)
  | some p =>
    have h1 := List.find?_some e
    have h2 := List.mem_of_find?_eq_some e
    obtain ⟨a, b⟩ := p
    have : a = k := of_decide_eq_true h1
    subst this
    exact ⟨b, rfl, h2⟩
noncomputable def GoodF (fs : List (Int × Nat)) : Prop := ∀ f ∈ fs, f.1.natAbs < 200 ∧ f.2 < 200
theorem comp_items {σ : St} {H : Hp} {Q : VK} {d : Addr} {o : Obj} {kvs : List (Key × V)} {j : Nat} (hσ : frees [j] σ = [some (.ref d)]) (hd : H d = some (.frz o (.dK kvs))) (ok : GoodK kvs) (l : kvs.length ≤ 100)
    (q : ∀ (D : Addr) (H2 : Hp) (fs : List (Int × Nat)) (ys : List V), Same H H2 → H2 D = some (.lst ys) → Paired (PairN H2) fs ys → GoodF fs → fs.length = kvs.length → Q (.ref D) H2) :
    rdC 1 [j] (gName 0) tYes (tTup (tCons (tVar 0) (tCons (tDGet (tVar 1) (tVar 0)) tNil))) (Itd d o kvs) σ H Q := by
  refine comp_dict (fun D i ys H' => ∃ fs, Paired (PairN H') fs ys ∧ fs.length = i ∧ GoodF fs ∧ Same H H') (fun D hD => ⟨[], .nil, rfl, (fun f hf => nomatch hf), same_new hD _⟩)
    (fun D i ys H' _ hP => by obtain ⟨_, _, _, _, S⟩ := hP; exact S _ _ hd) (fun D i k v ys H' N hD hDy ec hP hN => ?_) (fun D ys H2 hD hDy hP => ?_)
  · obtain ⟨fs, pf, lf, gf, S⟩ := hP
    have hm := List.mem_of_getElem? ec
    have hi := (List.getElem?_eq_some_iff.mp ec).1
    obtain ⟨v', ev, hm'⟩ := val_some hm
    obtain ⟨x, n, e, h1, h2⟩ := ok _ hm'
    injection e with e1 e2
    subst e1 e2
    have ly := Paired.length pf
    have hd' := S _ _ hd
    refine ⟨⟨[some (.int x)], rfl, rfl⟩, w_yes (iteT ?_)⟩
    have st : (stC 1 [j] σ).set 0 (some (V.int x)) = [some (.int x), some (.ref d)] := by
      show ([none] ++ frees [j] σ).set 0 (some (V.int x)) = _
      rw [hσ]
      rfl
    show tTup _ ((stC 1 [j] σ).set 0 (some (V.int x))) H' _
    rw [st]
    wtm_at "zw"
    refine ⟨d, .int n, rfl, .inl ⟨kvs, Sum.inl x, .inr ⟨o, hd'⟩, rfl, ev.symm⟩, ?_⟩
    wtm_at "zw"
    refine ⟨line_le (show 2 ≤ 1000000 by decide), fun p hp => ?_⟩
    have np : p ≠ D := fun z => by rw [z, hDy] at hp; cases hp
    refine ⟨same_new hp _ _ _ hDy, small (by omega), hN _ _ upd_same ⟨fs ++ [(x, n)], ?_, by rw [List.length_append, lf]; rfl, ?_, (S.trans (same_new hp _)).set hD⟩⟩
    · have nf : ∀ f u, PairN H' f u → PairN (upd (upd H' p (.tup [V.int x, V.int n])) D (.lst (ys ++ [V.ref p]))) f u := fun f u ⟨a, ea, h⟩ => ⟨a, ea, by
        rw [upd_ne (fun z => by rw [z, hDy] at h; cases h)]; exact same_new hp _ _ _ h⟩
      exact paired_snoc (Paired.mapP pf nf) ⟨p, rfl, by rw [upd_ne np]; exact upd_same⟩
    · intro f hf
      rcases List.mem_append.mp hf with z | z
      · exact gf f z
      · rw [List.mem_singleton.mp z]; exact ⟨h1, h2⟩
  · obtain ⟨fs, pf, lf, gf, S⟩ := hP
    exact q D H2 fs ys S hDy pf gf lf
theorem dn_nodes (F : Fd K mg "_law_nodes" (top 32) ["script"]) (B : Bl mg) (D_law_cell_at : Dn P w K mg base "_law_cell_at" 1 ["script", "k"] (spCell K)) (D_law_drawn : Dn P w K mg base "_law_drawn" 2 ["cell", "sizes"] spDrawn)
    (D_law_deck : Dn P w K mg base "_law_deck" 2 ["cell"] spDeck) (D_law_take : Dn P w K mg base "_law_take" 1 ["deck", "many"] spTake) (D_law_unlike : Dn P w K mg base "_law_unlike" 1 ["number", "many"] spUnlike) :
    Dn P w K mg base "_law_nodes" 3 ["script"] (spNodes K) := by
  refine F.ok sc_law_nodes (fun vs H Q E h => ?_) (fun f cdv A outer s H vs Q E hr h => ?_)
  · obtain ⟨_, _, rfl, _⟩ := h
    rfl
  obtain ⟨a, cs, rfl, hS, q⟩ := h
  have hu := hu_of hr
  have pw : CPow 10 9 := ⟨by decide, by decide, by decide⟩
  refine ⟨_, (pss_cons (ps_set (i := 1) sc_law_nodes.nd rfl (by first | exact Or.inl rfl | exact Or.inr rfl) (pe_callD D_law_drawn hr (pa_cons (pe_callD D_law_cell_at hr (pa_cons (pv 0) (pa_cons pe_int pa_nil))) (pa_cons (pe_lst (pa_cons (pe_op op_pow pe_int pe_int) (pa_cons pe_int pa_nil))) pa_nil))))
    (pss_cons (ps_set (i := 2) sc_law_nodes.nd rfl (by first | exact Or.inl rfl | exact Or.inr rfl) (pe_callD D_law_unlike hr (pa_cons (pe_ix (ix_listK (K := K)) (pv 1) pe_int (fun _ _ => rfl)) (pa_cons pe_int pa_nil))))
    (pss_cons (ps_set (i := 3) sc_law_nodes.nd rfl (by first | exact Or.inl rfl | exact Or.inr rfl) (pe_lst pa_nil))
    (pss_cons (ps_set (i := 4) sc_law_nodes.nd rfl (by first | exact Or.inl rfl | exact Or.inr rfl) (pe_op op_add pe_int (pe_ix (ix_listK (K := K)) (pv 1) pe_int (fun _ _ => rfl))))
    (pss_cons (ps_for PassesOwn.never rfl (pi_range1 rfl B.range' (pa_cons (pv 4) pa_nil)) (pg_name (i := 5) sc_law_nodes.nd rfl (by first | exact Or.inl rfl | exact Or.inr rfl)) (pss_cons (ps_set (i := 6) sc_law_nodes.nd rfl (by first | exact Or.inl rfl | exact Or.inr rfl) (pe_callD D_law_deck hr (pa_cons (pe_op op_add (pe_callD D_law_cell_at hr (pa_cons (pv 0) (pa_cons (pe_op op_add pe_int (pv 5)) pa_nil))) (pe_op op_mulB pe_int (pv 5))) pa_nil)))
    (pss_cons (ps_set (i := 7) sc_law_nodes.nd rfl (by first | exact Or.inl rfl | exact Or.inr rfl) (pe_callD D_law_take hr (pa_cons (pv 6) (pa_cons pe_int pa_nil))))
    (pss_cons (ps_set (i := 8) sc_law_nodes.nd rfl (by first | exact Or.inl rfl | exact Or.inr rfl) (pe_ix (ix_listK (K := K)) (pv 2) (pe_callD D_law_take hr (pa_cons (pv 6) (pa_cons pe_int pa_nil))) (fun _ _ => rfl)))
    (pss_one (ps_if (pt_cmpR op_eq (pv 7) pe_int (nomark _)) (pss_one (ps_expr (pe_bmK (K := K) PySem.F.plainAttrs_list PySem.F.slot_list_append PySem.F.type_list_append mt_append (pv 3) (pa_cons (pe_tup (pa_cons pe_str pa_nil)) pa_nil)))) (pss_one (ps_if (pt_cmpR op_lt (pv 7) pe_int (nomark _)) (pss_one (ps_expr (pe_bmK (K := K) PySem.F.plainAttrs_list PySem.F.slot_list_append PySem.F.type_list_append mt_append (pv 3) (pa_cons (pe_tup (pa_cons pe_str (pa_cons (pv 8) (pa_cons (pe_op op_mod (pe_callD D_law_take hr (pa_cons (pv 6) (pa_cons pe_int pa_nil))) (pv 4)) pa_nil)))) pa_nil)))) (pss_cons (ps_set (i := 9) sc_law_nodes.nd rfl (by first | exact Or.inl rfl | exact Or.inr rfl) pe_dnewK)
    (pss_cons (ps_for PassesOwn.never rfl (pi_range1 rfl B.range' (pa_cons (pe_callD D_law_take hr (pa_cons (pv 6) (pa_cons pe_int pa_nil))) pa_nil)) (pg_name (i := 10) sc_law_nodes.nd rfl (by first | exact Or.inl rfl | exact Or.inr rfl)) (pss_one (ps_dput hu (pv 9) (pe_op op_sub (pe_callD D_law_take hr (pa_cons (pv 6) (pa_cons (pe_ix (ix_listK (K := K)) (pe_lst (pa_cons pe_int (pa_cons pe_int pa_nil))) (pe_callD D_law_take hr (pa_cons (pv 6) (pa_cons pe_int pa_nil))) (fun _ _ => rfl)) pa_nil))) (pe_callD D_law_take hr (pa_cons (pv 6) (pa_cons pe_int pa_nil)))) (pe_op op_mod (pe_callD D_law_take hr (pa_cons (pv 6) (pa_cons pe_int pa_nil))) (pv 4)) rfl)))
    (pss_one (ps_expr (pe_bmK (K := K) PySem.F.plainAttrs_list PySem.F.slot_list_append PySem.F.type_list_append mt_append (pv 3) (pa_cons (pe_tup (pa_cons pe_str (pa_cons (pv 8) (pa_cons (pe_callTy (call_tupleK (K := K)) rfl B.tuple' bt_tuple (pa_cons (pe_comp rfl co_law_nodes1 (pi_dict (pv 9)) (fun cl fp s H => (pg_name (i := 0) co_law_nodes1.nd rfl (Or.inl rfl) (.inr rfl))) (fun cl fp s H => pts_nil) (fun cl fp s H => (pe_tup (pa_cons (pv 0) (pa_cons (pe_dget hu (pv 1) (pv 0) (fun _ _ => rfl)) pa_nil))))) pa_nil)) pa_nil)))) pa_nil))))))))))))))
    (pss_one (ps_ret (pv 3)))))))), ?_⟩
  wtm_at "zw"
  refine ⟨a, cs, 0, rfl, hS, Int.le_refl _, fun c => ?_⟩
  wtm_at "zw"
  refine w_I pw ?_
  wtm_at "zw"
  refine ⟨line_le (show 2 ≤ 1000000 by decide), fun p hp => ?_⟩
  have S1 := same_new hp (.lst [V.int (10 ^ (9 : Int).toNat), V.int 40])
  have e1 : upd H p (.lst [V.int (10 ^ (9 : Int).toNat), V.int 40]) p = some (.lst (intsV [1000000000, 40])) := upd_same
  generalize upd H p (.lst [V.int (10 ^ (9 : Int).toNat), V.int 40]) = H1 at S1 e1 ⊢
  wtm_at "zw"
  refine ⟨c, p, [1000000000, 40], rfl, e1, by decide, by decide, fun r xs hr' hl hb => ?_⟩
  obtain ⟨x0, x1, rfl⟩ : ∃ x0 x1, xs = [x0, x1] := by
    match xs, hl with
    | [y0, y1], _ => exact ⟨y0, y1, rfl⟩
  have b0 := hb 0 x0 1000000000 rfl rfl
  have b1 := hb 1 x1 40 rfl rfl
  have S2 := S1.trans (same_new hr' (.lst (intsV [x0, x1])))
  have e2 : upd H1 r (.lst (intsV [x0, x1])) r = some (.lst [.int x0, .int x1]) := upd_same
  generalize upd H1 r (.lst (intsV [x0, x1])) = H2 at S2 e2 ⊢
  wtm_at "zw"
  refine ⟨x0, 6, rfl, b0.1, by decide, by decide, fun rw ws hrw lw W => ?_⟩
  have S3 := S2.trans (same_new hrw (.lst (strsV ws)))
  have e3 := same_new hrw (.lst (strsV ws)) _ _ e2
  have e3w : upd H2 rw (.lst (strsV ws)) rw = some (.lst (strsV ws)) := upd_same
  generalize upd H2 rw (.lst (strsV ws)) = H3 at S3 e3 e3w ⊢
  wtm_at "zw"
  refine ⟨line_le (Nat.zero_le _), fun fl hfl => ?_⟩
  have S4 := same_new hfl (.lst [])
  have e4 : upd H3 fl (.lst []) fl = some (.lst []) := upd_same
  have e4r := S4 _ _ e3
  generalize upd H3 fl (.lst []) = H4 at S4 e4 e4r ⊢
  wtm_at "zf"
  refine ⟨1 + x1, rfl, by omega, by omega, ?_⟩
  refine for_rangeN (fun i σ' H' => ∃ (us : List V) (ns : List Nd) (z5 z6 z7 z8 z9 z10 : Option V), σ' = [some (.ref a), some (.ref r), some (.ref rw), some (.ref fl), some (.int (1 + x1)), z5, z6, z7, z8, z9, z10] ∧ Same H3 H' ∧ H' fl = some (.lst us) ∧ Paired (NdAt H') ns us ∧ ns.length = i ∧ ∀ n ∈ ns, n.Good)
    ⟨[], [], none, none, none, none, none, none, rfl, S4, e4, .nil, rfl, fun n hn => nomatch hn⟩ ?_ ?_
  · rintro N rt bk i σ' H' hi ⟨us, ns, z5, z6, z7, z8, z9, z10, rfl, S, ef, pn, ln, gn⟩ hN
    have lu := Paired.length pn
    have i40 : i < 40 := by omega
    have hS' := (S3.trans S).seq hS
    wtm_at "zw"
    refine ⟨a, cs, _, rfl, hS', by omega, fun c' => ?_⟩
    wtm_at "zw"
    refine w_I ⟨by decide +kernel, big _ (by omega) (Int.lt_of_le_of_lt (b := 100) (by omega) (by decide +kernel))⟩ ?_
    wtm_at "zw"
    refine ⟨_, rfl, fun dk de hdk => ?_⟩
    have T1 := same_new hdk (.lst [.int de])
    have d1 : upd H' dk (.lst [.int de]) dk = some (.lst [.int de]) := upd_same
    generalize upd H' dk (.lst [.int de]) = H5 at T1 d1 ⊢
    wtm_at "zw"
    refine ⟨dk, 7, de, rfl, d1, by decide, by decide +kernel, fun kd de2 k0 k1 => ?_⟩
    have T2 : Same H' (upd H5 dk (.lst [.int de2])) := T1.set hdk
    have d2 : upd H5 dk (.lst [.int de2]) dk = some (.lst [.int de2]) := upd_same
    generalize upd H5 dk (.lst [.int de2]) = H6 at T2 d2 ⊢
    wtm_at "zw"
    refine ⟨dk, 6, de2, rfl, d2, by decide, by decide +kernel, fun nx de3 n0 n1 => ?_⟩
    have T3 : Same H' (upd H6 dk (.lst [.int de3])) := T2.set hdk
    have d3 : upd H6 dk (.lst [.int de3]) dk = some (.lst [.int de3]) := upd_same
    generalize upd H6 dk (.lst [.int de3]) = H7 at T3 d3 ⊢
    have hx : nx.toNat < ws.length := by omega
    obtain ⟨nm, enm⟩ : ∃ w, ws[nx.toNat]? = some w := ⟨_, List.getElem?_eq_getElem hx⟩
    have ew : atI (strsV ws) nx = some (.str nm) := by
      have e : ((nx.toNat : Nat) : Int) = nx := by omega
      have z : atI (strsV ws) ((nx.toNat : Nat) : Int) = some (.str nm) := atI_nat (by
        show (ws.map V.str)[nx.toNat]? = _
        rw [List.getElem?_map, enm]
        rfl)
      rw [e] at z
      exact z
    have gw := W _ (List.mem_of_getElem? enm)
    have e7w := T3 _ _ (S _ _ e3w)
    have e7f := T3 _ _ ef
    refine w_ixL (SqL.of e7w) ew ?_
    wtm_at "zw"
    have nfl : fl ≠ dk := fun z => by rw [z, hdk] at ef; cases ef
    -- a node is put behind the others
    have put : ∀ (n : Nd) (u : V) (H8 : Hp) (z9 z10 : Option V), Same H' H8 → NdAt H8 n u → n.Good → N [some (.ref a), some (.ref r), some (.ref rw), some (.ref fl), some (.int (1 + x1)), some (.int (0 + (i : Int))), some (.ref dk), some (.int kd), some (.str nm), z9, z10] (upd H8 fl (.lst (us ++ [u]))) := fun n u H8 z9 z10 T hn hg => by
      have e8 := T _ _ ef
      refine hN _ _ ⟨us ++ [u], ns ++ [n], _, _, _, _, z9, z10, rfl, (S.trans T).set hfl, upd_same, ?_, by rw [List.length_append, ln]; rfl, fun m hm => ?_⟩
      · exact paired_snoc (Paired.mapP pn fun _ _ z => (z.same T).but e8) (hn.but e8)
      · rcases List.mem_append.mp hm with z | z
        · exact gn m z
        · rw [List.mem_singleton.mp z]; exact hg
    have us1 : us.length < sizeLine := small (by omega)
    have m0 : (0 : Int) < 1 + x1 := by omega
    by_cases c0 : V.int kd = V.int 0
    · rw [decide_eq_true c0]
      refine iteT ?_
      wtm_at "zw"
      refine w_tyL (SqL.of e7f) ?_
      wtm_at "zw"
      refine ⟨line_le (show 1 ≤ 1000000 by decide), fun p8 hp8 => ?_⟩
      have T4 := T3.trans (same_new hp8 (.tup [V.str (Str.ofString "end")]))
      have e8 : upd H7 p8 (.tup [V.str (Str.ofString "end")]) p8 = some (.tup [V.str (Str.ofString "end")]) := upd_same
      generalize upd H7 p8 (.tup [V.str (Str.ofString "end")]) = H8 at T4 e8 ⊢
      wtm_at "zw"
      refine w_append (T4 _ _ ef) us1 ?_
      exact put .fin (.ref p8) H8 _ _ T4 ⟨p8, rfl, e8⟩ trivial
    · rw [decide_eq_false c0]
      refine iteF ?_
      wtm_at "zw"
      by_cases c4 : kd < 4
      · rw [decide_eq_true c4]
        refine iteT ?_
        wtm_at "zw"
        refine w_tyL (SqL.of e7f) ?_
        wtm_at "zw"
        refine ⟨dk, 200, de3, rfl, d3, by decide, by decide +kernel, fun to de4 t0 t1 => ?_⟩
        have T4 : Same H' (upd H7 dk (.lst [.int de4])) := T3.set hdk
        generalize upd H7 dk (.lst [.int de4]) = H8 at T4 ⊢
        wtm_at "zw"
        refine w_I m0 ?_
        have em : to % (1 + x1) = (((to % (1 + x1)).toNat : Nat) : Int) := by have := Int.emod_nonneg to (b := 1 + x1) (by omega); omega
        have lm : (to % (1 + x1)).toNat < 200 := by have := Int.emod_lt_of_pos to m0; omega
        wtm_at "zw"
        refine ⟨line_le (show 3 ≤ 1000000 by decide), fun p8 hp8 => ?_⟩
        have T5 := T4.trans (same_new hp8 (.tup [V.str (Str.ofString "do"), .str nm, .int (to % (1 + x1))]))
        have e8 : upd H8 p8 (.tup [V.str (Str.ofString "do"), .str nm, .int (to % (1 + x1))]) p8 = some (.tup [V.str (Str.ofString "do"), .str nm, .int (((to % (1 + x1)).toNat : Nat) : Int)]) := by rw [← em]; exact upd_same
        generalize upd H8 p8 (.tup [V.str (Str.ofString "do"), .str nm, .int (to % (1 + x1))]) = H9 at T5 e8 ⊢
        wtm_at "zw"
        refine w_append (T5 _ _ ef) us1 ?_
        exact put (.act nm (to % (1 + x1)).toNat) (.ref p8) H9 _ _ T5 ⟨p8, rfl, e8⟩ ⟨gw, lm⟩
      · rw [decide_eq_false c4]
        refine iteF ?_
        wtm_at "zw"
        intro fk hfk7
        have hfk : H' fk = none := T3.free hfk7
        have T4 := T3.trans (same_new hfk7 (.dK []))
        have d4 := same_new hfk7 (.dK []) _ _ d3
        have f4 : upd H7 fk (.dK []) fk = some (.dK []) := upd_same
        have nfk : fk ≠ dk := fun z => by rw [z, d3] at hfk7; cases hfk7
        generalize upd H7 fk (.dK []) = H8 at T4 d4 f4 ⊢
        wtm_at "zf"
        refine ⟨dk, 6, de3, rfl, d4, by decide, by decide +kernel, fun jn de4 j0 j1 => ?_⟩
        have T5 : Same H' (upd H8 dk (.lst [.int de4])) := T4.set hdk
        have d5 : upd H8 dk (.lst [.int de4]) dk = some (.lst [.int de4]) := upd_same
        have f5 : upd H8 dk (.lst [.int de4]) fk = some (.dK []) := by rw [upd_ne nfk]; exact f4
        generalize upd H8 dk (.lst [.int de4]) = H9 at T5 d5 f5 ⊢
        wtm_at "zw"
        refine ⟨jn, rfl, by omega, by omega, ?_⟩
        refine for_rangeN (fun j σ' H'' => ∃ (kvs : List (Key × V)) (d : Int) (z10 : Option V), σ' = [some (.ref a), some (.ref r), some (.ref rw), some (.ref fl), some (.int (1 + x1)), some (.int (0 + (i : Int))), some (.ref dk), some (.int kd), some (.str nm), some (.ref fk), z10] ∧
          Same H' H'' ∧ H'' dk = some (.lst [.int d]) ∧ H'' fk = some (.dK kvs) ∧ GoodK kvs ∧ kvs.length ≤ j) ⟨[], de4, z10, rfl, T5, d5, f5, (fun p hp => nomatch hp), Nat.le_refl _⟩ ?_ ?_
        · rintro N2 rt2 bk2 j σ2 H'' hj ⟨kvs, d, z11, rfl, U, dd, ff, gk, lk⟩ hN2
          wtm_at "zw"
          refine ⟨dk, 200, d, rfl, dd, by decide, by decide +kernel, fun to d2' t0 t1 => ?_⟩
          have U2 : Same H' (upd H'' dk (.lst [.int d2'])) := U.set hdk
          have dd2 : upd H'' dk (.lst [.int d2']) dk = some (.lst [.int d2']) := upd_same
          have ff2 : upd H'' dk (.lst [.int d2']) fk = some (.dK kvs) := by rw [upd_ne nfk]; exact ff
          generalize upd H'' dk (.lst [.int d2']) = G2 at U2 dd2 ff2 ⊢
          wtm_at "zw"
          refine w_I m0 ?_
          have em : to % (1 + x1) = (((to % (1 + x1)).toNat : Nat) : Int) := by have := Int.emod_nonneg to (b := 1 + x1) (by omega); omega
          have lm : (to % (1 + x1)).toNat < 200 := by have := Int.emod_lt_of_pos to m0; omega
          wtm_at "zw"
          refine ⟨line_le (show 2 ≤ 1000000 by decide), fun p3 hp3 => ?_⟩
          have U3 := U2.trans (same_new hp3 (.lst [V.int 4, V.int 120]))
          have dd3 := same_new hp3 (.lst [V.int 4, V.int 120]) _ _ dd2
          have ff3 := same_new hp3 (.lst [V.int 4, V.int 120]) _ _ ff2
          have e33 : upd G2 p3 (.lst [V.int 4, V.int 120]) p3 = some (.lst [V.int 4, V.int 120]) := upd_same
          have np3 : p3 ≠ dk := fun z => by rw [z, dd2] at hp3; cases hp3
          generalize upd G2 p3 (.lst [V.int 4, V.int 120]) = G3 at U3 dd3 ff3 e33 ⊢
          wtm_at "zw"
          refine ⟨dk, 2, d2', rfl, dd3, by decide, by decide +kernel, fun bb d4' b0' b1' => ?_⟩
          have U4 : Same H' (upd G3 dk (.lst [.int d4'])) := U3.set hdk
          have dd4 : upd G3 dk (.lst [.int d4']) dk = some (.lst [.int d4']) := upd_same
          have ff4 : upd G3 dk (.lst [.int d4']) fk = some (.dK kvs) := by rw [upd_ne nfk]; exact ff3
          have e34 : upd G3 dk (.lst [.int d4']) p3 = some (.lst [V.int 4, V.int 120]) := by rw [upd_ne np3]; exact e33
          generalize upd G3 dk (.lst [.int d4']) = G4 at U4 dd4 ff4 e34 ⊢
          obtain ⟨sz, esz, sz0, sz1⟩ : ∃ sz : Int, atI [V.int 4, V.int 120] bb = some (.int sz) ∧ 0 < sz ∧ sz ≤ 120 := by
            have : bb = 0 ∨ bb = 1 := by omega
            rcases this with rfl | rfl
            · exact ⟨4, rfl, by decide, by decide⟩
            · exact ⟨120, rfl, by decide, by decide⟩
          refine w_ixL (SqL.of e34) esz ?_
          wtm_at "zw"
          refine ⟨dk, sz, d4', rfl, dd4, sz0, big _ (by omega) (Int.lt_of_le_of_lt (b := 120) (by omega) (by decide +kernel)), fun xx d5' xx0 xx1 => ?_⟩
          have U5 : Same H' (upd G4 dk (.lst [.int d5'])) := U4.set hdk
          have dd5 : upd G4 dk (.lst [.int d5']) dk = some (.lst [.int d5']) := upd_same
          have ff5 : upd G4 dk (.lst [.int d5']) fk = some (.dK kvs) := by rw [upd_ne nfk]; exact ff4
          generalize upd G4 dk (.lst [.int d5']) = G5 at U5 dd5 ff5 ⊢
          wtm_at "zw"
          refine ⟨dk, 60, d5', rfl, dd5, by decide, by decide +kernel, fun yy d6' yy0 yy1 => ?_⟩
          have U6 : Same H' (upd G5 dk (.lst [.int d6'])) := U5.set hdk
          have dd6 : upd G5 dk (.lst [.int d6']) dk = some (.lst [.int d6']) := upd_same
          have ff6 : upd G5 dk (.lst [.int d6']) fk = some (.dK kvs) := by rw [upd_ne nfk]; exact ff5
          generalize upd G5 dk (.lst [.int d6']) = G6 at U6 dd6 ff6 ⊢
          wtm_at "zw"
          refine ⟨fk, _, rfl, DPut.k (k := Sum.inl (xx - yy)) ff6 (small (by omega)), ?_⟩
          refine hN2 _ _ ⟨_, d6', _, rfl, U6.set hfk, by rw [upd_ne nfk.symm]; exact dd6, upd_same, ?_, Nat.le_trans (put_len _ _ _) (by omega)⟩
          rw [em]
          exact gk.put (by omega) lm
        · rintro σ2 H'' ⟨kvs, d, z11, rfl, U, dd, ff, gk, lk⟩
          have efu := U _ _ ef
          wtm_at "zw"
          refine w_tyL (SqL.of efu) ?_
          wtm_at "zf"
          refine ⟨fk, kvs, rfl, ff, fun o => ?_⟩
          have U2 : Same H' (upd H'' fk (.frz o (.dK kvs))) := U.set hfk
          have ff2 : upd H'' fk (.frz o (.dK kvs)) fk = some (.frz o (.dK kvs)) := upd_same
          generalize upd H'' fk (.frz o (.dK kvs)) = G2 at U2 ff2 ⊢
          refine comp_items rfl ff2 gk (by omega) fun D G3 fs ys U3 e3D pf gf lf => ?_
          wtm_at "zw"
          refine ⟨D, ys, rfl, SqL.of e3D, fun p4 hp4 => ?_⟩
          have U4 := same_new hp4 (.tup ys)
          have e4p : upd G3 p4 (.tup ys) p4 = some (.tup ys) := upd_same
          generalize upd G3 p4 (.tup ys) = G4 at U4 e4p ⊢
          wtm_at "zw"
          refine ⟨line_le (show 3 ≤ 1000000 by decide), fun p5 hp5 => ?_⟩
          have U5 := same_new hp5 (.tup [V.str (Str.ofString "look"), .str nm, .ref p4])
          have e5p : upd G4 p5 (.tup [V.str (Str.ofString "look"), .str nm, .ref p4]) p5 = some (.tup [V.str (Str.ofString "look"), .str nm, .ref p4]) := upd_same
          generalize upd G4 p5 (.tup [V.str (Str.ofString "look"), .str nm, .ref p4]) = G5 at U5 e5p ⊢
          have U6 := ((U2.trans U3).trans U4).trans U5
          wtm_at "zw"
          refine w_append (U6 _ _ ef) us1 ?_
          exact put (.see nm fs) (.ref p5) G5 _ _ U6 ⟨p5, p4, ys, rfl, e5p, U5 _ _ e4p, Paired.mapP pf fun _ _ z => (z.same U4).same U5⟩ ⟨gw, by omega, gf⟩
  · rintro σ' H' ⟨us, ns, z5, z6, z7, z8, z9, z10, rfl, S, ef, pn, ln, gn⟩
    wtm_at "zw"
    refine q fl us ns H' (S3.free hfl) (S3.trans S) ef pn (fun z => ?_) gn (by omega)
    rw [z] at ln
    have : (0 : Nat) = (1 + x1).toNat := ln
    omega

noncomputable def wordB (x : Str) : Bool := decide (1 ≤ x.length) && decide (x.length ≤ 8) && x.cps.toList.all fun c => decide (c ∈ abc)
theorem wordB_no {x : Str} (h : wordB x = false) : ¬ Word x := fun z => by
  have : wordB x = true := by
    unfold wordB
    rw [decide_eq_true z.lo, decide_eq_true z.hi, Bool.true_and, Bool.true_and, List.all_eq_true]
    exact fun c hc => decide_eq_true (z.abc c hc)
  rw [h] at this
  cases this
theorem wordB_yes {x : Str} (h : wordB x = true) : Word x := by
  unfold wordB at h
  simp only [Bool.and_eq_true, decide_eq_true_eq, List.all_eq_true] at h
  exact ⟨h.1.1, h.1.2, h.2⟩
noncomputable def figB (c : Nat) : Bool := decide (c ∈ (Str.ofString "0123456789").cps.toList)
noncomputable def numB (y : Str) : Bool := decide (y.length = 0) || (!y.cps.toList.all figB) || (decide (y.cps.toList.head? = some 48) && decide (y ≠ Str.ofString "0"))
theorem numB_bad {y : Str} (h : numB y = true) : BadNum y := by
  unfold numB at h
  by_cases a : y.cps.toList.all figB = true
  · have a' := fun c hc => of_decide_eq_true (List.all_eq_true.mp a c hc)
    rw [a] at h
    simp only [Bool.or_eq_true, Bool.and_eq_true, decide_eq_true_eq, Bool.not_true, Bool.false_eq_true, or_false] at h
    rcases h with h | h
    · exact .nil h
    · exact .zero a' h.1 h.2
  · rw [List.all_eq_true] at a
    obtain ⟨c, hc⟩ := Classical.not_forall.mp a
    obtain ⟨h1, h2⟩ := Classical.not_imp.mp hc
    exact .sign c h1 fun z => h2 (decide_eq_true z)
noncomputable def worthB (s : Str) : Bool := if s.cps.toList.head? = some 45 then numB (mkS (s.cps.toList.drop 1)) || decide (mkS (s.cps.toList.drop 1) = dec 0) else numB s
theorem worthB_bad {s : Str} (h : worthB s = true) : BadWorth s := by
  unfold worthB at h
  split at h
  · rename_i e
    have es : s = ⟨#[45]⟩ ++ mkS (s.cps.toList.drop 1) := by
      apply str_ext
      rw [codes_app, mkS_codes]
      cases l : s.cps.toList with
      | nil => rw [l] at e; cases e
      | cons a r => rw [l] at e; cases e; rfl
    rw [Bool.or_eq_true] at h
    rcases h with h | h
    · exact .neg _ es (numB_bad h)
    · rw [of_decide_eq_true h] at es
      exact .zero es
  · rename_i e
    exact .num e (numB_bad h)
noncomputable def smallB (s : Str) : Bool := (List.range 10).any fun i => decide (s = numS (i : Int))
noncomputable def sidesB (ws : List Str) : Bool := match ws with
  | [s, t] => worthB s || (smallB s && numB t)
  | _ => true
theorem sidesB_bad {ws : List Str} (h : sidesB ws = true) : BadSides ws := by
  unfold sidesB at h
  split at h
  · rename_i s t
    rw [Bool.or_eq_true, Bool.and_eq_true] at h
    rcases h with h | ⟨h1, h2⟩
    · exact .worth s t rfl (worthB_bad h)
    · obtain ⟨i, hi, e⟩ := List.any_eq_true.mp h1
      have := List.mem_range.mp hi
      rw [of_decide_eq_true e]
      exact .num (i : Int) t rfl (by omega) (numB_bad h2)
  · rename_i hn
    refine .len fun z => ?_
    match ws, z, hn with
    | [a, b], _, hn => exact hn a b rfl
noncomputable def cutS (c : Nat) (x : Str) : List Str := (spl c x.cps.toList).map mkS
noncomputable def forksB : List Str → Bool
  | [] => false
  | v :: r => sidesB (cutS 58 v) || (((List.range 10).any fun i => (List.range 10).any fun j => decide (v = forkS ((i : Int), j))) && forksB r)
theorem forksB_bad : ∀ {r : List Str}, forksB r = true → ∃ (fs : List (Int × Nat)) (v : Str) (post : List Str), r = fs.map forkS ++ v :: post ∧ (∀ f ∈ fs, f.1.natAbs < 200 ∧ f.2 < 200) ∧ BadSides (Txt.split v (Str.ofString ":")) := by
  intro r
  induction r with
  | nil => intro h; cases h
  | cons v r ih =>
    intro h
    unfold forksB at h
    rw [Bool.or_eq_true, Bool.and_eq_true] at h
    rcases h with h | ⟨h1, h2⟩
    · refine ⟨[], v, r, rfl, (fun f hf => nomatch hf), ?_⟩
      rw [c_colon, split_spl]
      exact sidesB_bad h
    · obtain ⟨i, hi, h1⟩ := List.any_eq_true.mp h1
      obtain ⟨j, hj, h1⟩ := List.any_eq_true.mp h1
      have i10 := List.mem_range.mp hi
      have j10 := List.mem_range.mp hj
      obtain ⟨fs, u, post, e, g, b⟩ := ih h2
      refine ⟨((i : Int), j) :: fs, u, post, by rw [e, of_decide_eq_true h1]; rfl, fun f hf => ?_, b⟩
      rcases List.mem_cons.mp hf with z | z
      · rw [z]; exact ⟨by show (i : Int).natAbs < 200; omega, by show j < 200; omega⟩
      · exact g f z
noncomputable def rowB (ws : List Str) : Bool := match ws with
  | [] => false
  | h :: r => if h = Str.ofString "do" ∧ r.length = 2 then (match r with | [x, y] => !wordB x || numB y | _ => false)
    else if h = Str.ofString "look" ∧ r ≠ [] then (match r with | x :: fk => !wordB x || forksB fk | [] => false)
    else !decide (h = Str.ofString "end" ∧ r = [])
theorem rowB_bad {ws : List Str} (h : rowB ws = true) : BadRow ws := by
  cases ws with
  | nil => cases h
  | cons a r =>
    unfold rowB at h
    simp only at h
    split at h
    · rename_i c
      obtain ⟨rfl, _⟩ := c
      split at h
      · rename_i x y _
        cases wx : wordB x with
        | true =>
          rw [wx, Bool.not_true, Bool.false_or] at h
          exact .doNum x y rfl (wordB_yes wx) (numB_bad h)
        | false => exact .doName x y rfl (wordB_no wx)
      · cases h
    · rename_i c1
      split at h
      · rename_i c
        obtain ⟨rfl, _⟩ := c
        split at h
        · rename_i x fk _
          cases wx : wordB x with
          | true =>
            rw [wx, Bool.not_true, Bool.false_or] at h
            obtain ⟨fs, v, post, e, g, b⟩ := forksB_bad h
            exact .lookFork x fs v post (by rw [e]) (wordB_yes wx) g b
          | false => exact .lookName x fk rfl (wordB_no wx)
        · cases h
      · rename_i c2
        rw [Bool.not_eq_true', decide_eq_false_iff_not] at h
        refine .none a r rfl ?_ ?_ ?_
        · by_cases z : a = Str.ofString "end"
          · exact .inr fun y => h ⟨z, y⟩
          · exact .inl z
        · by_cases z : a = Str.ofString "do"
          · exact .inr fun y => c1 ⟨z, y⟩
          · exact .inl z
        · by_cases z : a = Str.ofString "look"
          · exact .inr (Classical.byContradiction fun y => c2 ⟨z, y⟩)
          · exact .inl z
structure Spoilt (z : Str) : Prop where
  bad : BadRow (Txt.split z (Str.ofString " "))
  len : z.length ≤ 1000
  free : ∀ c ∈ z.cps.toList, c ≠ 10
noncomputable def menu : List (List Str) := [[Str.ofString "", Str.ofString " ", Str.ofString "end ", Str.ofString " end", Str.ofString "end 1", Str.ofString "End", Str.ofString "ends", Str.ofString "do", Str.ofString "do a", Str.ofString "do a b", Str.ofString "do a 1 2", Str.ofString "do A 1", Str.ofString "do a 01"], [Str.ofString "do a -1", Str.ofString "do  a 1", Str.ofString "do a 1 ", Str.ofString "do abcdefghi 1", Str.ofString "do a1 1", Str.ofString "do 1 a", Str.ofString "look", Str.ofString "look A", Str.ofString "look a 1"], [Str.ofString "look a 1:", Str.ofString "look a :1", Str.ofString "look a 1:2:3", Str.ofString "look a 01:1", Str.ofString "look a -0:1", Str.ofString "look a 1:01", Str.ofString "look a 1:-1"], [Str.ofString "look a 1 :2", Str.ofString "look a 1:2,3:4", Str.ofString "look a 1:2 ", Str.ofString "look a  1:2", Str.ofString "look a --1:2", Str.ofString "look a x:2", Str.ofString "look "], [Str.ofString "look a +1:2", Str.ofString "look abcdefghi", Str.ofString "go a 1", Str.ofString "1", Str.ofString "\tend", Str.ofString "look a 1: 2", Str.ofString "do\ta 1", Str.ofString "look a -:1"], [Str.ofString "do a +1", Str.ofString "do a 1_0", Str.ofString "look a 1_0:1", Str.ofString "look a 1:1_0", Str.ofString "look a 1:+2", Str.ofString "do a _1"]]
theorem menu_ok : menu.flatten.all (fun z => rowB (cutS 32 z) && decide (z.length ≤ 1000) && z.cps.toList.all fun c => decide (c ≠ 10)) = true := by decide +kernel
theorem menu_bad {z : Str} (h : z ∈ menu.flatten) : Spoilt z := by
  have := List.all_eq_true.mp menu_ok z h
  simp only [Bool.and_eq_true, decide_eq_true_eq, List.all_eq_true] at this
  refine ⟨?_, this.1.2, this.2⟩
  rw [c_blank, split_spl]
  exact rowB_bad this.1.1

theorem free_blank {x : Str} (h : ∀ c ∈ x.cps.toList, 33 ≤ c) : (32 : Nat) ∉ x.cps.toList := fun z => by have := h _ z; omega
theorem cut_again {ws : List Str} (ne : ws ≠ []) (f : ∀ v ∈ ws, ∀ c ∈ v.cps.toList, 33 ≤ c) : Txt.split (Txt.join (Str.ofString " ") ws) (Str.ofString " ") = ws := by
  rw [c_blank]
  exact split_join ne fun v hv => free_blank (f v hv)
theorem spoilt_of {ws : List Str} (ne : ws ≠ []) (f : ∀ v ∈ ws, (∀ c ∈ v.cps.toList, 33 ≤ c) ∧ v.length ≤ 10) (l : ws.length ≤ 10) (b : BadRow ws) : Spoilt (Txt.join (Str.ofString " ") ws) := by
  refine ⟨?_, ?_, fun c hc => ?_⟩
  · rw [cut_again ne fun v hv => (f v hv).1]; exact b
  · have h1 := join_len (Str.ofString " ") ws
    have h2 := sum_le fun v hv => (f v hv).2
    have : (Str.ofString " ").length = 1 := by rw [c_blank]; rfl
    rw [this] at h1
    omega
  · rw [c_blank] at hc
    rcases join_mem hc with e | ⟨v, hv, hc⟩
    · omega
    · have := (f v hv).1 c hc; omega
theorem words_ok {n : Nd} (h : n.Good) : ∀ v ∈ n.words, (∀ c ∈ v.cps.toList, 33 ≤ c) ∧ v.length ≤ 10 := fun v hv => ⟨(words_free h v hv).1, by have := (words_free h v hv).2; omega⟩
theorem e_do : Str.ofString "do" ≠ Str.ofString "end" ∧ Str.ofString "do" ≠ Str.ofString "look" ∧ Str.ofString "end" ≠ Str.ofString "do" ∧ Str.ofString "end" ≠ Str.ofString "look" := by decide +kernel
theorem one_side {v : Str} (h : (58 : Nat) ∉ v.cps.toList) : BadSides (Txt.split v (Str.ofString ":")) := by
  have e : Txt.split v (Str.ofString ":") = [v] := by
    rw [c_colon]
    have := split_join (c := 58) (ws := [v]) (List.cons_ne_nil _ _) fun u hu => by rw [List.mem_singleton.mp hu]; exact h
    rw [tjoin] at this
    exact this
  rw [e]
  exact .len (by show ¬ (1 = 2); decide)
theorem more_word {n : Nd} (h : n.Good) {v : Str} (hv : (58 : Nat) ∉ v.cps.toList) : BadRow (n.words ++ [v]) := by
  cases n with
  | fin => exact .none _ _ rfl (.inr (List.cons_ne_nil _ _)) (.inl e_do.2.2.1) (.inl e_do.2.2.2)
  | act x to => exact .none _ _ rfl (.inl e_do.1) (.inr (by show ¬ (3 = 2); decide)) (.inl e_do.2.1)
  | see x fs => exact .lookFork x fs v [] rfl h.1 h.2.2 (one_side hv)
theorem snoc_ok {ws : List Str} {v : Str} (f : ∀ v ∈ ws, (∀ c ∈ v.cps.toList, 33 ≤ c) ∧ v.length ≤ 10) (g : (∀ c ∈ v.cps.toList, 33 ≤ c) ∧ v.length ≤ 10) : ∀ u ∈ ws ++ [v], (∀ c ∈ u.cps.toList, 33 ≤ c) ∧ u.length ≤ 10 := fun u hu => by
  rcases List.mem_append.mp hu with z | z
  · exact f u z
  · rw [List.mem_singleton.mp z]; exact g
theorem spoilt_more {n : Nd} (h : n.Good) {v : Str} (g : (∀ c ∈ v.cps.toList, 33 ≤ c) ∧ v.length ≤ 10) (hv : (58 : Nat) ∉ v.cps.toList) : Spoilt (n.row ++ Str.ofString " " ++ v) := by
  have e : n.row ++ Str.ofString " " ++ v = Txt.join (Str.ofString " ") (n.words ++ [v]) := (join_snoc _ _ (words_ne n)).symm
  rw [e]
  refine spoilt_of (by simp) (snoc_ok (words_ok h) g) ?_ (more_word h hv)
  rw [List.length_append]
  have := words_len h
  show n.words.length + 1 ≤ 10
  omega
theorem join_cons (a b : Str) (r : List Str) : Txt.join (Str.ofString " ") (a :: b :: r) = a ++ Str.ofString " " ++ Txt.join (Str.ofString " ") (b :: r) := by rw [tjoin, tjoin]; rfl
theorem spoilt_ahead {n : Nd} (h : n.Good) : Spoilt (Str.ofString " " ++ n.row) := by
  cases e : n.words with
  | nil => exact absurd e (words_ne n)
  | cons a r =>
    have er : Str.ofString " " ++ n.row = Txt.join (Str.ofString " ") (Str.ofString "" :: a :: r) := by
      rw [join_cons, none_app]
      unfold Nd.row
      rw [e]
    rw [er]
    have w1 := words_ok h
    have w2 := words_len h
    rw [e] at w1 w2
    refine spoilt_of (List.cons_ne_nil _ _) (fun v hv => ?_) (by show (a :: r).length + 1 ≤ 10; omega) ?_
    · rcases List.mem_cons.mp hv with z | z
      · rw [z, c_none]; exact ⟨(fun c hc => nomatch hc), by decide⟩
      · exact w1 v z
    · exact .none _ _ rfl (.inl (by decide +kernel)) (.inl (by decide +kernel)) (.inl (by decide +kernel))
noncomputable def tails : List Str := [Str.ofString ".", Str.ofString ":", Str.ofString ",", Str.ofString "-"]
theorem tails_ok : tails.all (fun s => decide (s.length = 1) && s.cps.toList.all (fun c => decide (33 ≤ c) && !decide (c ∈ abc) && !decide (c ∈ (Str.ofString "0123456789").cps.toList) && (decide (s = Str.ofString ":") || decide (c ≠ 58))) &&
    decide (Str.ofString "end" ++ s ≠ Str.ofString "end" ∧ Str.ofString "end" ++ s ≠ Str.ofString "do" ∧ Str.ofString "end" ++ s ≠ Str.ofString "look")) = true := by decide +kernel
theorem one_code {s : Str} (h : s.length = 1) : ∃ c, s = ⟨#[c]⟩ := by
  rw [len_codes] at h
  obtain ⟨c, e⟩ := List.length_eq_one_iff.mp h
  exact ⟨c, str_ext e⟩
theorem tail_bad {n : Nd} (h : n.Good) {s : Str} (hs : s ∈ tails) : Spoilt (n.row ++ s) := by
  have t := List.all_eq_true.mp tails_ok s hs
  simp only [Bool.and_eq_true, decide_eq_true_eq, List.all_eq_true, Bool.or_eq_true, Bool.not_eq_true', decide_eq_false_iff_not] at t
  obtain ⟨⟨l1, tc⟩, ne, nd, nl⟩ := t
  obtain ⟨c, ec⟩ := one_code l1
  have hc : c ∈ s.cps.toList := by rw [ec]; exact List.mem_cons_self
  obtain ⟨⟨⟨c33, cA⟩, cF⟩, cC⟩ := tc c hc
  have only : ∀ d ∈ s.cps.toList, d = c := fun d hd => by rw [ec] at hd; exact List.mem_singleton.mp hd
  have okW : ∀ {v : Str}, (∀ d ∈ v.cps.toList, 33 ≤ d) ∧ v.length ≤ 8 → (∀ d ∈ (v ++ s).cps.toList, 33 ≤ d) ∧ (v ++ s).length ≤ 10 := fun {v} hv => by
    refine ⟨fun d hd => ?_, by rw [len_app, l1]; omega⟩
    rw [codes_app] at hd
    rcases List.mem_append.mp hd with z | z
    · exact hv.1 d z
    · rw [only d z]; exact c33
  have memS : ∀ v : Str, c ∈ (v ++ s).cps.toList := fun v => by rw [codes_app]; exact List.mem_append_right _ hc
  have bn : ∀ v : Str, BadNum (v ++ s) := fun v => .sign c (memS v) cF
  have gl := words_free h
  have w2 := words_len h
  -- the last word gets it
  have step : ∀ (init : List Str) (v : Str), n.words = init ++ [v] → BadRow (init ++ [v ++ s]) → Spoilt (n.row ++ s) := fun init v e b => by
    have er : n.row ++ s = Txt.join (Str.ofString " ") (init ++ [v ++ s]) := by
      rw [join_last]
      unfold Nd.row
      rw [e]
    rw [er]
    rw [e] at gl w2
    refine spoilt_of (by simp) (fun u hu => ?_) (by rw [List.length_append] at w2 ⊢; exact Nat.le_trans w2 (by decide)) b
    rcases List.mem_append.mp hu with z | z
    · have := gl u (List.mem_append_left _ z)
      exact ⟨this.1, by omega⟩
    · rw [List.mem_singleton.mp z]
      exact okW (gl v (List.mem_append_right _ List.mem_cons_self))
  cases n with
  | fin => exact step [] _ rfl (.none _ _ rfl (.inl ne) (.inl nd) (.inl nl))
  | act x to => exact step [Str.ofString "do", x] (dec to) rfl (.doNum x _ rfl h.1 (bn _))
  | see x fs =>
    cases ef : fs.reverse with
    | nil =>
      have : fs = [] := List.reverse_eq_nil_iff.mp ef
      subst this
      exact step [Str.ofString "look"] x rfl (.lookName _ [] rfl fun z => cA (z.abc c (memS x)))
    | cons g gs =>
      have e2 : fs = gs.reverse ++ [g] := by
        have := congrArg List.reverse ef
        rw [List.reverse_reverse, List.reverse_cons] at this
        exact this
      have gg := h.2.2 g (by rw [e2]; exact List.mem_append_right _ List.mem_cons_self)
      have gb : ∀ f ∈ gs.reverse, f.1.natAbs < 200 ∧ f.2 < 200 := fun f hf => h.2.2 f (by rw [e2]; exact List.mem_append_left _ hf)
      have ew : (Nd.see x fs).words = (Str.ofString "look" :: x :: gs.reverse.map forkS) ++ [forkS g] := by
        show Str.ofString "look" :: x :: fs.map forkS = _
        rw [e2, List.map_append]
        rfl
      refine step _ _ ew (.lookFork x gs.reverse (forkS g ++ s) [] rfl h.1 gb ?_)
      have d1 : (58 : Nat) ∉ (numS g.1).cps.toList := fun z => by have := num_signs gg.1 z; omega
      have d2 : (58 : Nat) ∉ (dec g.2).cps.toList := fun z => by have := (figs gg.2).fig _ z; omega
      rw [c_colon]
      rcases cC with z | z
      · have es : Txt.split (forkS g ++ s) ⟨#[58]⟩ = [numS g.1, dec g.2, Str.ofString ""] := by
          have : forkS g ++ s = Txt.join ⟨#[58]⟩ [numS g.1, dec g.2, Str.ofString ""] := by
            rw [tjoin]
            show numS g.1 ++ Str.ofString ":" ++ dec g.2 ++ s = numS g.1 ++ ⟨#[58]⟩ ++ (dec g.2 ++ ⟨#[58]⟩ ++ Str.ofString "")
            rw [z, c_colon, c_none]
            apply str_ext
            simp only [codes_app, List.append_assoc]
            rfl
          rw [this]
          refine split_join (List.cons_ne_nil _ _) fun u hu => ?_
          rcases List.mem_cons.mp hu with y | hu
          · rw [y]; exact d1
          · rcases List.mem_cons.mp hu with y | hu
            · rw [y]; exact d2
            · rw [List.mem_singleton.mp hu, c_none]; exact fun z => nomatch z
        rw [es]
        exact .len (by show ¬ (3 = 2); decide)
      · have es : Txt.split (forkS g ++ s) ⟨#[58]⟩ = [numS g.1, dec g.2 ++ s] := by
          have : forkS g ++ s = Txt.join ⟨#[58]⟩ [numS g.1, dec g.2 ++ s] := by
            rw [tjoin]
            show numS g.1 ++ Str.ofString ":" ++ dec g.2 ++ s = numS g.1 ++ ⟨#[58]⟩ ++ (dec g.2 ++ s)
            rw [c_colon]
            apply str_ext
            simp only [codes_app, List.append_assoc]
          rw [this]
          refine split_join (List.cons_ne_nil _ _) fun u hu => ?_
          rcases List.mem_cons.mp hu with y | hu
          · rw [y]; exact d1
          · rw [List.mem_singleton.mp hu, codes_app]
            intro y
            rcases List.mem_append.mp y with y | y
            · exact d2 y
            · exact z (only _ y).symm
        rw [es]
        exact .num g.1 _ rfl gg.1 (bn _)
theorem great_bad {n : Nd} (h : n.Good) : ∃ (c : Nat) (t : Str), n.row = ⟨#[c]⟩ ++ t ∧ (c = 101 ∨ c = 100 ∨ c = 108) ∧ (∀ u : Nat, (c = 101 → u = 69) → (c = 100 → u = 68) → (c = 108 → u = 76) → Spoilt (⟨#[u]⟩ ++ t)) := by
  have w1 := words_ok h
  have w2 := words_len h
  -- the first word is another
  have step : ∀ (c u : Nat) (d b : Str) (r : List Str), n.words = (⟨#[c]⟩ ++ d) :: r → b = ⟨#[u]⟩ ++ d → 33 ≤ u → (b ≠ Str.ofString "end" ∧ b ≠ Str.ofString "do" ∧ b ≠ Str.ofString "look") → ∃ t, n.row = ⟨#[c]⟩ ++ t ∧ Spoilt (⟨#[u]⟩ ++ t) := fun c u d b r e eb hu nb => by
    have wd := w1 (⟨#[c]⟩ ++ d) (by rw [e]; exact List.mem_cons_self)
    have sp : Spoilt (Txt.join (Str.ofString " ") (b :: r)) := by
      refine spoilt_of (List.cons_ne_nil _ _) (fun v hv => ?_) ?_ (.none _ _ rfl (.inl nb.1) (.inl nb.2.1) (.inl nb.2.2))
      · rcases List.mem_cons.mp hv with z | z
        · rw [z, eb]
          rw [len_app] at wd ⊢
          refine ⟨fun x hx => ?_, wd.2⟩
          rw [codes_app] at hx
          rcases List.mem_append.mp hx with y | y
          · rw [List.mem_singleton.mp y]; exact hu
          · exact wd.1 x (by rw [codes_app]; exact List.mem_append_right _ y)
        · exact w1 v (by rw [e]; exact List.mem_cons_of_mem _ z)
      · rw [e] at w2
        exact Nat.le_trans w2 (by decide)
    cases r with
    | nil =>
      refine ⟨d, ?_, ?_⟩
      · unfold Nd.row
        rw [e, tjoin]
        rfl
      · rw [tjoin] at sp
        have : Str.join (Str.ofString " ") [b] = b := rfl
        rw [this, eb] at sp
        exact sp
    | cons b2 r =>
      refine ⟨d ++ Str.ofString " " ++ Txt.join (Str.ofString " ") (b2 :: r), ?_, ?_⟩
      · unfold Nd.row
        rw [e, join_cons]
        apply str_ext
        simp only [codes_app, List.append_assoc]
      · rw [join_cons, eb] at sp
        have : (⟨#[u]⟩ : Str) ++ (d ++ Str.ofString " " ++ Txt.join (Str.ofString " ") (b2 :: r)) = ⟨#[u]⟩ ++ d ++ Str.ofString " " ++ Txt.join (Str.ofString " ") (b2 :: r) := by
          apply str_ext
          simp only [codes_app, List.append_assoc]
        rw [this]
        exact sp
  cases n with
  | fin =>
    obtain ⟨t, e, s⟩ := step 101 69 (mkS [110, 100]) (Str.ofString "End") [] (by show [Str.ofString "end"] = _; exact congrArg (fun z => [z]) (by decide +kernel)) (by decide +kernel) (by decide) (by decide +kernel)
    exact ⟨101, t, e, .inl rfl, fun u h1 _ _ => by rw [h1 rfl]; exact s⟩
  | act x to =>
    obtain ⟨t, e, s⟩ := step 100 68 (mkS [111]) (Str.ofString "Do") [x, dec to] (by show [Str.ofString "do", x, dec to] = _; exact congrArg (fun z => [z, x, dec to]) (by decide +kernel)) (by decide +kernel) (by decide) (by decide +kernel)
    exact ⟨100, t, e, .inr (.inl rfl), fun u _ h1 _ => by rw [h1 rfl]; exact s⟩
  | see x fs =>
    obtain ⟨t, e, s⟩ := step 108 76 (mkS [111, 111, 107]) (Str.ofString "Look") (x :: fs.map forkS) (by show Str.ofString "look" :: x :: fs.map forkS = _; exact congrArg (fun z => z :: x :: fs.map forkS) (by decide +kernel)) (by decide +kernel) (by decide) (by decide +kernel)
    exact ⟨108, t, e, .inr (.inr rfl), fun u _ _ h1 => by rw [h1 rfl]; exact s⟩

theorem sc_law_bad_row : FnScope ["number", "some"] ["number"] (defScope (top 34)) := ⟨rfl, rfl, rfl, by decide +kernel, rfl, by decide +kernel, by decide +kernel⟩
noncomputable def spBadRow : Sp := fun vs H Q _ => ∃ i : Int, vs = [.int i] ∧ ∀ z H', Spoilt z → Same H H' → Q (.str z) H'
theorem at_mod {ws : List Str} {i : Int} (ne : ws ≠ []) : ∃ z ∈ ws, atI (ws.map V.str) (i % (((ws.map V.str).length : Nat) : Int)) = some (.str z) := by
  have l0 := List.length_pos_iff.mpr ne
  rw [List.length_map]
  have h0 := Int.emod_nonneg i (b := (ws.length : Int)) (by omega)
  have h1 := Int.emod_lt_of_pos i (b := (ws.length : Int)) (by omega)
  generalize i % (ws.length : Int) = j at h0 h1
  have hj : j.toNat < ws.length := by omega
  refine ⟨ws[j.toNat], List.getElem_mem hj, ?_⟩
  have z : atI (ws.map V.str) ((j.toNat : Nat) : Int) = some (.str ws[j.toNat]) := atI_nat (by rw [List.getElem?_map, List.getElem?_eq_getElem hj]; rfl)
  rw [show ((j.toNat : Nat) : Int) = j by omega] at z
  exact z
theorem dn_badrow (F : Fd K mg "_law_bad_row" (top 34) ["number"]) (B : Bl mg) : Dn P w K mg base "_law_bad_row" 1 ["number"] spBadRow := by
  refine F.ok sc_law_bad_row (fun vs H Q E h => ?_) (fun f cdv A outer s H vs Q E hr h => ?_)
  · obtain ⟨_, rfl, _⟩ := h
    rfl
  obtain ⟨i, rfl, q⟩ := h
  refine ⟨_, (pss_cons (ps_set (i := 1) sc_law_bad_row.nd rfl (by first | exact Or.inl rfl | exact Or.inr rfl) (pe_lst (pa_consK pe_str (pa_consK pe_str (pa_consK pe_str (pa_consK pe_str (pa_consK pe_str (pa_consK pe_str (pa_consK pe_str (pa_consK pe_str (pa_consK pe_str (pa_consK pe_str (pa_consK pe_str (pa_consK pe_str (pa_consK pe_str pa_nil)))))))))))))))
    (pss_cons (ps_set (i := 1) sc_law_bad_row.nd rfl (by first | exact Or.inl rfl | exact Or.inr rfl) (pe_op op_cat (pv 1) (pe_lst (pa_consK pe_str (pa_consK pe_str (pa_consK pe_str (pa_consK pe_str (pa_consK pe_str (pa_consK pe_str (pa_consK pe_str (pa_consK pe_str (pa_consK pe_str pa_nil))))))))))))
    (pss_cons (ps_set (i := 1) sc_law_bad_row.nd rfl (by first | exact Or.inl rfl | exact Or.inr rfl) (pe_op op_cat (pv 1) (pe_lst (pa_consK pe_str (pa_consK pe_str (pa_consK pe_str (pa_consK pe_str (pa_consK pe_str (pa_consK pe_str (pa_consK pe_str pa_nil))))))))))
    (pss_cons (ps_set (i := 1) sc_law_bad_row.nd rfl (by first | exact Or.inl rfl | exact Or.inr rfl) (pe_op op_cat (pv 1) (pe_lst (pa_consK pe_str (pa_consK pe_str (pa_consK pe_str (pa_consK pe_str (pa_consK pe_str (pa_consK pe_str (pa_consK pe_str pa_nil))))))))))
    (pss_cons (ps_set (i := 1) sc_law_bad_row.nd rfl (by first | exact Or.inl rfl | exact Or.inr rfl) (pe_op op_cat (pv 1) (pe_lst (pa_consK pe_str (pa_consK pe_str (pa_consK pe_str (pa_consK pe_str (pa_consK pe_str (pa_consK pe_str (pa_consK pe_str (pa_consK pe_str pa_nil)))))))))))
    (pss_cons (ps_set (i := 1) sc_law_bad_row.nd rfl (by first | exact Or.inl rfl | exact Or.inr rfl) (pe_op op_cat (pv 1) (pe_lst (pa_consK pe_str (pa_consK pe_str (pa_consK pe_str (pa_consK pe_str (pa_consK pe_str (pa_consK pe_str pa_nil)))))))))
    (pss_one (ps_ret (pe_ix (ix_listK (K := K)) (pv 1) (pe_op op_mod (pv 0) (pe_callB (call_lenK (K := K)) rfl B.len' bt_len (pa_consN (pv 1) pa_nil))) (fun _ _ => rfl)))))))))), ?_⟩
  wtm_at "zw"
  refine ⟨line_le (Nat.le_of_ble_eq_true rfl), fun p0 hp0 => ?_⟩
  have S0 := same_new hp0 (.lst [V.str (Str.ofString ""), V.str (Str.ofString " "), V.str (Str.ofString "end "), V.str (Str.ofString " end"), V.str (Str.ofString "end 1"), V.str (Str.ofString "End"), V.str (Str.ofString "ends"), V.str (Str.ofString "do"), V.str (Str.ofString "do a"), V.str (Str.ofString "do a b"), V.str (Str.ofString "do a 1 2"), V.str (Str.ofString "do A 1"), V.str (Str.ofString "do a 01")])
  have e0 : upd H p0 (.lst [V.str (Str.ofString ""), V.str (Str.ofString " "), V.str (Str.ofString "end "), V.str (Str.ofString " end"), V.str (Str.ofString "end 1"), V.str (Str.ofString "End"), V.str (Str.ofString "ends"), V.str (Str.ofString "do"), V.str (Str.ofString "do a"), V.str (Str.ofString "do a b"), V.str (Str.ofString "do a 1 2"), V.str (Str.ofString "do A 1"), V.str (Str.ofString "do a 01")]) p0 = some (.lst ((menu.getD 0 []).map V.str)) := upd_same
  generalize upd H p0 (.lst [V.str (Str.ofString ""), V.str (Str.ofString " "), V.str (Str.ofString "end "), V.str (Str.ofString " end"), V.str (Str.ofString "end 1"), V.str (Str.ofString "End"), V.str (Str.ofString "ends"), V.str (Str.ofString "do"), V.str (Str.ofString "do a"), V.str (Str.ofString "do a b"), V.str (Str.ofString "do a 1 2"), V.str (Str.ofString "do A 1"), V.str (Str.ofString "do a 01")]) = G0 at S0 e0 ⊢
  wtm_at "zw"
  refine ⟨line_le (Nat.le_of_ble_eq_true rfl), fun q1 hq1 => ?_⟩
  have T1 := same_new hq1 (.lst [V.str (Str.ofString "do a -1"), V.str (Str.ofString "do  a 1"), V.str (Str.ofString "do a 1 "), V.str (Str.ofString "do abcdefghi 1"), V.str (Str.ofString "do a1 1"), V.str (Str.ofString "do 1 a"), V.str (Str.ofString "look"), V.str (Str.ofString "look A"), V.str (Str.ofString "look a 1")])
  have f1 : upd G0 q1 (.lst [V.str (Str.ofString "do a -1"), V.str (Str.ofString "do  a 1"), V.str (Str.ofString "do a 1 "), V.str (Str.ofString "do abcdefghi 1"), V.str (Str.ofString "do a1 1"), V.str (Str.ofString "do 1 a"), V.str (Str.ofString "look"), V.str (Str.ofString "look A"), V.str (Str.ofString "look a 1")]) q1 = some (.lst ((menu.getD 1 []).map V.str)) := upd_same
  have g1 := T1 _ _ e0
  generalize upd G0 q1 (.lst [V.str (Str.ofString "do a -1"), V.str (Str.ofString "do  a 1"), V.str (Str.ofString "do a 1 "), V.str (Str.ofString "do abcdefghi 1"), V.str (Str.ofString "do a1 1"), V.str (Str.ofString "do 1 a"), V.str (Str.ofString "look"), V.str (Str.ofString "look A"), V.str (Str.ofString "look a 1")]) = K1 at T1 f1 g1 ⊢
  refine ⟨p0, q1, _, _, rfl, rfl, g1, f1, line_le (Nat.le_of_ble_eq_true rfl), fun p1 hp1 => ?_⟩
  rw [← List.map_append]
  have S1 := (S0.trans T1).trans (same_new hp1 (.lst (((menu.getD 0 []) ++ menu.getD 1 []).map V.str)))
  have e1 : upd K1 p1 (.lst (((menu.getD 0 []) ++ menu.getD 1 []).map V.str)) p1 = some (.lst (((menu.getD 0 []) ++ menu.getD 1 []).map V.str)) := upd_same
  generalize upd K1 p1 (.lst (((menu.getD 0 []) ++ menu.getD 1 []).map V.str)) = G1 at S1 e1 ⊢
  wtm_at "zw"
  refine ⟨line_le (Nat.le_of_ble_eq_true rfl), fun q2 hq2 => ?_⟩
  have T2 := same_new hq2 (.lst [V.str (Str.ofString "look a 1:"), V.str (Str.ofString "look a :1"), V.str (Str.ofString "look a 1:2:3"), V.str (Str.ofString "look a 01:1"), V.str (Str.ofString "look a -0:1"), V.str (Str.ofString "look a 1:01"), V.str (Str.ofString "look a 1:-1")])
  have f2 : upd G1 q2 (.lst [V.str (Str.ofString "look a 1:"), V.str (Str.ofString "look a :1"), V.str (Str.ofString "look a 1:2:3"), V.str (Str.ofString "look a 01:1"), V.str (Str.ofString "look a -0:1"), V.str (Str.ofString "look a 1:01"), V.str (Str.ofString "look a 1:-1")]) q2 = some (.lst ((menu.getD 2 []).map V.str)) := upd_same
  have g2 := T2 _ _ e1
  generalize upd G1 q2 (.lst [V.str (Str.ofString "look a 1:"), V.str (Str.ofString "look a :1"), V.str (Str.ofString "look a 1:2:3"), V.str (Str.ofString "look a 01:1"), V.str (Str.ofString "look a -0:1"), V.str (Str.ofString "look a 1:01"), V.str (Str.ofString "look a 1:-1")]) = K2 at T2 f2 g2 ⊢
  refine ⟨p1, q2, _, _, rfl, rfl, g2, f2, line_le (Nat.le_of_ble_eq_true rfl), fun p2 hp2 => ?_⟩
  rw [← List.map_append]
  have S2 := (S1.trans T2).trans (same_new hp2 (.lst ((((menu.getD 0 []) ++ menu.getD 1 []) ++ menu.getD 2 []).map V.str)))
  have e2 : upd K2 p2 (.lst ((((menu.getD 0 []) ++ menu.getD 1 []) ++ menu.getD 2 []).map V.str)) p2 = some (.lst ((((menu.getD 0 []) ++ menu.getD 1 []) ++ menu.getD 2 []).map V.str)) := upd_same
  generalize upd K2 p2 (.lst ((((menu.getD 0 []) ++ menu.getD 1 []) ++ menu.getD 2 []).map V.str)) = G2 at S2 e2 ⊢
  wtm_at "zw"
  refine ⟨line_le (Nat.le_of_ble_eq_true rfl), fun q3 hq3 => ?_⟩
  have T3 := same_new hq3 (.lst [V.str (Str.ofString "look a 1 :2"), V.str (Str.ofString "look a 1:2,3:4"), V.str (Str.ofString "look a 1:2 "), V.str (Str.ofString "look a  1:2"), V.str (Str.ofString "look a --1:2"), V.str (Str.ofString "look a x:2"), V.str (Str.ofString "look ")])
  have f3 : upd G2 q3 (.lst [V.str (Str.ofString "look a 1 :2"), V.str (Str.ofString "look a 1:2,3:4"), V.str (Str.ofString "look a 1:2 "), V.str (Str.ofString "look a  1:2"), V.str (Str.ofString "look a --1:2"), V.str (Str.ofString "look a x:2"), V.str (Str.ofString "look ")]) q3 = some (.lst ((menu.getD 3 []).map V.str)) := upd_same
  have g3 := T3 _ _ e2
  generalize upd G2 q3 (.lst [V.str (Str.ofString "look a 1 :2"), V.str (Str.ofString "look a 1:2,3:4"), V.str (Str.ofString "look a 1:2 "), V.str (Str.ofString "look a  1:2"), V.str (Str.ofString "look a --1:2"), V.str (Str.ofString "look a x:2"), V.str (Str.ofString "look ")]) = K3 at T3 f3 g3 ⊢
  refine ⟨p2, q3, _, _, rfl, rfl, g3, f3, line_le (Nat.le_of_ble_eq_true rfl), fun p3 hp3 => ?_⟩
  rw [← List.map_append]
  have S3 := (S2.trans T3).trans (same_new hp3 (.lst (((((menu.getD 0 []) ++ menu.getD 1 []) ++ menu.getD 2 []) ++ menu.getD 3 []).map V.str)))
  have e3 : upd K3 p3 (.lst (((((menu.getD 0 []) ++ menu.getD 1 []) ++ menu.getD 2 []) ++ menu.getD 3 []).map V.str)) p3 = some (.lst (((((menu.getD 0 []) ++ menu.getD 1 []) ++ menu.getD 2 []) ++ menu.getD 3 []).map V.str)) := upd_same
  generalize upd K3 p3 (.lst (((((menu.getD 0 []) ++ menu.getD 1 []) ++ menu.getD 2 []) ++ menu.getD 3 []).map V.str)) = G3 at S3 e3 ⊢
  wtm_at "zw"
  refine ⟨line_le (Nat.le_of_ble_eq_true rfl), fun q4 hq4 => ?_⟩
  have T4 := same_new hq4 (.lst [V.str (Str.ofString "look a +1:2"), V.str (Str.ofString "look abcdefghi"), V.str (Str.ofString "go a 1"), V.str (Str.ofString "1"), V.str (Str.ofString "\tend"), V.str (Str.ofString "look a 1: 2"), V.str (Str.ofString "do\ta 1"), V.str (Str.ofString "look a -:1")])
  have f4 : upd G3 q4 (.lst [V.str (Str.ofString "look a +1:2"), V.str (Str.ofString "look abcdefghi"), V.str (Str.ofString "go a 1"), V.str (Str.ofString "1"), V.str (Str.ofString "\tend"), V.str (Str.ofString "look a 1: 2"), V.str (Str.ofString "do\ta 1"), V.str (Str.ofString "look a -:1")]) q4 = some (.lst ((menu.getD 4 []).map V.str)) := upd_same
  have g4 := T4 _ _ e3
  generalize upd G3 q4 (.lst [V.str (Str.ofString "look a +1:2"), V.str (Str.ofString "look abcdefghi"), V.str (Str.ofString "go a 1"), V.str (Str.ofString "1"), V.str (Str.ofString "\tend"), V.str (Str.ofString "look a 1: 2"), V.str (Str.ofString "do\ta 1"), V.str (Str.ofString "look a -:1")]) = K4 at T4 f4 g4 ⊢
  refine ⟨p3, q4, _, _, rfl, rfl, g4, f4, line_le (Nat.le_of_ble_eq_true rfl), fun p4 hp4 => ?_⟩
  rw [← List.map_append]
  have S4 := (S3.trans T4).trans (same_new hp4 (.lst ((((((menu.getD 0 []) ++ menu.getD 1 []) ++ menu.getD 2 []) ++ menu.getD 3 []) ++ menu.getD 4 []).map V.str)))
  have e4 : upd K4 p4 (.lst ((((((menu.getD 0 []) ++ menu.getD 1 []) ++ menu.getD 2 []) ++ menu.getD 3 []) ++ menu.getD 4 []).map V.str)) p4 = some (.lst ((((((menu.getD 0 []) ++ menu.getD 1 []) ++ menu.getD 2 []) ++ menu.getD 3 []) ++ menu.getD 4 []).map V.str)) := upd_same
  generalize upd K4 p4 (.lst ((((((menu.getD 0 []) ++ menu.getD 1 []) ++ menu.getD 2 []) ++ menu.getD 3 []) ++ menu.getD 4 []).map V.str)) = G4 at S4 e4 ⊢
  wtm_at "zw"
  refine ⟨line_le (Nat.le_of_ble_eq_true rfl), fun q5 hq5 => ?_⟩
  have T5 := same_new hq5 (.lst [V.str (Str.ofString "do a +1"), V.str (Str.ofString "do a 1_0"), V.str (Str.ofString "look a 1_0:1"), V.str (Str.ofString "look a 1:1_0"), V.str (Str.ofString "look a 1:+2"), V.str (Str.ofString "do a _1")])
  have f5 : upd G4 q5 (.lst [V.str (Str.ofString "do a +1"), V.str (Str.ofString "do a 1_0"), V.str (Str.ofString "look a 1_0:1"), V.str (Str.ofString "look a 1:1_0"), V.str (Str.ofString "look a 1:+2"), V.str (Str.ofString "do a _1")]) q5 = some (.lst ((menu.getD 5 []).map V.str)) := upd_same
  have g5 := T5 _ _ e4
  generalize upd G4 q5 (.lst [V.str (Str.ofString "do a +1"), V.str (Str.ofString "do a 1_0"), V.str (Str.ofString "look a 1_0:1"), V.str (Str.ofString "look a 1:1_0"), V.str (Str.ofString "look a 1:+2"), V.str (Str.ofString "do a _1")]) = K5 at T5 f5 g5 ⊢
  refine ⟨p4, q5, _, _, rfl, rfl, g5, f5, line_le (Nat.le_of_ble_eq_true rfl), fun p5 hp5 => ?_⟩
  rw [← List.map_append]
  have S5 := (S4.trans T5).trans (same_new hp5 (.lst (((((((menu.getD 0 []) ++ menu.getD 1 []) ++ menu.getD 2 []) ++ menu.getD 3 []) ++ menu.getD 4 []) ++ menu.getD 5 []).map V.str)))
  have e5 : upd K5 p5 (.lst (((((((menu.getD 0 []) ++ menu.getD 1 []) ++ menu.getD 2 []) ++ menu.getD 3 []) ++ menu.getD 4 []) ++ menu.getD 5 []).map V.str)) p5 = some (.lst (((((((menu.getD 0 []) ++ menu.getD 1 []) ++ menu.getD 2 []) ++ menu.getD 3 []) ++ menu.getD 4 []) ++ menu.getD 5 []).map V.str)) := upd_same
  generalize upd K5 p5 (.lst (((((((menu.getD 0 []) ++ menu.getD 1 []) ++ menu.getD 2 []) ++ menu.getD 3 []) ++ menu.getD 4 []) ++ menu.getD 5 []).map V.str)) = G5 at S5 e5 ⊢
  have em : ((((((menu.getD 0 []) ++ menu.getD 1 []) ++ menu.getD 2 []) ++ menu.getD 3 []) ++ menu.getD 4 []) ++ menu.getD 5 []) = menu.flatten := by decide +kernel
  rw [em] at e5
  have ne : menu.flatten ≠ [] := by decide +kernel
  wtm_at "zw"
  obtain ⟨z, hz, ez⟩ := at_mod (i := i) ne
  refine w_I (show (0 : Int) < (((menu.flatten.map V.str).length : Nat) : Int) by rw [List.length_map]; have := List.length_pos_iff.mpr ne; omega) ?_
  refine w_ixL (SqL.of e5) ez ?_
  exact q z _ (menu_bad hz) S5
theorem sc_law_spoilt : FnScope ["row", "number"] ["row", "number"] (defScope (top 35)) := ⟨rfl, rfl, rfl, by decide +kernel, rfl, by decide +kernel, by decide +kernel⟩
noncomputable def spSpoilt : Sp := fun vs H Q _ => ∃ (n : Nd) (i : Int), vs = [.str n.row, .int i] ∧ n.Good ∧ ∀ z H', Spoilt z → Same H H' → Q (.str z) H'
theorem dn_spoilt (F : Fd K mg "_law_spoilt" (top 35) ["row", "number"]) : Dn P w K mg base "_law_spoilt" 1 ["row", "number"] spSpoilt := by
  refine F.ok sc_law_spoilt (fun vs H Q E h => ?_) (fun f cdv A outer s H vs Q E hr h => ?_)
  · obtain ⟨_, _, rfl, _⟩ := h
    rfl
  obtain ⟨n, i, rfl, good, q⟩ := h
  refine ⟨_, (pss_cons (ps_if (pt_cmpR op_eq (pe_op op_mod (pv 1) pe_int) pe_int (nomark _)) (pss_one (ps_ret (pe_op op_add_str (pv 0) pe_str))) pss_nil)
    (pss_cons (ps_if (pt_cmpR op_eq (pe_op op_mod (pv 1) pe_int) pe_int (nomark _)) (pss_one (ps_ret (pe_op op_add_str pe_str (pv 0)))) pss_nil)
    (pss_cons (ps_if (pt_cmpR op_eq (pe_op op_mod (pv 1) pe_int) pe_int (nomark _)) (pss_one (ps_ret (pe_op op_add_str (pe_bm0K (K := K) PySem.F.plainAttrs_str PySem.F.slot_str_upper PySem.F.type_str_upper mt_upper (pe_ix ix_str (pv 0) pe_int (fun _ _ => rfl))) (pe_slice sl_str (pv 0) (po_some pe_int) po_none)))) pss_nil)
    (pss_cons (ps_if (pt_cmpR op_eq (pe_op op_mod (pv 1) pe_int) pe_int (nomark _)) (pss_one (ps_ret (pe_op op_add_str (pv 0) (pe_ix (ix_listK (K := K)) (pe_lst (pa_cons pe_str (pa_cons pe_str (pa_cons pe_str (pa_cons pe_str pa_nil))))) (pe_op op_mod (pe_op op_fdivB (pv 1) pe_int) pe_int) (fun _ _ => rfl))))) pss_nil)
    (pss_one (ps_ret (pe_op op_add_str (pv 0) pe_str))))))), ?_⟩
  wtm_at "zw"
  have rl := row_len good
  have l1 : (Str.ofString " ").length = 1 := by rw [c_blank]; rfl
  refine w_I (show (0 : Int) < 5 by decide) ?_
  wtm_at "zw"
  by_cases c0 : V.int (i % 5) = V.int 0
  · rw [decide_eq_true c0]
    refine iteT ?_
    wtm_at "zw"
    refine ⟨_, _, rfl, rfl, line_le (by rw [l1]; omega), q _ H ?_ (Same.refl _)⟩
    have := spoilt_more good (v := Str.ofString "") ⟨(fun c hc => by rw [c_none] at hc; exact nomatch hc), by rw [c_none]; decide⟩ (fun z => by rw [c_none] at z; exact nomatch z)
    have e : n.row ++ Str.ofString " " ++ Str.ofString "" = n.row ++ Str.ofString " " := by
      apply str_ext
      rw [codes_app, c_none]
      exact List.append_nil _
    rw [e] at this
    exact this
  rw [decide_eq_false c0]
  refine iteF ?_
  wtm_at "zw"
  refine w_I (show (0 : Int) < 5 by decide) ?_
  wtm_at "zw"
  by_cases c1 : V.int (i % 5) = V.int 1
  · rw [decide_eq_true c1]
    refine iteT ?_
    wtm_at "zw"
    exact ⟨_, _, rfl, rfl, line_le (by rw [l1]; omega), q _ H (spoilt_ahead good) (Same.refl _)⟩
  rw [decide_eq_false c1]
  refine iteF ?_
  wtm_at "zw"
  refine w_I (show (0 : Int) < 5 by decide) ?_
  wtm_at "zw"
  by_cases c2 : V.int (i % 5) = V.int 2
  · rw [decide_eq_true c2]
    refine iteT ?_
    obtain ⟨c, t, er, cc, sp⟩ := great_bad good
    have lt : n.row.length = 1 + t.length := by rw [er, len_app]; rfl
    have a0 : atI n.row.cps.toList 0 = some c := by
      rw [er, codes_app]
      exact at_head _ _
    wtm_at "zw"
    refine ⟨_, _, c, rfl, rfl, line_le (by omega), a0, ?_⟩
    wtm_at "zw"
    obtain ⟨u, eu, su⟩ : ∃ u, Txt.upper ⟨#[c]⟩ = ⟨#[u]⟩ ∧ Spoilt (⟨#[u]⟩ ++ t) := by
      rcases cc with z | z | z
      · subst z; exact ⟨69, up_e, sp 69 (fun _ => rfl) (fun z => absurd z (by decide)) fun z => absurd z (by decide)⟩
      · subst z; exact ⟨68, up_d, sp 68 (fun z => absurd z (by decide)) (fun _ => rfl) fun z => absurd z (by decide)⟩
      · subst z; exact ⟨76, up_l, sp 76 (fun z => absurd z (by decide)) (fun z => absurd z (by decide)) fun _ => rfl⟩
    refine ⟨_, rfl, rfl, (by rw [eu]; exact (show 1 ≤ 1000 by decide)), ?_⟩
    rw [eu]
    wtm_at "zw"
    refine ⟨_, rfl, (by omega), ?_⟩
    have es : Txt.slice n.row (some 1) none = t := by rw [er]; exact slice_one
    rw [es]
    exact ⟨_, _, rfl, rfl, line_le (by show 1 + t.length ≤ 1000000; omega), q _ H su (Same.refl _)⟩
  rw [decide_eq_false c2]
  refine iteF ?_
  wtm_at "zw"
  refine w_I (show (0 : Int) < 5 by decide) ?_
  wtm_at "zw"
  by_cases c3 : V.int (i % 5) = V.int 3
  · rw [decide_eq_true c3]
    refine iteT ?_
    wtm_at "zw"
    refine ⟨line_le (show 4 ≤ 1000000 by decide), fun p hp => ?_⟩
    have S1 := same_new hp (.lst [V.str (Str.ofString "."), V.str (Str.ofString ":"), V.str (Str.ofString ","), V.str (Str.ofString "-")])
    have e1 : upd H p (.lst [V.str (Str.ofString "."), V.str (Str.ofString ":"), V.str (Str.ofString ","), V.str (Str.ofString "-")]) p = some (.lst (tails.map V.str)) := upd_same
    generalize upd H p (.lst [V.str (Str.ofString "."), V.str (Str.ofString ":"), V.str (Str.ofString ","), V.str (Str.ofString "-")]) = H1 at S1 e1 ⊢
    wtm_at "zw"
    refine w_I ⟨by decide, by decide +kernel⟩ ?_
    wtm_at "zw"
    refine w_I (show (0 : Int) < 4 by decide) ?_
    obtain ⟨z, hz, ez⟩ := at_mod (ws := tails) (i := i / 5) (List.cons_ne_nil _ _)
    refine w_ixL (SqL.of e1) ez ?_
    have lz : z.length = 1 := by
      have t := List.all_eq_true.mp tails_ok z hz
      simp only [Bool.and_eq_true, decide_eq_true_eq] at t
      exact t.1.1
    exact ⟨_, _, rfl, rfl, line_le (by omega), q _ H1 (tail_bad good hz) S1⟩
  rw [decide_eq_false c3]
  refine iteF ?_
  wtm_at "zw"
  have e4 : Str.ofString " zoe" = Str.ofString " " ++ Str.ofString "zoe" := by decide +kernel
  have l4 : (Str.ofString " zoe").length = 4 := by decide +kernel
  refine ⟨_, _, rfl, rfl, line_le (by rw [l4]; omega), q _ H ?_ (Same.refl _)⟩
  have e5 : n.row ++ Str.ofString " zoe" = n.row ++ Str.ofString " " ++ Str.ofString "zoe" := by
    rw [e4]
    apply str_ext
    simp only [codes_app, List.append_assoc]
  rw [e5]
  exact spoilt_more good (v := Str.ofString "zoe") (by decide +kernel) (by decide +kernel)

theorem sc_law_refused : FnScope ["text", "good", "e"] ["text"] (defScope (top 36)) := ⟨rfl, rfl, rfl, by decide +kernel, rfl, by decide +kernel, by decide +kernel⟩
structure Refs (K : PySem.W.Frag) (mg : Str → Option Value) (CF CT : Addr) (oth : List Addr) : Prop where
  F : Ref K mg "ForkError" CF bmV
  T : Ref K mg "NoText" CT (.ref CF :: bmV)
  fork : PySem.W.kitOne K (.ref CT) (.ref CF) = some true
  value : PySem.W.kitOne K (.ref CT) (.type "ValueError") = some true
  no : ∀ D ∈ oth, (Value.ref CT :: .ref CF :: bmV).contains (.ref D) = false
noncomputable def spRefused : Sp := fun vs H Q _ => ∃ (rows : List Str) (ns : List Nd) (b : Str) (post : List Str), vs = [.str (Txt.join (Str.ofString "\n") rows)] ∧ rows.length ≤ 100 ∧ (∀ r ∈ rows, r.length ≤ 1000 ∧ ∀ c ∈ r.cps.toList, c ≠ 10) ∧ (∀ n ∈ ns, n.Good) ∧
  rows = ns.map Nd.row ++ b :: post ∧ BadRow (Txt.split b (Str.ofString " ")) ∧ ∀ H', Same H H' → Q (.bl true) H'
theorem dn_refused {CF CT C1 C2 C3 C4 C5 C6 C7 C8 : Addr} (YK : K.In base) (F : Fd K mg "_law_refused" (top 36) ["text"]) (B : Bl mg) (B_ValueError : mg "ValueError" = none) (R : Refs K mg CF CT [C1, C2, C3, C4, C5, C6, C7, C8])
    {b1 b2 b3 b4 b5 b6 b7 b8 : List Value} (R_NoName : Ref K mg "NoName" C1 b1) (R_NoOrder : Ref K mg "NoOrder" C2 b2) (R_NoPlan : Ref K mg "NoPlan" C3 b3) (R_NotPlain : Ref K mg "NotPlain" C4 b4) (R_NotSure : Ref K mg "NotSure" C5 b5) (R_NoWeights : Ref K mg "NoWeights" C6 b6) (R_NoWorld : Ref K mg "NoWorld" C7 b7) (R_TooMany : Ref K mg "TooMany" C8 b8)
    (X_read_plan : Dx P w K mg base "read_plan" 6 ["text"] (spRPlan CT)) : Dn P w K mg base "_law_refused" 7 ["text"] spRefused := by
  refine F.ok sc_law_refused (fun vs H Q E h => ?_) (fun f cdv A outer s H vs Q E hr h => ?_)
  · obtain ⟨_, _, _, _, rfl, _⟩ := h
    rfl
  obtain ⟨rows, ns, b, post, rfl, lr, fr, good, er, bad, q⟩ := h
  have R_ForkError := R.F
  have R_NoText := R.T
  have RS_all : ∀ D ∈ [C1, C2, C3, C4, C5, C6, C7, C8], ∃ bm', ExcAt base D bm' := by
    intro D hD
    simp only [List.mem_cons, List.not_mem_nil, or_false] at hD
    rcases hD with z | z | z | z | z | z | z | z
    · rw [z]; exact ⟨_, R_NoName.asks.at' _ YK⟩
    · rw [z]; exact ⟨_, R_NoOrder.asks.at' _ YK⟩
    · rw [z]; exact ⟨_, R_NoPlan.asks.at' _ YK⟩
    · rw [z]; exact ⟨_, R_NotPlain.asks.at' _ YK⟩
    · rw [z]; exact ⟨_, R_NotSure.asks.at' _ YK⟩
    · rw [z]; exact ⟨_, R_NoWeights.asks.at' _ YK⟩
    · rw [z]; exact ⟨_, R_NoWorld.asks.at' _ YK⟩
    · rw [z]; exact ⟨_, R_TooMany.asks.at' _ YK⟩
  refine ⟨_, (pss_cons (ps_set (i := 1) sc_law_refused.nd rfl (by first | exact Or.inl rfl | exact Or.inr rfl) pe_bl)
    (pss_cons (ps_try2 (i := 2) rfl rfl rfl sc_law_refused.nd rfl rfl rfl R_NoText.bd (R_NoText.asks.at' _ YK) RS_all (fun x => PE.wk (pe_tup (pa_cons (pe_ref R_NoName) (pa_cons (pe_ref R_NoOrder) (pa_cons (pe_ref R_NoPlan) (pa_cons (pe_ref R_NotPlain) (pa_cons (pe_ref R_NotSure) (pa_cons (pe_ref R_NoWeights) (pa_cons (pe_ref R_NoWorld) (pa_cons (pe_ref R_TooMany) pa_nil))))))))) fun σ H Q h => ⟨line_le (show 8 ≤ 1000000 by decide), h⟩) (pxs_one (px_expr (pxe_callX X_read_plan hr (pa_cons (pv 0) pa_nil)))) (fun x => (pss_one (ps_set (i := 1) sc_law_refused.nd rfl (by first | exact Or.inl rfl | exact Or.inr rfl) (pe_and (pe_callB (call_isiEK (K := K)) rfl B.isinstance' bt_isinstance (pa_cons (pv 2) (pa_cons (pe_ref R_ForkError) pa_nil))) (pe_one (pe_callB (call_isiTK (K := K)) rfl B.isinstance' bt_isinstance (pa_cons (pv 2) (pa_cons (pe_ty rfl B_ValueError bt_ValueError) pa_nil)))))))))
    (pss_one (ps_ret (pv 1))))), ?_⟩
  wtm_at "zw"
  refine ⟨_, rfl, rows, ns, rfl, (by rw [er]; simp), lr, fr, good, .inr ⟨b, post, er, bad, fun H' S' => ?_⟩⟩
  refine ⟨CT, _, rfl, R.T.asks.at' _ YK, R.no, (by rw [List.contains_cons, beq_self_eq_true, Bool.true_or]), fun x T p hx hT ne hp => ?_⟩
  have ex : held H' x T (.ref CT) x = some (.ext (IsExc x T (.ref CT))) := upd_same
  have S2 : Same H' (held H' x T (.ref CT)) := (same_new hT _).trans (same_new (by rw [upd_ne ne.symm]; exact hx) _)
  generalize held H' x T (.ref CT) = H1 at ex S2 hp ⊢
  have S3 := same_new hp (.tup ([C1, C2, C3, C4, C5, C6, C7, C8].map V.ref))
  have ex2 := S3 _ _ ex
  generalize upd H1 p (.tup ([C1, C2, C3, C4, C5, C6, C7, C8].map V.ref)) = H2 at S3 ex2 ⊢
  wtm_at "zw"
  refine ⟨x, T, CT, _, CF, true, rfl, ex2, R.T.asks, R.fork, ?_⟩
  wtm_at "zw"
  refine ⟨x, T, CT, _, "ValueError", true, rfl, ex2, R.T.asks, R.value, ?_⟩
  wtm_at "zw"
  refine drop_nx ?_
  wtm_at "zw"
  exact q _ ((S'.trans S2).trans S3)

theorem NdAt.deq {H : Hp} {n : Nd} {u v : V} (h : NdAt H n u) (g : NdAt H n v) : DEq K H 3 u v := by
  cases n with
  | fin =>
    obtain ⟨a, rfl, ha⟩ := h
    obtain ⟨b, rfl, hb⟩ := g
    refine .tup (SqT.of ha) (SqT.of hb) rfl fun j x y ex ey => ?_
    rw [ex] at ey
    cases ey
    rw [List.mem_singleton.mp (List.mem_of_getElem? ex)]
    exact .str _
  | act w to =>
    obtain ⟨a, rfl, ha⟩ := h
    obtain ⟨b, rfl, hb⟩ := g
    refine .tup (SqT.of ha) (SqT.of hb) rfl fun j x y ex ey => ?_
    rw [ex] at ey
    cases ey
    rcases List.mem_cons.mp (List.mem_of_getElem? ex) with e | hm
    · rw [e]; exact .str _
    · rcases List.mem_cons.mp hm with e | hm
      · rw [e]; exact .str _
      · rw [List.mem_singleton.mp hm]; exact .int _
  | see w fs =>
    obtain ⟨a, p, us, rfl, ha, hp, pf⟩ := h
    obtain ⟨b, p', us', rfl, hb, hp', pf'⟩ := g
    have l1 := Paired.length pf
    have l2 := Paired.length pf'
    refine .tup (SqT.of ha) (SqT.of hb) rfl fun j x y ex ey => ?_
    match j, ex, ey with
    | 0, ex, ey => cases ex; cases ey; exact .str _
    | 1, ex, ey => cases ex; cases ey; exact .str _
    | 2, ex, ey =>
      cases ex; cases ey
      refine .tup (SqT.of hp) (SqT.of hp') (by omega) fun j x y ex ey => ?_
      have hj := (List.getElem?_eq_some_iff.mp ex).1
      obtain ⟨f, ef⟩ : ∃ f, fs[j]? = some f := ⟨_, List.getElem?_eq_getElem (by omega)⟩
      obtain ⟨c, rfl, hc⟩ := paired_get pf ef ex
      obtain ⟨d, rfl, hd⟩ := paired_get pf' ef ey
      refine .tup (SqT.of hc) (SqT.of hd) rfl fun j x y ex ey => ?_
      rw [ex] at ey
      cases ey
      rcases List.mem_cons.mp (List.mem_of_getElem? ex) with e | hm
      · rw [e]; exact .int _
      · rw [List.mem_singleton.mp hm]; exact .int _
    | j + 3, ex, ey => cases ex

theorem sc_law : FnScope ["script", "nodes", "rows", "cell", "way", "at", "number", "bad"] ["script"] (defScope (top 37)) := ⟨rfl, rfl, rfl, by decide +kernel, rfl, by decide +kernel, by decide +kernel⟩
theorem co_law1 : CompOk (defScope (top 37)) ["script", "nodes", "rows", "cell", "way", "at", "number", "bad"] (scAt (defBody (top 37)) [1] []) ["node"] 1 [] :=
  ⟨by decide +kernel, by decide +kernel, by decide +kernel, by decide +kernel, by decide +kernel, by decide +kernel, by decide +kernel, by decide +kernel⟩
noncomputable def spLaw (K : PySem.W.Frag) : Sp := fun vs H Q _ => ∃ (a : Addr) (ns : List Int), vs = [.ref a] ∧ SqL K H a (ns.map V.int) ∧ ns.length ≤ 63 ∧ ∀ H', Q (.bl true) H'
theorem comp_rows {σ : St} {H : Hp} {Q : VK} {a : Addr} {us : List V} {ns : List Nd} (ha : H a = some (.lst us)) (pn : Paired (NdAt H) ns us) (good : ∀ n ∈ ns, n.Good) (l : ns.length ≤ 100)
    (q : ∀ (D : Addr) (H2 : Hp), Same H H2 → H2 D = some (.lst ((ns.map Nd.row).map V.str)) → Q (.ref D) H2) : rdC 1 [] (gName 0) tYes (tCall spRow [] E0 (tCons (tVar 0) tNil)) (Itl K a) σ H Q := by
  have lu := Paired.length pn
  refine comp_list (xs := us) (fun D i ys H' => ys = ((ns.take i).map Nd.row).map V.str ∧ Same H H') (fun D hD => ⟨rfl, same_new hD _⟩)
    (fun D i ys H' _ hP => SqL.of (hP.2 _ _ ha)) (fun D i u ys H' N hD hDy ex hP hN => ?_) (fun D ys H2 hD hDy hP => ?_)
  · obtain ⟨rfl, hk⟩ := hP
    have hi := (List.getElem?_eq_some_iff.mp ex).1
    obtain ⟨g, eg⟩ : ∃ b, ns[i]? = some b := ⟨_, List.getElem?_eq_getElem (by omega)⟩
    refine ⟨⟨[some u], rfl, rfl⟩, w_yes (iteT ?_)⟩
    wtm_at "zw"
    refine ⟨g, u, rfl, (paired_get pn eg ex).same hk, good g (List.mem_of_getElem? eg), fun H1 S1 => ?_⟩
    refine ⟨S1 _ _ hDy, ?_, hN _ _ upd_same ⟨?_, (hk.trans S1).set hD⟩⟩
    · rw [List.length_map, List.length_map, List.length_take]; exact small (by omega)
    · rw [take_snoc eg, List.map_append, List.map_append]; rfl
  · obtain ⟨rfl, hk⟩ := hP
    rw [← lu, List.take_length] at hDy
    exact q D H2 hk hDy
theorem cut_to (ws : List Str) {k : Nat} (h : k ≤ ws.length) : cutV (ws.map V.str) none (some (k : Int)) = (ws.take k).map V.str := by
  unfold cutV
  rw [HT.sIx_none, HT.sIx_nat, List.length_map, List.drop_zero, Nat.sub_zero, List.map_take, Nat.min_eq_left h]
theorem cut_from (ws : List Str) {k : Nat} (h : k ≤ ws.length) : cutV (ws.map V.str) (some (k : Int)) none = (ws.drop k).map V.str := by
  unfold cutV
  rw [HT.sIx_none, HT.sIx_nat, List.length_map, Nat.min_eq_left h, ← List.map_drop]
  refine List.take_of_length_le ?_
  rw [List.length_map, List.length_drop]
  exact Nat.le_refl _
theorem cut_ints (cs : List Int) (lo hi : Option Int) : ∃ ds : List Int, cutV (cs.map V.int) lo hi = ds.map V.int ∧ ds.length ≤ cs.length := by
  unfold cutV
  rw [← List.map_drop, ← List.map_take]
  exact ⟨_, rfl, by rw [List.length_take, List.length_drop]; omega⟩
structure BadRows (ns : List Nd) (rows : List Str) : Prop where
  ex : ∃ (k : Nat) (b : Str) (post : List Str), rows = (ns.take k).map Nd.row ++ b :: post ∧ Spoilt b ∧ rows.length ≤ 100 ∧ ∀ r ∈ post, r ∈ ns.map Nd.row
theorem row_ok {ns : List Nd} (good : ∀ n ∈ ns, n.Good) : ∀ r ∈ ns.map Nd.row, r.length ≤ 1000 ∧ ∀ c ∈ r.cps.toList, c ≠ 10 := fun r hr => by
  obtain ⟨n, hn, e⟩ := List.mem_map.mp hr
  rw [← e]
  have g := good n hn
  exact ⟨by have := row_len g; omega, fun c hc => by have := row_free g c hc; omega⟩
theorem BadRows.ok {ns : List Nd} {rows : List Str} (h : BadRows ns rows) (good : ∀ n ∈ ns, n.Good) : ∀ r ∈ rows, r.length ≤ 1000 ∧ ∀ c ∈ r.cps.toList, c ≠ 10 := fun r hr => by
  obtain ⟨k, b, post, e, sp, _, pr⟩ := h.ex
  rw [e] at hr
  rcases List.mem_append.mp hr with z | z
  · obtain ⟨n, hn, e2⟩ := List.mem_map.mp z
    exact row_ok good r (by rw [← e2]; exact List.mem_map_of_mem (List.mem_of_mem_take hn))
  · rcases List.mem_cons.mp z with z | z
    · rw [z]; exact ⟨sp.len, sp.free⟩
    · exact row_ok good r (pr r z)
theorem join_fits {rows : List Str} (h : ∀ r ∈ rows, r.length ≤ 1000) (l : rows.length ≤ 100) : (rows.map (·.length)).sum + rows.length * (Str.ofString "\n").length ≤ 1000000 := by
  have h2 := sum_le h
  have : (Str.ofString "\n").length = 1 := by rw [c_feed]; rfl
  rw [this]
  have : rows.length * 1000 ≤ 100 * 1000 := Nat.mul_le_mul_right _ l
  omega
theorem ok_law {CT : Addr} {f : Addr} {fd : FuncData} (F : Fun K "law" "law" (top 37) f fd) (B : Bl mg) (D_law_nodes : Dn P w K mg base "_law_nodes" 3 ["script"] (spNodes K)) (D_law_node_row : Dn P w K mg base "_law_node_row" 1 ["node"] spRow)
    (D_law_drawn : Dn P w K mg base "_law_drawn" 2 ["cell", "sizes"] spDrawn) (D_law_bad_row : Dn P w K mg base "_law_bad_row" 1 ["number"] spBadRow) (D_law_spoilt : Dn P w K mg base "_law_spoilt" 1 ["row", "number"] spSpoilt)
    (D_law_refused : Dn P w K mg base "_law_refused" 7 ["text"] spRefused) (D_read_plan : Dn P w K mg base "read_plan" 6 ["text"] (fun vs H Q _ => spRPlan CT vs H Q fun _ _ _ => False)) : FnOk P w K mg base CX0 60 f fd ["script"] (spLaw K) := by
  refine F.ok (k := 59) sc_law (fun vs H Q E h => ?_) (fun cdv A outer s H vs Q E hr h => ?_)
  · obtain ⟨_, _, rfl, _⟩ := h
    rfl
  obtain ⟨a, cs, rfl, hS, h63, q⟩ := h
  refine ⟨_, (pss_cons (ps_set (i := 1) sc_law.nd rfl (by first | exact Or.inl rfl | exact Or.inr rfl) (pe_callD D_law_nodes hr (pa_cons (pv 0) pa_nil)))
    (pss_cons (ps_setComp (i := 2) sc_law.nd rfl (by first | exact Or.inl rfl | exact Or.inr rfl) rfl co_law1 (pi_listK (K := K) (pv 1)) (fun cl fp s H => (pg_name (i := 0) co_law1.nd rfl (Or.inl rfl) (.inr rfl))) (fun cl fp s H => pts_nil) (fun cl fp s H => (pe_callD D_law_node_row hr (pa_cons (pv 0) pa_nil))))
    (pss_cons (ps_for PassesOwn.never rfl (pi_listK (K := K) (pe_op op_cat (pe_lst (pa_cons pe_int pa_nil)) (pe_slice (sl_listK (K := K)) (pv 0) (po_some pe_int) (po_some pe_int)))) (pg_name (i := 3) sc_law.nd rfl (by first | exact Or.inl rfl | exact Or.inr rfl)) (pss_cons (ps_asg (pe_callD D_law_drawn hr (pa_cons (pv 3) (pa_cons (pe_lst (pa_cons pe_int (pa_cons (pe_callB (call_lenK (K := K)) rfl B.len' bt_len (pa_cons (pv 2) pa_nil)) (pa_cons (pe_op op_pow pe_int pe_int) pa_nil)))) pa_nil))) (pg_lstK (K := K) (n := 3) rfl (pgs_cons (pg_name (i := 4) sc_law.nd rfl (by first | exact Or.inl rfl | exact Or.inr rfl)) (pgs_cons (pg_name (i := 5) sc_law.nd rfl (by first | exact Or.inl rfl | exact Or.inr rfl)) (pgs_cons (pg_name (i := 6) sc_law.nd rfl (by first | exact Or.inl rfl | exact Or.inr rfl)) pgs_nil)))))
    (pss_cons (ps_set (i := 7) sc_law.nd rfl (by first | exact Or.inl rfl | exact Or.inr rfl) (pe_op op_cat (pe_op op_cat (pe_slice (sl_listK (K := K)) (pv 2) po_none (po_some (pv 5))) (pe_lst (pa_cons (pe_callD D_law_bad_row hr (pa_cons (pv 6) pa_nil)) pa_nil))) (pe_slice (sl_listK (K := K)) (pv 2) (po_some (pv 5)) po_none)))
    (pss_cut (ps_if (pt_cmpR op_eq (pv 4) pe_int (nomark _)) (pss_one (ps_set (i := 7) sc_law.nd rfl (by first | exact Or.inl rfl | exact Or.inr rfl) (pe_op op_cat (pe_op op_cat (pe_slice (sl_listK (K := K)) (pv 2) po_none (po_some (pv 5))) (pe_lst (pa_cons (pe_callD D_law_spoilt hr (pa_cons (pe_ix (ix_listK (K := K)) (pv 2) (pv 5) (fun _ _ => rfl)) (pa_cons (pv 6) pa_nil))) pa_nil))) (pe_slice (sl_listK (K := K)) (pv 2) (po_some (pe_op op_add (pv 5) pe_int)) po_none)))) pss_nil)
    (pss_one (ps_if (pt_not (pt_val (pe_callD D_law_refused hr (pa_cons (pe_bmK (K := K) PySem.F.plainAttrs_str PySem.F.slot_str_join PySem.F.type_str_join mt_join pe_str (pa_cons (pv 7) pa_nil)) pa_nil)))) (pss_one (ps_ret pe_bl)) pss_nil))))))
    (pss_one (ps_ret (pe_cmpR (op_eqLK (K := K) hr.units) (pe_callD D_read_plan hr (pa_cons (pe_bmK (K := K) PySem.F.plainAttrs_str PySem.F.slot_str_join PySem.F.type_str_join mt_join pe_str (pa_cons (pv 2) pa_nil)) pa_nil)) (pv 1) (nomark _))))))), ?_⟩
  wtm_at "zw"
  refine ⟨a, cs, rfl, hS, fun l us ns H1 nl S1 el pn ne good l40 => ?_⟩
  have lu := Paired.length pn
  wtm_at "zf"
  refine ⟨l, rfl, ⟨us, SqL.of el⟩, comp_rows el pn good (by omega) fun rl H2 S2 e2 => ?_⟩
  have el2 := S2 _ _ el
  have hS2 := (S1.trans S2).seq hS
  have pn2 := Paired.mapP pn fun _ _ z => NdAt.same z S2
  have lrow : (ns.map Nd.row).length = ns.length := List.length_map _
  obtain ⟨nn, enn⟩ : ∃ m, m = ns.length := ⟨_, rfl⟩
  have n0 : 0 < nn := by rw [enn]; exact List.length_pos_iff.mpr ne
  wtm_at "zf"
  refine ⟨line_le (show 1 ≤ 1000000 by decide), fun p0 hp0 => ?_⟩
  have S3 := same_new hp0 (.lst [V.int 0])
  have e30 : upd H2 p0 (.lst [V.int 0]) p0 = some (.lst [V.int 0]) := upd_same
  generalize upd H2 p0 (.lst [V.int 0]) = H3 at S3 e30 ⊢
  wtm_at "zw"
  refine ⟨a, _, rfl, S3.seq hS2, fun p1 hp1 => ?_⟩
  obtain ⟨ds, eds, lds⟩ := cut_ints cs (some 42) (some 63)
  rw [eds]
  have S4 := same_new hp1 (.lst (ds.map V.int))
  have e41 : upd H3 p1 (.lst (ds.map V.int)) p1 = some (.lst (ds.map V.int)) := upd_same
  have e40 := S4 _ _ e30
  generalize upd H3 p1 (.lst (ds.map V.int)) = H4 at S4 e41 e40 ⊢
  refine ⟨p0, p1, _, _, rfl, rfl, e40, e41, line_le (by rw [List.length_map]; show 1 + ds.length ≤ 1000000; omega), fun p2 hp2 => ?_⟩
  have S5 := (S3.trans S4).trans (same_new hp2 (.lst ([V.int 0] ++ ds.map V.int)))
  have e5 : upd H4 p2 (.lst ([V.int 0] ++ ds.map V.int)) p2 = some (.lst ((0 :: ds).map V.int)) := upd_same
  generalize upd H4 p2 (.lst ([V.int 0] ++ ds.map V.int)) = H5 at S5 e5 ⊢
  have er5 := S5 _ _ e2
  have el5 := S5 _ _ el2
  have pn5 := Paired.mapP pn2 fun _ _ z => NdAt.same z S5
  refine ⟨p2, rfl, ⟨_, SqL.of e5⟩, ?_⟩
  refine for_list (xs := (0 :: ds).map V.int) (fun i σ' H' => ∃ z3 z4 z5 z6 z7, σ' = [some (.ref a), some (.ref l), some (.ref rl), z3, z4, z5, z6, z7] ∧ Same H5 H') ⟨none, none, none, none, none, rfl, Same.refl _⟩ (fun i σ' H' _ hP => by obtain ⟨_, _, _, _, _, _, S⟩ := hP; exact SqL.of (S _ _ e5)) ?_ ?_
  · rintro i u σ' H' ex ⟨z3, z4, z5, z6, z7, rfl, S⟩
    obtain ⟨c, rfl⟩ : ∃ c : Int, u = .int c := by
      rw [List.getElem?_map] at ex
      cases h : (0 :: ds)[i]? with
      | none => rw [h] at ex; cases ex
      | some c => rw [h] at ex; exact ⟨c, (Option.some.inj ex).symm⟩
    have er6 := S _ _ er5
    wtm_at "zw"
    refine w_I ⟨by decide, by decide, by decide⟩ ?_
    wtm_at "zw"
    rw [List.length_map, List.length_map, ← enn]
    refine ⟨line_le (show 3 ≤ 1000000 by decide), fun p7 hp7 => ?_⟩
    have T1 := same_new hp7 (.lst [V.int 2, V.int ((nn : Nat) : Int), V.int (10 ^ (9 : Int).toNat)])
    have f1 : upd H' p7 (.lst [V.int 2, V.int ((nn : Nat) : Int), V.int (10 ^ (9 : Int).toNat)]) p7 = some (.lst (intsV [2, ((nn : Nat) : Int), 1000000000])) := upd_same
    generalize upd H' p7 (.lst [V.int 2, V.int ((nn : Nat) : Int), V.int (10 ^ (9 : Int).toNat)]) = G1 at T1 f1 ⊢
    wtm_at "zw"
    refine ⟨c, p7, [2, ((nn : Nat) : Int), 1000000000], rfl, f1, Nat.le_of_ble_eq_true rfl, fun z hz => ?_, fun r xs hr' hl hb => ?_⟩
    · simp only [List.mem_cons, List.not_mem_nil, or_false] at hz
      rcases hz with z | z | z <;> subst z <;> first | decide | (constructor <;> omega)
    obtain ⟨wy, at', nu, rfl⟩ : ∃ x0 x1 x2, xs = [x0, x1, x2] := by
      match xs, hl with
      | [y0, y1, y2], _ => exact ⟨y0, y1, y2, rfl⟩
    have b1 := hb 1 at' ((nn : Nat) : Int) rfl rfl
    have T2 := T1.trans (same_new hr' (.lst (intsV [wy, at', nu])))
    have f2 : upd G1 r (.lst (intsV [wy, at', nu])) r = some (.lst [.int wy, .int at', .int nu]) := upd_same
    generalize upd G1 r (.lst (intsV [wy, at', nu])) = G2 at T2 f2 ⊢
    obtain ⟨k, rfl⟩ : ∃ k : Nat, at' = (k : Int) := ⟨at'.toNat, by omega⟩
    have hk : k < ns.length := by omega
    refine ⟨r, _, rfl, SqL.of f2, rfl, ?_⟩
    wtm_at "zw"
    have er7 := T2 _ _ er6
    -- rows[:at]
    have kr : k ≤ (ns.map Nd.row).length := by rw [lrow]; omega
    refine ⟨rl, _, rfl, SqL.of er7, fun p8 hp8 => ?_⟩
    rw [cut_to _ kr]
    have T3 := T2.trans (same_new hp8 (.lst (((ns.map Nd.row).take k).map V.str)))
    have f3 : upd G2 p8 (.lst (((ns.map Nd.row).take k).map V.str)) p8 = some (.lst (((ns.map Nd.row).take k).map V.str)) := upd_same
    generalize upd G2 p8 (.lst (((ns.map Nd.row).take k).map V.str)) = G3 at T3 f3 ⊢
    wtm_at "zw"
    refine ⟨nu, rfl, fun z G4 sp T4' => ?_⟩
    have T4 := T3.trans T4'
    have f4 := T4' _ _ f3
    wtm_at "zw"
    refine ⟨line_le (show 1 ≤ 1000000 by decide), fun p9 hp9 => ?_⟩
    have T5 := T4.trans (same_new hp9 (.lst [V.str z]))
    have f5 : upd G4 p9 (.lst [V.str z]) p9 = some (.lst ([z].map V.str)) := upd_same
    have g5 := same_new hp9 (.lst [V.str z]) _ _ f4
    generalize upd G4 p9 (.lst [V.str z]) = G5 at T5 f5 g5 ⊢
    refine ⟨p8, p9, _, _, rfl, rfl, g5, f5, line_le (by rw [List.length_map, List.length_map, List.length_take]; show _ + 1 ≤ 1000000; omega), fun q1 hq1 => ?_⟩
    rw [← List.map_append]
    have T6 := T5.trans (same_new hq1 (.lst (((ns.map Nd.row).take k ++ [z]).map V.str)))
    have f6 : upd G5 q1 (.lst (((ns.map Nd.row).take k ++ [z]).map V.str)) q1 = some (.lst (((ns.map Nd.row).take k ++ [z]).map V.str)) := upd_same
    generalize upd G5 q1 (.lst (((ns.map Nd.row).take k ++ [z]).map V.str)) = G6 at T6 f6 ⊢
    wtm_at "zw"
    refine ⟨rl, _, rfl, SqL.of (T6 _ _ er6), fun q2 hq2 => ?_⟩
    rw [cut_from _ kr]
    have T7 := T6.trans (same_new hq2 (.lst (((ns.map Nd.row).drop k).map V.str)))
    have f7 : upd G6 q2 (.lst (((ns.map Nd.row).drop k).map V.str)) q2 = some (.lst (((ns.map Nd.row).drop k).map V.str)) := upd_same
    have g7 := same_new hq2 (.lst (((ns.map Nd.row).drop k).map V.str)) _ _ f6
    generalize upd G6 q2 (.lst (((ns.map Nd.row).drop k).map V.str)) = G7 at T7 f7 g7 ⊢
    refine ⟨q1, q2, _, _, rfl, rfl, g7, f7, line_le (by rw [List.length_map, List.length_map, List.length_append, List.length_take, List.length_drop]; show _ + 1 + _ ≤ 1000000; omega), fun q3 hq3 => ?_⟩
    rw [← List.map_append]
    have T8 := T7.trans (same_new hq3 (.lst (((ns.map Nd.row).take k ++ [z] ++ (ns.map Nd.row).drop k).map V.str)))
    have f8 : upd G7 q3 (.lst (((ns.map Nd.row).take k ++ [z] ++ (ns.map Nd.row).drop k).map V.str)) q3 = some (.lst (((ns.map Nd.row).take k ++ [z] ++ (ns.map Nd.row).drop k).map V.str)) := upd_same
    generalize upd G7 q3 (.lst (((ns.map Nd.row).take k ++ [z] ++ (ns.map Nd.row).drop k).map V.str)) = G8 at T8 f8 ⊢
    have tk : (ns.map Nd.row).take k = (ns.take k).map Nd.row := (List.map_take).symm
    have bad1 : BadRows ns ((ns.map Nd.row).take k ++ [z] ++ (ns.map Nd.row).drop k) := ⟨k, z, (ns.map Nd.row).drop k, by rw [tk, List.append_assoc]; rfl, sp, by rw [List.length_append, List.length_append, List.length_take, List.length_drop, lrow]; show _ + 1 + _ ≤ 100; omega, fun r hr => List.mem_of_mem_drop hr⟩
    wtm_at "zw"
    refine ⟨fun σ2 G => ∃ (bl : Addr) (rows : List Str), σ2 = [some (.ref a), some (.ref l), some (.ref rl), some (.int c), some (.int wy), some (.int (k : Int)), some (.int nu), some (.ref bl)] ∧ Same H5 G ∧ G bl = some (.lst (rows.map V.str)) ∧ BadRows ns rows, ?_, ?_⟩
    · wtm_at "zw"
      by_cases w1 : V.int wy = V.int 1
      · rw [decide_eq_true w1]
        refine iteT ?_
        have er8 := T8 _ _ er6
        have kr1 : k + 1 ≤ (ns.map Nd.row).length := by rw [lrow]; omega
        wtm_at "zw"
        refine ⟨rl, _, rfl, SqL.of er8, fun p8 hp8 => ?_⟩
        rw [cut_to _ kr]
        have T3 := T8.trans (same_new hp8 (.lst (((ns.map Nd.row).take k).map V.str)))
        have f3 : upd G8 p8 (.lst (((ns.map Nd.row).take k).map V.str)) p8 = some (.lst (((ns.map Nd.row).take k).map V.str)) := upd_same
        generalize upd G8 p8 (.lst (((ns.map Nd.row).take k).map V.str)) = G3 at T3 f3 ⊢
        obtain ⟨g, eg⟩ : ∃ b, ns[k]? = some b := ⟨_, List.getElem?_eq_getElem hk⟩
        wtm_at "zw"
        refine w_ixL (SqL.of (T3 _ _ er6)) (show atI ((ns.map Nd.row).map V.str) ((k : Nat) : Int) = some (.str g.row) from atI_nat (by rw [List.getElem?_map, List.getElem?_map, eg]; rfl)) ?_
        wtm_at "zw"
        refine ⟨g, nu, rfl, good g (List.mem_of_getElem? eg), fun z G4 sp T4' => ?_⟩
        have T4 := T3.trans T4'
        have f4 := T4' _ _ f3
        wtm_at "zw"
        refine ⟨line_le (show 1 ≤ 1000000 by decide), fun p9 hp9 => ?_⟩
        have T5 := T4.trans (same_new hp9 (.lst [V.str z]))
        have f5 : upd G4 p9 (.lst [V.str z]) p9 = some (.lst ([z].map V.str)) := upd_same
        have g5 := same_new hp9 (.lst [V.str z]) _ _ f4
        generalize upd G4 p9 (.lst [V.str z]) = G5 at T5 f5 g5 ⊢
        refine ⟨p8, p9, _, _, rfl, rfl, g5, f5, line_le (by rw [List.length_map, List.length_map, List.length_take]; show _ + 1 ≤ 1000000; omega), fun q1 hq1 => ?_⟩
        rw [← List.map_append]
        have T6 := T5.trans (same_new hq1 (.lst (((ns.map Nd.row).take k ++ [z]).map V.str)))
        have f6 : upd G5 q1 (.lst (((ns.map Nd.row).take k ++ [z]).map V.str)) q1 = some (.lst (((ns.map Nd.row).take k ++ [z]).map V.str)) := upd_same
        generalize upd G5 q1 (.lst (((ns.map Nd.row).take k ++ [z]).map V.str)) = G6 at T6 f6 ⊢
        wtm_at "zw"
        refine ⟨rl, _, rfl, SqL.of (T6 _ _ er6), fun q2 hq2 => ?_⟩
        rw [show ((k : Int) + 1) = ((k + 1 : Nat) : Int) from rfl, cut_from _ kr1]
        have T7 := T6.trans (same_new hq2 (.lst (((ns.map Nd.row).drop (k + 1)).map V.str)))
        have f7 : upd G6 q2 (.lst (((ns.map Nd.row).drop (k + 1)).map V.str)) q2 = some (.lst (((ns.map Nd.row).drop (k + 1)).map V.str)) := upd_same
        have g7 := same_new hq2 (.lst (((ns.map Nd.row).drop (k + 1)).map V.str)) _ _ f6
        generalize upd G6 q2 (.lst (((ns.map Nd.row).drop (k + 1)).map V.str)) = G7 at T7 f7 g7 ⊢
        refine ⟨q1, q2, _, _, rfl, rfl, g7, f7, line_le (by rw [List.length_map, List.length_map, List.length_append, List.length_take, List.length_drop]; show _ + 1 + _ ≤ 1000000; omega), fun q3 hq3 => ?_⟩
        rw [← List.map_append]
        have T9 := T7.trans (same_new hq3 (.lst (((ns.map Nd.row).take k ++ [z] ++ (ns.map Nd.row).drop (k + 1)).map V.str)))
        have f9 : upd G7 q3 (.lst (((ns.map Nd.row).take k ++ [z] ++ (ns.map Nd.row).drop (k + 1)).map V.str)) q3 = some (.lst (((ns.map Nd.row).take k ++ [z] ++ (ns.map Nd.row).drop (k + 1)).map V.str)) := upd_same
        generalize upd G7 q3 (.lst (((ns.map Nd.row).take k ++ [z] ++ (ns.map Nd.row).drop (k + 1)).map V.str)) = G9 at T9 f9 ⊢
        wtm_at "zw"
        exact ⟨q3, _, rfl, S.trans T9, f9, ⟨k, z, (ns.map Nd.row).drop (k + 1), by rw [tk, List.append_assoc]; rfl, sp, by rw [List.length_append, List.length_append, List.length_take, List.length_drop, lrow]; show _ + 1 + _ ≤ 100; omega, fun r hr => List.mem_of_mem_drop hr⟩⟩
      · rw [decide_eq_false w1]
        refine iteF ?_
        wtm_at "zw"
        exact ⟨q3, _, rfl, S.trans T8, f8, bad1⟩
    · rintro σ2 G ⟨bl, rows, rfl, SG, eb, br⟩
      obtain ⟨k', b', post, eR, sp', l100, pr⟩ := br.ex
      have okr := br.ok good
      wtm_at "zw"
      refine ⟨_, bl, rows, rfl, rfl, eb, join_fits (fun r hr => (okr r hr).1) l100, ?_⟩
      wtm_at "zw"
      refine ⟨rows, ns.take k', b', post, rfl, l100, okr, (fun n hn => good n (List.mem_of_mem_take hn)), eR, sp'.bad, fun G2 TG => ?_⟩
      wtm_at "zw"
      exact ⟨_, _, _, _, _, rfl, SG.trans TG⟩
  · rintro σ' H' ⟨z3, z4, z5, z6, z7, rfl, S⟩
    have er6 := S _ _ er5
    have el6 := S _ _ el5
    have pn6 := Paired.mapP pn5 fun _ _ z => NdAt.same z S
    have okr := row_ok good
    wtm_at "zw"
    refine ⟨_, rl, ns.map Nd.row, rfl, rfl, er6, join_fits (fun r hr => (okr r hr).1) (by rw [lrow]; omega), ?_⟩
    wtm_at "zw"
    refine ⟨ns.map Nd.row, ns, rfl, (fun z => ne (List.map_eq_nil_iff.mp z)), (by rw [lrow]; omega), okr, good, .inl ⟨rfl, fun lf vs H7 nlf S7 ef pv => ?_⟩⟩
    have lv := Paired.length pv
    wtm_at "zw"
    refine ⟨3, lf, l, vs, us, by decide, rfl, rfl, SqL.of ef, SqL.of (S7 _ _ el6), by omega, fun j x y ex ey => ?_, q _⟩
    have hj := (List.getElem?_eq_some_iff.mp ey).1
    obtain ⟨n, en⟩ : ∃ n, ns[j]? = some n := ⟨_, List.getElem?_eq_getElem (by omega)⟩
    exact (paired_get pv en ex).deq ((paired_get pn6 en ey).same S7)

end
theorem len1 {C : List Value → Prop} (h : ∀ a0 : Value, C [a0]) (us : List Value) (e : us.length = 1) : C us := by
  cases us with
  | nil => cases e
  | cons a r =>
    cases r with
    | nil => exact h a
    | cons _ _ => exact absurd (Nat.succ.inj e) (Nat.succ_ne_zero _)

theorem len2 {C : List Value → Prop} (h : ∀ a0 a1 : Value, C [a0, a1]) (us : List Value) (e : us.length = 2) : C us := by
  cases us with
  | nil => cases e
  | cons a r => exact len1 (C := fun r => C (a :: r)) (h a) r (Nat.succ.inj e)

theorem all_mk {l : PySem.W.OpenLaw} {w : World} {K : PySem.W.Frag} {h : Heap} {mg : Str → Option Value} {fa f0 f1 f2 f3 f4 f5 f6 f7 f8 f9 f10 f11 f12 f13 f14 f15 f16 f17 f18 f19 : Addr} (X : K.In h) (G : h.Ns mainGlobals mg) (hfa : mg "law" = some (.ref fa))
    {od0 an0 od1 an1 od2 an2 od3 an3 od4 an4 od5 an5 od6 an6 od7 an7 od8 an8 od9 an9 od10 an10 od11 an11 od12 an12 od13 an13 od14 an14 od15 an15 od16 an16 od17 an17 od18 an18 od19 an19 : Option Addr} {sl0 sl1 sl2 sl3 sl4 sl5 sl6 sl7 sl8 sl9 sl10 sl11 sl12 sl13 sl14 sl15 sl16 sl17 sl18 sl19 : Array (Option Value)} {oc0 kV0 dc0 pm0 cd0 ct0 oc1 kV1 dc1 pm1 cd1 ct1 oc2 kV2 dc2 pm2 cd2 ct2 oc3 kV3 dc3 pm3 cd3 ct3 oc4 kV4 dc4 pm4 cd4 ct4 oc5 kV5 dc5 pm5 cd5 ct5 oc6 kV6 dc6 pm6 cd6 ct6 oc7 kV7 dc7 pm7 cd7 ct7 oc8 kV8 dc8 pm8 cd8 ct8 oc9 kV9 dc9 pm9 cd9 ct9 oc10 kV10 dc10 pm10 cd10 ct10 oc11 kV11 dc11 pm11 cd11 ct11 oc12 kV12 dc12 pm12 cd12 ct12 oc13 kV13 dc13 pm13 cd13 ct13 oc14 kV14 dc14 pm14 cd14 ct14 oc15 kV15 dc15 pm15 cd15 ct15 oc16 kV16 dc16 pm16 cd16 ct16 oc17 kV17 dc17 pm17 cd17 ct17 oc18 kV18 dc18 pm18 cd18 ct18 oc19 kV19 dc19 pm19 cd19 ct19 : Value}
    (a0 : PySem.W.nsIn K mainGlobals "read_plan" = some (some (.ref f0))) (l0 : K.lookup f0 = some ⟨oc0, od0, .func (PySem.W.fnOf "read_plan" "read_plan" (defArgs (top 17)) (defBody (top 17)) (defScope (top 17)) .none kV0 dc0 pm0 an0 cd0 ct0), sl0⟩) (c0 : PySem.W.codeIn K cd0 "read_plan" = true) (k0 : PySem.W.keepIn K (.ref f0) = true)
    (a1 : PySem.W.nsIn K mainGlobals "is_word" = some (some (.ref f1))) (l1 : K.lookup f1 = some ⟨oc1, od1, .func (PySem.W.fnOf "is_word" "is_word" (defArgs (top 18)) (defBody (top 18)) (defScope (top 18)) .none kV1 dc1 pm1 an1 cd1 ct1), sl1⟩) (c1 : PySem.W.codeIn K cd1 "is_word" = true) (k1 : PySem.W.keepIn K (.ref f1) = true)
    (a2 : PySem.W.nsIn K mainGlobals "refuse_unless" = some (some (.ref f2))) (l2 : K.lookup f2 = some ⟨oc2, od2, .func (PySem.W.fnOf "refuse_unless" "refuse_unless" (defArgs (top 19)) (defBody (top 19)) (defScope (top 19)) .none kV2 dc2 pm2 an2 cd2 ct2), sl2⟩) (c2 : PySem.W.codeIn K cd2 "refuse_unless" = true) (k2 : PySem.W.keepIn K (.ref f2) = true)
    (a3 : PySem.W.nsIn K mainGlobals "read_node" = some (some (.ref f3))) (l3 : K.lookup f3 = some ⟨oc3, od3, .func (PySem.W.fnOf "read_node" "read_node" (defArgs (top 20)) (defBody (top 20)) (defScope (top 20)) .none kV3 dc3 pm3 an3 cd3 ct3), sl3⟩) (c3 : PySem.W.codeIn K cd3 "read_node" = true) (k3 : PySem.W.keepIn K (.ref f3) = true)
    (a4 : PySem.W.nsIn K mainGlobals "read_fork" = some (some (.ref f4))) (l4 : K.lookup f4 = some ⟨oc4, od4, .func (PySem.W.fnOf "read_fork" "read_fork" (defArgs (top 21)) (defBody (top 21)) (defScope (top 21)) .none kV4 dc4 pm4 an4 cd4 ct4), sl4⟩) (c4 : PySem.W.codeIn K cd4 "read_fork" = true) (k4 : PySem.W.keepIn K (.ref f4) = true)
    (a5 : PySem.W.nsIn K mainGlobals "read_name" = some (some (.ref f5))) (l5 : K.lookup f5 = some ⟨oc5, od5, .func (PySem.W.fnOf "read_name" "read_name" (defArgs (top 22)) (defBody (top 22)) (defScope (top 22)) .none kV5 dc5 pm5 an5 cd5 ct5), sl5⟩) (c5 : PySem.W.codeIn K cd5 "read_name" = true) (k5 : PySem.W.keepIn K (.ref f5) = true)
    (a6 : PySem.W.nsIn K mainGlobals "read_worth" = some (some (.ref f6))) (l6 : K.lookup f6 = some ⟨oc6, od6, .func (PySem.W.fnOf "read_worth" "read_worth" (defArgs (top 23)) (defBody (top 23)) (defScope (top 23)) .none kV6 dc6 pm6 an6 cd6 ct6), sl6⟩) (c6 : PySem.W.codeIn K cd6 "read_worth" = true) (k6 : PySem.W.keepIn K (.ref f6) = true)
    (a7 : PySem.W.nsIn K mainGlobals "read_number" = some (some (.ref f7))) (l7 : K.lookup f7 = some ⟨oc7, od7, .func (PySem.W.fnOf "read_number" "read_number" (defArgs (top 24)) (defBody (top 24)) (defScope (top 24)) .none kV7 dc7 pm7 an7 cd7 ct7), sl7⟩) (c7 : PySem.W.codeIn K cd7 "read_number" = true) (k7 : PySem.W.keepIn K (.ref f7) = true)
    (a8 : PySem.W.nsIn K mainGlobals "_law_cell_at" = some (some (.ref f8))) (l8 : K.lookup f8 = some ⟨oc8, od8, .func (PySem.W.fnOf "_law_cell_at" "_law_cell_at" (defArgs (top 26)) (defBody (top 26)) (defScope (top 26)) .none kV8 dc8 pm8 an8 cd8 ct8), sl8⟩) (c8 : PySem.W.codeIn K cd8 "_law_cell_at" = true) (k8 : PySem.W.keepIn K (.ref f8) = true)
    (a9 : PySem.W.nsIn K mainGlobals "_law_stir" = some (some (.ref f9))) (l9 : K.lookup f9 = some ⟨oc9, od9, .func (PySem.W.fnOf "_law_stir" "_law_stir" (defArgs (top 27)) (defBody (top 27)) (defScope (top 27)) .none kV9 dc9 pm9 an9 cd9 ct9), sl9⟩) (c9 : PySem.W.codeIn K cd9 "_law_stir" = true) (k9 : PySem.W.keepIn K (.ref f9) = true)
    (a10 : PySem.W.nsIn K mainGlobals "_law_drawn" = some (some (.ref f10))) (l10 : K.lookup f10 = some ⟨oc10, od10, .func (PySem.W.fnOf "_law_drawn" "_law_drawn" (defArgs (top 28)) (defBody (top 28)) (defScope (top 28)) .none kV10 dc10 pm10 an10 cd10 ct10), sl10⟩) (c10 : PySem.W.codeIn K cd10 "_law_drawn" = true) (k10 : PySem.W.keepIn K (.ref f10) = true)
    (a11 : PySem.W.nsIn K mainGlobals "_law_deck" = some (some (.ref f11))) (l11 : K.lookup f11 = some ⟨oc11, od11, .func (PySem.W.fnOf "_law_deck" "_law_deck" (defArgs (top 29)) (defBody (top 29)) (defScope (top 29)) .none kV11 dc11 pm11 an11 cd11 ct11), sl11⟩) (c11 : PySem.W.codeIn K cd11 "_law_deck" = true) (k11 : PySem.W.keepIn K (.ref f11) = true)
    (a12 : PySem.W.nsIn K mainGlobals "_law_take" = some (some (.ref f12))) (l12 : K.lookup f12 = some ⟨oc12, od12, .func (PySem.W.fnOf "_law_take" "_law_take" (defArgs (top 30)) (defBody (top 30)) (defScope (top 30)) .none kV12 dc12 pm12 an12 cd12 ct12), sl12⟩) (c12 : PySem.W.codeIn K cd12 "_law_take" = true) (k12 : PySem.W.keepIn K (.ref f12) = true)
    (a13 : PySem.W.nsIn K mainGlobals "_law_unlike" = some (some (.ref f13))) (l13 : K.lookup f13 = some ⟨oc13, od13, .func (PySem.W.fnOf "_law_unlike" "_law_unlike" (defArgs (top 31)) (defBody (top 31)) (defScope (top 31)) .none kV13 dc13 pm13 an13 cd13 ct13), sl13⟩) (c13 : PySem.W.codeIn K cd13 "_law_unlike" = true) (k13 : PySem.W.keepIn K (.ref f13) = true)
    (a14 : PySem.W.nsIn K mainGlobals "_law_nodes" = some (some (.ref f14))) (l14 : K.lookup f14 = some ⟨oc14, od14, .func (PySem.W.fnOf "_law_nodes" "_law_nodes" (defArgs (top 32)) (defBody (top 32)) (defScope (top 32)) .none kV14 dc14 pm14 an14 cd14 ct14), sl14⟩) (c14 : PySem.W.codeIn K cd14 "_law_nodes" = true) (k14 : PySem.W.keepIn K (.ref f14) = true)
    (a15 : PySem.W.nsIn K mainGlobals "_law_node_row" = some (some (.ref f15))) (l15 : K.lookup f15 = some ⟨oc15, od15, .func (PySem.W.fnOf "_law_node_row" "_law_node_row" (defArgs (top 33)) (defBody (top 33)) (defScope (top 33)) .none kV15 dc15 pm15 an15 cd15 ct15), sl15⟩) (c15 : PySem.W.codeIn K cd15 "_law_node_row" = true) (k15 : PySem.W.keepIn K (.ref f15) = true)
    (a16 : PySem.W.nsIn K mainGlobals "_law_bad_row" = some (some (.ref f16))) (l16 : K.lookup f16 = some ⟨oc16, od16, .func (PySem.W.fnOf "_law_bad_row" "_law_bad_row" (defArgs (top 34)) (defBody (top 34)) (defScope (top 34)) .none kV16 dc16 pm16 an16 cd16 ct16), sl16⟩) (c16 : PySem.W.codeIn K cd16 "_law_bad_row" = true) (k16 : PySem.W.keepIn K (.ref f16) = true)
    (a17 : PySem.W.nsIn K mainGlobals "_law_spoilt" = some (some (.ref f17))) (l17 : K.lookup f17 = some ⟨oc17, od17, .func (PySem.W.fnOf "_law_spoilt" "_law_spoilt" (defArgs (top 35)) (defBody (top 35)) (defScope (top 35)) .none kV17 dc17 pm17 an17 cd17 ct17), sl17⟩) (c17 : PySem.W.codeIn K cd17 "_law_spoilt" = true) (k17 : PySem.W.keepIn K (.ref f17) = true)
    (a18 : PySem.W.nsIn K mainGlobals "_law_refused" = some (some (.ref f18))) (l18 : K.lookup f18 = some ⟨oc18, od18, .func (PySem.W.fnOf "_law_refused" "_law_refused" (defArgs (top 36)) (defBody (top 36)) (defScope (top 36)) .none kV18 dc18 pm18 an18 cd18 ct18), sl18⟩) (c18 : PySem.W.codeIn K cd18 "_law_refused" = true) (k18 : PySem.W.keepIn K (.ref f18) = true)
    (a19 : PySem.W.nsIn K mainGlobals "law" = some (some (.ref f19))) (l19 : K.lookup f19 = some ⟨oc19, od19, .func (PySem.W.fnOf "law" "law" (defArgs (top 37)) (defBody (top 37)) (defScope (top 37)) .none kV19 dc19 pm19 an19 cd19 ct19), sl19⟩) (c19 : PySem.W.codeIn K cd19 "law" = true) (k19 : PySem.W.keepIn K (.ref f19) = true)
    {t_LETTERS : Tok} (g_LETTERS : PySem.W.nsIn K mainGlobals "LETTERS" = some (some (.str "abcdefghijklmnopqrstuvwxyz" t_LETTERS)))
    {t_FIGURES : Tok} (g_FIGURES : PySem.W.nsIn K mainGlobals "FIGURES" = some (some (.str "0123456789" t_FIGURES)))
    {t_MOST_LETTERS : Tok} (g_MOST_LETTERS : PySem.W.nsIn K mainGlobals "MOST_LETTERS" = some (some (.int 8 t_MOST_LETTERS)))
    {t_FIGURES_OF_A_BLOCK : Tok} (g_FIGURES_OF_A_BLOCK : PySem.W.nsIn K mainGlobals "FIGURES_OF_A_BLOCK" = some (some (.int 18 t_FIGURES_OF_A_BLOCK)))
    {C_ForkError N_ForkError : Addr} {nm_ForkError q_ForkError : Str} {bs_ForkError su_ForkError : List Value} {hd_ForkError ab_ForkError : Bool} {sn_ForkError : List Str} {cl_ForkError : Option Bool} {dd_ForkError nd_ForkError : Option Addr} {j0_ForkError j1_ForkError j2_ForkError j3_ForkError j5_ForkError : Option Value} {nc_ForkError : Value} {es_ForkError : Array DictEntry} {ne_ForkError : Nat} {ns_ForkError : Array (Option Value)}
    (ra_ForkError : PySem.W.nsIn K mainGlobals "ForkError" = some (some (.ref C_ForkError))) (rl_ForkError : K.lookup C_ForkError = some (excClassObj nm_ForkError q_ForkError C_ForkError N_ForkError bs_ForkError bmV hd_ForkError sn_ForkError su_ForkError ab_ForkError cl_ForkError dd_ForkError j0_ForkError j1_ForkError j2_ForkError j3_ForkError j5_ForkError "ValueError.__new__"))
    (rn_ForkError : K.lookup N_ForkError = some ⟨nc_ForkError, nd_ForkError, .dict es_ForkError ne_ForkError, ns_ForkError⟩) (rw_ForkError : wordKeys es_ForkError.toList = true) (ri_ForkError : PySem.W.nsIn K N_ForkError "__init__" = some none)
    (r1_ForkError : PySem.W.findIn K (.ref C_ForkError) "__getattribute__" = some (some (.builtin "BaseException.__getattribute__"))) (r2_ForkError : PySem.W.findIn K (.ref C_ForkError) "__getattr__" = some none) (r3_ForkError : PySem.W.findIn K (.ref C_ForkError) "__class__" = some (some (.builtin "object.__class__")))
    {C_NoText N_NoText : Addr} {nm_NoText q_NoText : Str} {bs_NoText su_NoText : List Value} {hd_NoText ab_NoText : Bool} {sn_NoText : List Str} {cl_NoText : Option Bool} {dd_NoText nd_NoText : Option Addr} {j0_NoText j1_NoText j2_NoText j3_NoText j5_NoText : Option Value} {nc_NoText : Value} {es_NoText : Array DictEntry} {ne_NoText : Nat} {ns_NoText : Array (Option Value)}
    (ra_NoText : PySem.W.nsIn K mainGlobals "NoText" = some (some (.ref C_NoText))) (rl_NoText : K.lookup C_NoText = some (excClassObj nm_NoText q_NoText C_NoText N_NoText bs_NoText (.ref C_ForkError :: bmV) hd_NoText sn_NoText su_NoText ab_NoText cl_NoText dd_NoText j0_NoText j1_NoText j2_NoText j3_NoText j5_NoText "ValueError.__new__"))
    (rn_NoText : K.lookup N_NoText = some ⟨nc_NoText, nd_NoText, .dict es_NoText ne_NoText, ns_NoText⟩) (rw_NoText : wordKeys es_NoText.toList = true) (ri_NoText : PySem.W.nsIn K N_NoText "__init__" = some none)
    (r1_NoText : PySem.W.findIn K (.ref C_NoText) "__getattribute__" = some (some (.builtin "BaseException.__getattribute__"))) (r2_NoText : PySem.W.findIn K (.ref C_NoText) "__getattr__" = some none) (r3_NoText : PySem.W.findIn K (.ref C_NoText) "__class__" = some (some (.builtin "object.__class__")))
    {C_NoName N_NoName : Addr} {nm_NoName q_NoName : Str} {bs_NoName su_NoName : List Value} {hd_NoName ab_NoName : Bool} {sn_NoName : List Str} {cl_NoName : Option Bool} {dd_NoName nd_NoName : Option Addr} {j0_NoName j1_NoName j2_NoName j3_NoName j5_NoName : Option Value} {nc_NoName : Value} {es_NoName : Array DictEntry} {ne_NoName : Nat} {ns_NoName : Array (Option Value)}
    (ra_NoName : PySem.W.nsIn K mainGlobals "NoName" = some (some (.ref C_NoName))) (rl_NoName : K.lookup C_NoName = some (excClassObj nm_NoName q_NoName C_NoName N_NoName bs_NoName (.ref C_ForkError :: bmV) hd_NoName sn_NoName su_NoName ab_NoName cl_NoName dd_NoName j0_NoName j1_NoName j2_NoName j3_NoName j5_NoName "ValueError.__new__"))
    (rn_NoName : K.lookup N_NoName = some ⟨nc_NoName, nd_NoName, .dict es_NoName ne_NoName, ns_NoName⟩) (rw_NoName : wordKeys es_NoName.toList = true) (ri_NoName : PySem.W.nsIn K N_NoName "__init__" = some none)
    (r1_NoName : PySem.W.findIn K (.ref C_NoName) "__getattribute__" = some (some (.builtin "BaseException.__getattribute__"))) (r2_NoName : PySem.W.findIn K (.ref C_NoName) "__getattr__" = some none) (r3_NoName : PySem.W.findIn K (.ref C_NoName) "__class__" = some (some (.builtin "object.__class__")))
    {C_NoOrder N_NoOrder : Addr} {nm_NoOrder q_NoOrder : Str} {bs_NoOrder su_NoOrder : List Value} {hd_NoOrder ab_NoOrder : Bool} {sn_NoOrder : List Str} {cl_NoOrder : Option Bool} {dd_NoOrder nd_NoOrder : Option Addr} {j0_NoOrder j1_NoOrder j2_NoOrder j3_NoOrder j5_NoOrder : Option Value} {nc_NoOrder : Value} {es_NoOrder : Array DictEntry} {ne_NoOrder : Nat} {ns_NoOrder : Array (Option Value)}
    (ra_NoOrder : PySem.W.nsIn K mainGlobals "NoOrder" = some (some (.ref C_NoOrder))) (rl_NoOrder : K.lookup C_NoOrder = some (excClassObj nm_NoOrder q_NoOrder C_NoOrder N_NoOrder bs_NoOrder (.ref C_ForkError :: bmV) hd_NoOrder sn_NoOrder su_NoOrder ab_NoOrder cl_NoOrder dd_NoOrder j0_NoOrder j1_NoOrder j2_NoOrder j3_NoOrder j5_NoOrder "ValueError.__new__"))
    (rn_NoOrder : K.lookup N_NoOrder = some ⟨nc_NoOrder, nd_NoOrder, .dict es_NoOrder ne_NoOrder, ns_NoOrder⟩) (rw_NoOrder : wordKeys es_NoOrder.toList = true) (ri_NoOrder : PySem.W.nsIn K N_NoOrder "__init__" = some none)
    (r1_NoOrder : PySem.W.findIn K (.ref C_NoOrder) "__getattribute__" = some (some (.builtin "BaseException.__getattribute__"))) (r2_NoOrder : PySem.W.findIn K (.ref C_NoOrder) "__getattr__" = some none) (r3_NoOrder : PySem.W.findIn K (.ref C_NoOrder) "__class__" = some (some (.builtin "object.__class__")))
    {C_NoPlan N_NoPlan : Addr} {nm_NoPlan q_NoPlan : Str} {bs_NoPlan su_NoPlan : List Value} {hd_NoPlan ab_NoPlan : Bool} {sn_NoPlan : List Str} {cl_NoPlan : Option Bool} {dd_NoPlan nd_NoPlan : Option Addr} {j0_NoPlan j1_NoPlan j2_NoPlan j3_NoPlan j5_NoPlan : Option Value} {nc_NoPlan : Value} {es_NoPlan : Array DictEntry} {ne_NoPlan : Nat} {ns_NoPlan : Array (Option Value)}
    (ra_NoPlan : PySem.W.nsIn K mainGlobals "NoPlan" = some (some (.ref C_NoPlan))) (rl_NoPlan : K.lookup C_NoPlan = some (excClassObj nm_NoPlan q_NoPlan C_NoPlan N_NoPlan bs_NoPlan (.ref C_ForkError :: bmV) hd_NoPlan sn_NoPlan su_NoPlan ab_NoPlan cl_NoPlan dd_NoPlan j0_NoPlan j1_NoPlan j2_NoPlan j3_NoPlan j5_NoPlan "ValueError.__new__"))
    (rn_NoPlan : K.lookup N_NoPlan = some ⟨nc_NoPlan, nd_NoPlan, .dict es_NoPlan ne_NoPlan, ns_NoPlan⟩) (rw_NoPlan : wordKeys es_NoPlan.toList = true) (ri_NoPlan : PySem.W.nsIn K N_NoPlan "__init__" = some none)
    (r1_NoPlan : PySem.W.findIn K (.ref C_NoPlan) "__getattribute__" = some (some (.builtin "BaseException.__getattribute__"))) (r2_NoPlan : PySem.W.findIn K (.ref C_NoPlan) "__getattr__" = some none) (r3_NoPlan : PySem.W.findIn K (.ref C_NoPlan) "__class__" = some (some (.builtin "object.__class__")))
    {C_NotPlain N_NotPlain : Addr} {nm_NotPlain q_NotPlain : Str} {bs_NotPlain su_NotPlain : List Value} {hd_NotPlain ab_NotPlain : Bool} {sn_NotPlain : List Str} {cl_NotPlain : Option Bool} {dd_NotPlain nd_NotPlain : Option Addr} {j0_NotPlain j1_NotPlain j2_NotPlain j3_NotPlain j5_NotPlain : Option Value} {nc_NotPlain : Value} {es_NotPlain : Array DictEntry} {ne_NotPlain : Nat} {ns_NotPlain : Array (Option Value)}
    (ra_NotPlain : PySem.W.nsIn K mainGlobals "NotPlain" = some (some (.ref C_NotPlain))) (rl_NotPlain : K.lookup C_NotPlain = some (excClassObj nm_NotPlain q_NotPlain C_NotPlain N_NotPlain bs_NotPlain (.ref C_ForkError :: bmV) hd_NotPlain sn_NotPlain su_NotPlain ab_NotPlain cl_NotPlain dd_NotPlain j0_NotPlain j1_NotPlain j2_NotPlain j3_NotPlain j5_NotPlain "ValueError.__new__"))
    (rn_NotPlain : K.lookup N_NotPlain = some ⟨nc_NotPlain, nd_NotPlain, .dict es_NotPlain ne_NotPlain, ns_NotPlain⟩) (rw_NotPlain : wordKeys es_NotPlain.toList = true) (ri_NotPlain : PySem.W.nsIn K N_NotPlain "__init__" = some none)
    (r1_NotPlain : PySem.W.findIn K (.ref C_NotPlain) "__getattribute__" = some (some (.builtin "BaseException.__getattribute__"))) (r2_NotPlain : PySem.W.findIn K (.ref C_NotPlain) "__getattr__" = some none) (r3_NotPlain : PySem.W.findIn K (.ref C_NotPlain) "__class__" = some (some (.builtin "object.__class__")))
    {C_NotSure N_NotSure : Addr} {nm_NotSure q_NotSure : Str} {bs_NotSure su_NotSure : List Value} {hd_NotSure ab_NotSure : Bool} {sn_NotSure : List Str} {cl_NotSure : Option Bool} {dd_NotSure nd_NotSure : Option Addr} {j0_NotSure j1_NotSure j2_NotSure j3_NotSure j5_NotSure : Option Value} {nc_NotSure : Value} {es_NotSure : Array DictEntry} {ne_NotSure : Nat} {ns_NotSure : Array (Option Value)}
    (ra_NotSure : PySem.W.nsIn K mainGlobals "NotSure" = some (some (.ref C_NotSure))) (rl_NotSure : K.lookup C_NotSure = some (excClassObj nm_NotSure q_NotSure C_NotSure N_NotSure bs_NotSure (.ref C_ForkError :: bmV) hd_NotSure sn_NotSure su_NotSure ab_NotSure cl_NotSure dd_NotSure j0_NotSure j1_NotSure j2_NotSure j3_NotSure j5_NotSure "ValueError.__new__"))
    (rn_NotSure : K.lookup N_NotSure = some ⟨nc_NotSure, nd_NotSure, .dict es_NotSure ne_NotSure, ns_NotSure⟩) (rw_NotSure : wordKeys es_NotSure.toList = true) (ri_NotSure : PySem.W.nsIn K N_NotSure "__init__" = some none)
    (r1_NotSure : PySem.W.findIn K (.ref C_NotSure) "__getattribute__" = some (some (.builtin "BaseException.__getattribute__"))) (r2_NotSure : PySem.W.findIn K (.ref C_NotSure) "__getattr__" = some none) (r3_NotSure : PySem.W.findIn K (.ref C_NotSure) "__class__" = some (some (.builtin "object.__class__")))
    {C_NoWeights N_NoWeights : Addr} {nm_NoWeights q_NoWeights : Str} {bs_NoWeights su_NoWeights : List Value} {hd_NoWeights ab_NoWeights : Bool} {sn_NoWeights : List Str} {cl_NoWeights : Option Bool} {dd_NoWeights nd_NoWeights : Option Addr} {j0_NoWeights j1_NoWeights j2_NoWeights j3_NoWeights j5_NoWeights : Option Value} {nc_NoWeights : Value} {es_NoWeights : Array DictEntry} {ne_NoWeights : Nat} {ns_NoWeights : Array (Option Value)}
    (ra_NoWeights : PySem.W.nsIn K mainGlobals "NoWeights" = some (some (.ref C_NoWeights))) (rl_NoWeights : K.lookup C_NoWeights = some (excClassObj nm_NoWeights q_NoWeights C_NoWeights N_NoWeights bs_NoWeights (.ref C_ForkError :: bmV) hd_NoWeights sn_NoWeights su_NoWeights ab_NoWeights cl_NoWeights dd_NoWeights j0_NoWeights j1_NoWeights j2_NoWeights j3_NoWeights j5_NoWeights "ValueError.__new__"))
    (rn_NoWeights : K.lookup N_NoWeights = some ⟨nc_NoWeights, nd_NoWeights, .dict es_NoWeights ne_NoWeights, ns_NoWeights⟩) (rw_NoWeights : wordKeys es_NoWeights.toList = true) (ri_NoWeights : PySem.W.nsIn K N_NoWeights "__init__" = some none)
    (r1_NoWeights : PySem.W.findIn K (.ref C_NoWeights) "__getattribute__" = some (some (.builtin "BaseException.__getattribute__"))) (r2_NoWeights : PySem.W.findIn K (.ref C_NoWeights) "__getattr__" = some none) (r3_NoWeights : PySem.W.findIn K (.ref C_NoWeights) "__class__" = some (some (.builtin "object.__class__")))
    {C_NoWorld N_NoWorld : Addr} {nm_NoWorld q_NoWorld : Str} {bs_NoWorld su_NoWorld : List Value} {hd_NoWorld ab_NoWorld : Bool} {sn_NoWorld : List Str} {cl_NoWorld : Option Bool} {dd_NoWorld nd_NoWorld : Option Addr} {j0_NoWorld j1_NoWorld j2_NoWorld j3_NoWorld j5_NoWorld : Option Value} {nc_NoWorld : Value} {es_NoWorld : Array DictEntry} {ne_NoWorld : Nat} {ns_NoWorld : Array (Option Value)}
    (ra_NoWorld : PySem.W.nsIn K mainGlobals "NoWorld" = some (some (.ref C_NoWorld))) (rl_NoWorld : K.lookup C_NoWorld = some (excClassObj nm_NoWorld q_NoWorld C_NoWorld N_NoWorld bs_NoWorld (.ref C_ForkError :: bmV) hd_NoWorld sn_NoWorld su_NoWorld ab_NoWorld cl_NoWorld dd_NoWorld j0_NoWorld j1_NoWorld j2_NoWorld j3_NoWorld j5_NoWorld "ValueError.__new__"))
    (rn_NoWorld : K.lookup N_NoWorld = some ⟨nc_NoWorld, nd_NoWorld, .dict es_NoWorld ne_NoWorld, ns_NoWorld⟩) (rw_NoWorld : wordKeys es_NoWorld.toList = true) (ri_NoWorld : PySem.W.nsIn K N_NoWorld "__init__" = some none)
    (r1_NoWorld : PySem.W.findIn K (.ref C_NoWorld) "__getattribute__" = some (some (.builtin "BaseException.__getattribute__"))) (r2_NoWorld : PySem.W.findIn K (.ref C_NoWorld) "__getattr__" = some none) (r3_NoWorld : PySem.W.findIn K (.ref C_NoWorld) "__class__" = some (some (.builtin "object.__class__")))
    {C_TooMany N_TooMany : Addr} {nm_TooMany q_TooMany : Str} {bs_TooMany su_TooMany : List Value} {hd_TooMany ab_TooMany : Bool} {sn_TooMany : List Str} {cl_TooMany : Option Bool} {dd_TooMany nd_TooMany : Option Addr} {j0_TooMany j1_TooMany j2_TooMany j3_TooMany j5_TooMany : Option Value} {nc_TooMany : Value} {es_TooMany : Array DictEntry} {ne_TooMany : Nat} {ns_TooMany : Array (Option Value)}
    (ra_TooMany : PySem.W.nsIn K mainGlobals "TooMany" = some (some (.ref C_TooMany))) (rl_TooMany : K.lookup C_TooMany = some (excClassObj nm_TooMany q_TooMany C_TooMany N_TooMany bs_TooMany (.ref C_ForkError :: bmV) hd_TooMany sn_TooMany su_TooMany ab_TooMany cl_TooMany dd_TooMany j0_TooMany j1_TooMany j2_TooMany j3_TooMany j5_TooMany "ValueError.__new__"))
    (rn_TooMany : K.lookup N_TooMany = some ⟨nc_TooMany, nd_TooMany, .dict es_TooMany ne_TooMany, ns_TooMany⟩) (rw_TooMany : wordKeys es_TooMany.toList = true) (ri_TooMany : PySem.W.nsIn K N_TooMany "__init__" = some none)
    (r1_TooMany : PySem.W.findIn K (.ref C_TooMany) "__getattribute__" = some (some (.builtin "BaseException.__getattribute__"))) (r2_TooMany : PySem.W.findIn K (.ref C_TooMany) "__getattr__" = some none) (r3_TooMany : PySem.W.findIn K (.ref C_TooMany) "__class__" = some (some (.builtin "object.__class__")))
    (kf : PySem.W.kitOne K (.ref C_NoText) (.ref C_ForkError) = some true)
    (kv : PySem.W.kitOne K (.ref C_NoText) (.type "ValueError") = some true)
    (kn : [C_NoName, C_NoOrder, C_NoPlan, C_NotPlain, C_NotSure, C_NoWeights, C_NoWorld, C_TooMany].all (fun D => !(Value.ref C_NoText :: .ref C_ForkError :: bmV).contains (.ref D)) = true)
    (z_len : PySem.W.nsIn K mainGlobals "len" = some none)
    (z_range : PySem.W.nsIn K mainGlobals "range" = some none)
    (z_min : PySem.W.nsIn K mainGlobals "min" = some none)
    (z_isinstance : PySem.W.nsIn K mainGlobals "isinstance" = some none)
    (z_list : PySem.W.nsIn K mainGlobals "list" = some none)
    (z_reversed : PySem.W.nsIn K mainGlobals "reversed" = some none)
    (z_tuple : PySem.W.nsIn K mainGlobals "tuple" = some none)
    (z_int : PySem.W.nsIn K mainGlobals "int" = some none)
    (z_bool : PySem.W.nsIn K mainGlobals "bool" = some none)
    (z_dict : PySem.W.nsIn K mainGlobals "dict" = some none)
    (z_zip : PySem.W.nsIn K mainGlobals "zip" = some none)
    (z_str : PySem.W.nsIn K mainGlobals "str" = some none)
    (z_all : PySem.W.nsIn K mainGlobals "all" = some none)
    (z_ValueError : PySem.W.nsIn K mainGlobals "ValueError" = some none) :
    ∃ fd : FuncData, (∀ (s : Shared) (v : Value), BindsTo s fd ⟨[v], []⟩ [("script", v)]) ∧ ∀ base : Heap, K.In base → base.Ns mainGlobals mg → FnOk l.prog w K mg base CX0 60 fa fd ["script"] (spLaw K) := by
  have e := hfa.symm.trans (PySem.W.mg_of X G a19)
  cases e
  have F0 := fun_mk (st := top 17) l0 c0 k0
  have b0 := F0.binds (ps := ["text"]) fun _ _ _ _ _ _ => len1 (fun _ => rfl)
  have E0 : FunE K mg "read_plan" f0 _ ["text"] := ⟨PySem.W.mg_of X G a0, k0, b0⟩
  have FD_read_plan : Fd K mg "read_plan" (top 17) ["text"] := ⟨f0, _, F0, E0.mg, E0.kp, E0.bd⟩
  have F1 := fun_mk (st := top 18) l1 c1 k1
  have b1 := F1.binds (ps := ["text"]) fun _ _ _ _ _ _ => len1 (fun _ => rfl)
  have E1 : FunE K mg "is_word" f1 _ ["text"] := ⟨PySem.W.mg_of X G a1, k1, b1⟩
  have FD_is_word : Fd K mg "is_word" (top 18) ["text"] := ⟨f1, _, F1, E1.mg, E1.kp, E1.bd⟩
  have F2 := fun_mk (st := top 19) l2 c2 k2
  have b2 := F2.binds (ps := ["fits", "reason"]) fun _ _ _ _ _ _ => len2 (fun _ _ => rfl)
  have E2 : FunE K mg "refuse_unless" f2 _ ["fits", "reason"] := ⟨PySem.W.mg_of X G a2, k2, b2⟩
  have FD_refuse_unless : Fd K mg "refuse_unless" (top 19) ["fits", "reason"] := ⟨f2, _, F2, E2.mg, E2.kp, E2.bd⟩
  have F3 := fun_mk (st := top 20) l3 c3 k3
  have b3 := F3.binds (ps := ["words"]) fun _ _ _ _ _ _ => len1 (fun _ => rfl)
  have E3 : FunE K mg "read_node" f3 _ ["words"] := ⟨PySem.W.mg_of X G a3, k3, b3⟩
  have FD_read_node : Fd K mg "read_node" (top 20) ["words"] := ⟨f3, _, F3, E3.mg, E3.kp, E3.bd⟩
  have F4 := fun_mk (st := top 21) l4 c4 k4
  have b4 := F4.binds (ps := ["sides"]) fun _ _ _ _ _ _ => len1 (fun _ => rfl)
  have E4 : FunE K mg "read_fork" f4 _ ["sides"] := ⟨PySem.W.mg_of X G a4, k4, b4⟩
  have FD_read_fork : Fd K mg "read_fork" (top 21) ["sides"] := ⟨f4, _, F4, E4.mg, E4.kp, E4.bd⟩
  have F5 := fun_mk (st := top 22) l5 c5 k5
  have b5 := F5.binds (ps := ["word"]) fun _ _ _ _ _ _ => len1 (fun _ => rfl)
  have E5 : FunE K mg "read_name" f5 _ ["word"] := ⟨PySem.W.mg_of X G a5, k5, b5⟩
  have FD_read_name : Fd K mg "read_name" (top 22) ["word"] := ⟨f5, _, F5, E5.mg, E5.kp, E5.bd⟩
  have F6 := fun_mk (st := top 23) l6 c6 k6
  have b6 := F6.binds (ps := ["text"]) fun _ _ _ _ _ _ => len1 (fun _ => rfl)
  have E6 : FunE K mg "read_worth" f6 _ ["text"] := ⟨PySem.W.mg_of X G a6, k6, b6⟩
  have FD_read_worth : Fd K mg "read_worth" (top 23) ["text"] := ⟨f6, _, F6, E6.mg, E6.kp, E6.bd⟩
  have F7 := fun_mk (st := top 24) l7 c7 k7
  have b7 := F7.binds (ps := ["figures"]) fun _ _ _ _ _ _ => len1 (fun _ => rfl)
  have E7 : FunE K mg "read_number" f7 _ ["figures"] := ⟨PySem.W.mg_of X G a7, k7, b7⟩
  have FD_read_number : Fd K mg "read_number" (top 24) ["figures"] := ⟨f7, _, F7, E7.mg, E7.kp, E7.bd⟩
  have F8 := fun_mk (st := top 26) l8 c8 k8
  have b8 := F8.binds (ps := ["script", "k"]) fun _ _ _ _ _ _ => len2 (fun _ _ => rfl)
  have E8 : FunE K mg "_law_cell_at" f8 _ ["script", "k"] := ⟨PySem.W.mg_of X G a8, k8, b8⟩
  have FD_law_cell_at : Fd K mg "_law_cell_at" (top 26) ["script", "k"] := ⟨f8, _, F8, E8.mg, E8.kp, E8.bd⟩
  have F9 := fun_mk (st := top 27) l9 c9 k9
  have b9 := F9.binds (ps := ["cell", "k"]) fun _ _ _ _ _ _ => len2 (fun _ _ => rfl)
  have E9 : FunE K mg "_law_stir" f9 _ ["cell", "k"] := ⟨PySem.W.mg_of X G a9, k9, b9⟩
  have FD_law_stir : Fd K mg "_law_stir" (top 27) ["cell", "k"] := ⟨f9, _, F9, E9.mg, E9.kp, E9.bd⟩
  have F10 := fun_mk (st := top 28) l10 c10 k10
  have b10 := F10.binds (ps := ["cell", "sizes"]) fun _ _ _ _ _ _ => len2 (fun _ _ => rfl)
  have E10 : FunE K mg "_law_drawn" f10 _ ["cell", "sizes"] := ⟨PySem.W.mg_of X G a10, k10, b10⟩
  have FD_law_drawn : Fd K mg "_law_drawn" (top 28) ["cell", "sizes"] := ⟨f10, _, F10, E10.mg, E10.kp, E10.bd⟩
  have F11 := fun_mk (st := top 29) l11 c11 k11
  have b11 := F11.binds (ps := ["cell"]) fun _ _ _ _ _ _ => len1 (fun _ => rfl)
  have E11 : FunE K mg "_law_deck" f11 _ ["cell"] := ⟨PySem.W.mg_of X G a11, k11, b11⟩
  have FD_law_deck : Fd K mg "_law_deck" (top 29) ["cell"] := ⟨f11, _, F11, E11.mg, E11.kp, E11.bd⟩
  have F12 := fun_mk (st := top 30) l12 c12 k12
  have b12 := F12.binds (ps := ["deck", "many"]) fun _ _ _ _ _ _ => len2 (fun _ _ => rfl)
  have E12 : FunE K mg "_law_take" f12 _ ["deck", "many"] := ⟨PySem.W.mg_of X G a12, k12, b12⟩
  have FD_law_take : Fd K mg "_law_take" (top 30) ["deck", "many"] := ⟨f12, _, F12, E12.mg, E12.kp, E12.bd⟩
  have F13 := fun_mk (st := top 31) l13 c13 k13
  have b13 := F13.binds (ps := ["number", "many"]) fun _ _ _ _ _ _ => len2 (fun _ _ => rfl)
  have E13 : FunE K mg "_law_unlike" f13 _ ["number", "many"] := ⟨PySem.W.mg_of X G a13, k13, b13⟩
  have FD_law_unlike : Fd K mg "_law_unlike" (top 31) ["number", "many"] := ⟨f13, _, F13, E13.mg, E13.kp, E13.bd⟩
  have F14 := fun_mk (st := top 32) l14 c14 k14
  have b14 := F14.binds (ps := ["script"]) fun _ _ _ _ _ _ => len1 (fun _ => rfl)
  have E14 : FunE K mg "_law_nodes" f14 _ ["script"] := ⟨PySem.W.mg_of X G a14, k14, b14⟩
  have FD_law_nodes : Fd K mg "_law_nodes" (top 32) ["script"] := ⟨f14, _, F14, E14.mg, E14.kp, E14.bd⟩
  have F15 := fun_mk (st := top 33) l15 c15 k15
  have b15 := F15.binds (ps := ["node"]) fun _ _ _ _ _ _ => len1 (fun _ => rfl)
  have E15 : FunE K mg "_law_node_row" f15 _ ["node"] := ⟨PySem.W.mg_of X G a15, k15, b15⟩
  have FD_law_node_row : Fd K mg "_law_node_row" (top 33) ["node"] := ⟨f15, _, F15, E15.mg, E15.kp, E15.bd⟩
  have F16 := fun_mk (st := top 34) l16 c16 k16
  have b16 := F16.binds (ps := ["number"]) fun _ _ _ _ _ _ => len1 (fun _ => rfl)
  have E16 : FunE K mg "_law_bad_row" f16 _ ["number"] := ⟨PySem.W.mg_of X G a16, k16, b16⟩
  have FD_law_bad_row : Fd K mg "_law_bad_row" (top 34) ["number"] := ⟨f16, _, F16, E16.mg, E16.kp, E16.bd⟩
  have F17 := fun_mk (st := top 35) l17 c17 k17
  have b17 := F17.binds (ps := ["row", "number"]) fun _ _ _ _ _ _ => len2 (fun _ _ => rfl)
  have E17 : FunE K mg "_law_spoilt" f17 _ ["row", "number"] := ⟨PySem.W.mg_of X G a17, k17, b17⟩
  have FD_law_spoilt : Fd K mg "_law_spoilt" (top 35) ["row", "number"] := ⟨f17, _, F17, E17.mg, E17.kp, E17.bd⟩
  have F18 := fun_mk (st := top 36) l18 c18 k18
  have b18 := F18.binds (ps := ["text"]) fun _ _ _ _ _ _ => len1 (fun _ => rfl)
  have E18 : FunE K mg "_law_refused" f18 _ ["text"] := ⟨PySem.W.mg_of X G a18, k18, b18⟩
  have FD_law_refused : Fd K mg "_law_refused" (top 36) ["text"] := ⟨f18, _, F18, E18.mg, E18.kp, E18.bd⟩
  have F19 := fun_mk (st := top 37) l19 c19 k19
  have GL_LETTERS : Gt mg "LETTERS" "abcdefghijklmnopqrstuvwxyz" := ⟨_, PySem.W.mg_of X G g_LETTERS⟩
  have GL_FIGURES : Gt mg "FIGURES" "0123456789" := ⟨_, PySem.W.mg_of X G g_FIGURES⟩
  have GL_MOST_LETTERS : Gi mg "MOST_LETTERS" 8 := ⟨_, PySem.W.mg_of X G g_MOST_LETTERS⟩
  have GL_FIGURES_OF_A_BLOCK : Gi mg "FIGURES_OF_A_BLOCK" 18 := ⟨_, PySem.W.mg_of X G g_FIGURES_OF_A_BLOCK⟩
  have R_ForkError := ref_mk (x := "ForkError") X G (fun _ _ => .base) ra_ForkError rl_ForkError rn_ForkError rw_ForkError ri_ForkError r1_ForkError r2_ForkError r3_ForkError
  have R_NoText := ref_mk (x := "NoText") X G R_ForkError.tail ra_NoText rl_NoText rn_NoText rw_NoText ri_NoText r1_NoText r2_NoText r3_NoText
  have R_NoName := ref_mk (x := "NoName") X G R_ForkError.tail ra_NoName rl_NoName rn_NoName rw_NoName ri_NoName r1_NoName r2_NoName r3_NoName
  have R_NoOrder := ref_mk (x := "NoOrder") X G R_ForkError.tail ra_NoOrder rl_NoOrder rn_NoOrder rw_NoOrder ri_NoOrder r1_NoOrder r2_NoOrder r3_NoOrder
  have R_NoPlan := ref_mk (x := "NoPlan") X G R_ForkError.tail ra_NoPlan rl_NoPlan rn_NoPlan rw_NoPlan ri_NoPlan r1_NoPlan r2_NoPlan r3_NoPlan
  have R_NotPlain := ref_mk (x := "NotPlain") X G R_ForkError.tail ra_NotPlain rl_NotPlain rn_NotPlain rw_NotPlain ri_NotPlain r1_NotPlain r2_NotPlain r3_NotPlain
  have R_NotSure := ref_mk (x := "NotSure") X G R_ForkError.tail ra_NotSure rl_NotSure rn_NotSure rw_NotSure ri_NotSure r1_NotSure r2_NotSure r3_NotSure
  have R_NoWeights := ref_mk (x := "NoWeights") X G R_ForkError.tail ra_NoWeights rl_NoWeights rn_NoWeights rw_NoWeights ri_NoWeights r1_NoWeights r2_NoWeights r3_NoWeights
  have R_NoWorld := ref_mk (x := "NoWorld") X G R_ForkError.tail ra_NoWorld rl_NoWorld rn_NoWorld rw_NoWorld ri_NoWorld r1_NoWorld r2_NoWorld r3_NoWorld
  have R_TooMany := ref_mk (x := "TooMany") X G R_ForkError.tail ra_TooMany rl_TooMany rn_TooMany rw_TooMany ri_TooMany r1_TooMany r2_TooMany r3_TooMany
  have B : Bl mg := ⟨PySem.W.mg_none_of X G z_len, PySem.W.mg_none_of X G z_range, PySem.W.mg_none_of X G z_min, PySem.W.mg_none_of X G z_isinstance, PySem.W.mg_none_of X G z_list, PySem.W.mg_none_of X G z_reversed, PySem.W.mg_none_of X G z_tuple, PySem.W.mg_none_of X G z_int, PySem.W.mg_none_of X G z_bool, PySem.W.mg_none_of X G z_dict, PySem.W.mg_none_of X G z_zip⟩
  have B_str : mg "str" = none := PySem.W.mg_none_of X G z_str
  have B_all : mg "all" = none := PySem.W.mg_none_of X G z_all
  have B_ValueError : mg "ValueError" = none := PySem.W.mg_none_of X G z_ValueError
  refine ⟨PySem.W.fnOf "law" "law" (defArgs (top 37)) (defBody (top 37)) (defScope (top 37)) .none kV19 dc19 pm19 an19 cd19 ct19, fun s v => .of_eq rfl, fun base YK _ => ?_⟩
  have GS := ok_stir (P := l.prog) (w := w) (mg := mg) (base := base) F9
  have GT := ok_take (P := l.prog) (w := w) (mg := mg) (base := base) F12
  have GD := ok_drawn F10 B GS E9
  have GU := ok_unlike (P := l.prog) (w := w) (mg := mg) (base := base) F13 B
  have D_cell := Dn.mk (x := "_law_cell_at") ⟨_, _, ok_cell (P := l.prog) (w := w) (base := base) F8 B, E8.mg, E8.kp, E8.bd⟩
  have D_take := Dn.mk (x := "_law_take") ⟨_, _, GT, E12.mg, E12.kp, E12.bd⟩
  have D_deck := Dn.mk (x := "_law_deck") ⟨_, _, ok_deck F11 GS E9, E11.mg, E11.kp, E11.bd⟩
  have D_drawn := Dn.mk (x := "_law_drawn") ⟨_, _, GD, E10.mg, E10.kp, E10.bd⟩
  have D_unlike := Dn.mk (x := "_law_unlike") ⟨_, _, GU, E13.mg, E13.kp, E13.bd⟩
  have X_unless := dx_unless (P := l.prog) (w := w) (base := base) FD_refuse_unless (R_NoText.own base YK)
  have X_name := dx_name FD_read_name (dn_word (P := l.prog) (w := w) (base := base) FD_is_word B B_all GL_LETTERS GL_MOST_LETTERS) X_unless
  have X_rnum := dx_rnum FD_read_number B B_all GL_FIGURES GL_FIGURES_OF_A_BLOCK X_unless
  have X_rfork := dx_rfork FD_read_fork B X_unless X_rnum (dx_rworth FD_read_worth X_unless X_rnum)
  have X_rplan := dx_rplan FD_read_plan (dx_rnode FD_read_node B X_unless X_name X_rnum X_rfork)
  have RR : Refs K mg C_ForkError C_NoText [C_NoName, C_NoOrder, C_NoPlan, C_NotPlain, C_NotSure, C_NoWeights, C_NoWorld, C_TooMany] := ⟨R_ForkError, R_NoText, kf, kv, fun D hD => by have := List.all_eq_true.mp kn D hD; rw [Bool.not_eq_true'] at this; exact this⟩
  have D_refused := dn_refused YK FD_law_refused B B_ValueError RR R_NoName R_NoOrder R_NoPlan R_NotPlain R_NotSure R_NoWeights R_NoWorld R_TooMany X_rplan
  exact ok_law F19 B (dn_nodes FD_law_nodes B D_cell D_drawn D_deck D_take D_unlike) (dn_lrow (P := l.prog) (w := w) (base := base) FD_law_node_row B B_str) D_drawn (dn_badrow (P := l.prog) (w := w) (base := base) FD_law_bad_row B) (dn_spoilt (P := l.prog) (w := w) (base := base) FD_law_spoilt) D_refused X_rplan.calm
theorem walk {l : PySem.W.OpenLaw} {q : Program} {loose : List Str} {XP : (Str → Option Value) → Heap → Prop} {YP : World → Heap → Prop} {d : DefRec} {K : Params → PySem.W.Frag} (hn : l.most = some 63) (hdf : d.params.defaults = [])
    (hY : ∀ (w : World) (h : Heap), YP w h → (K w.params).In h)
    (F : ∀ (w : World) (mg : Str → Option Value) (fa : Addr) (h : Heap), (K w.params).In h → h.Ns mainGlobals mg → mg d.name = some (.ref fa) →
      ∃ fd : FuncData, (∀ (s : Shared) (u : Value), BindsTo s fd ⟨[u], []⟩ [("script", u)]) ∧ ∀ base : Heap, (K w.params).In base → base.Ns mainGlobals mg → FnOk l.prog w (K w.params) mg base CX0 60 fa fd ["script"] (spLaw (K w.params))) :
    PySem.W.WalkO q loose XP YP l.row.toRowW d [] (fun f vs => PySem.call f vs) :=
  L2.walk_of (n := 63) (k := 60) (x := "script") (CX := fun _ => CX0) (sp := fun w => spLaw (K w.params)) hn (by decide) hdf ⟨rfl, by decide, by decide⟩ hY F (fun _ _ a ns hl _ hS => ⟨a, ns, rfl, hS, hl, fun _ => rfl⟩) fun _ _ _ _ _ z => z
end FP
open PySem PySem.W PyProof.Rows
set_option maxRecDepth 100000 in
set_option maxHeartbeats 0 in
theorem PySem.Challenge.cw_forkplan_k85_texts_of_no_plan_holds : PySem.Challenge.rw_forkplan_k85_texts_of_no_plan.Holds := by
  w_on; o_law; k_head; (case hw => w_witness2)
  k_fill
  refine FP.walk (l := PySem.Challenge.rw_forkplan_k85_texts_of_no_plan) rfl rfl (fun w h Y => PySem.W.kIn_of Y) ?F
  case F =>
    intro w mg fa h KX G hmg
    refine' FP.all_mk KX G hmg ?a0 ?l0 ?c0 ?k0 ?a1 ?l1 ?c1 ?k1 ?a2 ?l2 ?c2 ?k2 ?a3 ?l3 ?c3 ?k3 ?a4 ?l4 ?c4 ?k4 ?a5 ?l5 ?c5 ?k5 ?a6 ?l6 ?c6 ?k6 ?a7 ?l7 ?c7 ?k7 ?a8 ?l8 ?c8 ?k8 ?a9 ?l9 ?c9 ?k9 ?a10 ?l10 ?c10 ?k10 ?a11 ?l11 ?c11 ?k11 ?a12 ?l12 ?c12 ?k12 ?a13 ?l13 ?c13 ?k13 ?a14 ?l14 ?c14 ?k14 ?a15 ?l15 ?c15 ?k15 ?a16 ?l16 ?c16 ?k16 ?a17 ?l17 ?c17 ?k17 ?a18 ?l18 ?c18 ?k18 ?a19 ?l19 ?c19 ?k19 ?g_LETTERS ?g_FIGURES ?g_MOST_LETTERS ?g_FIGURES_OF_A_BLOCK ?ra_ForkError ?rl_ForkError ?rn_ForkError ?rw_ForkError ?ri_ForkError ?r1_ForkError ?r2_ForkError ?r3_ForkError ?ra_NoText ?rl_NoText ?rn_NoText ?rw_NoText ?ri_NoText ?r1_NoText ?r2_NoText ?r3_NoText ?ra_NoName ?rl_NoName ?rn_NoName ?rw_NoName ?ri_NoName ?r1_NoName ?r2_NoName ?r3_NoName ?ra_NoOrder ?rl_NoOrder ?rn_NoOrder ?rw_NoOrder ?ri_NoOrder ?r1_NoOrder ?r2_NoOrder ?r3_NoOrder ?ra_NoPlan ?rl_NoPlan ?rn_NoPlan ?rw_NoPlan ?ri_NoPlan ?r1_NoPlan ?r2_NoPlan ?r3_NoPlan ?ra_NotPlain ?rl_NotPlain ?rn_NotPlain ?rw_NotPlain ?ri_NotPlain ?r1_NotPlain ?r2_NotPlain ?r3_NotPlain ?ra_NotSure ?rl_NotSure ?rn_NotSure ?rw_NotSure ?ri_NotSure ?r1_NotSure ?r2_NotSure ?r3_NotSure ?ra_NoWeights ?rl_NoWeights ?rn_NoWeights ?rw_NoWeights ?ri_NoWeights ?r1_NoWeights ?r2_NoWeights ?r3_NoWeights ?ra_NoWorld ?rl_NoWorld ?rn_NoWorld ?rw_NoWorld ?ri_NoWorld ?r1_NoWorld ?r2_NoWorld ?r3_NoWorld ?ra_TooMany ?rl_TooMany ?rn_TooMany ?rw_TooMany ?ri_TooMany ?r1_TooMany ?r2_TooMany ?r3_TooMany ?kf ?kv ?kn ?z_len ?z_range ?z_min ?z_isinstance ?z_list ?z_reversed ?z_tuple ?z_int ?z_bool ?z_dict ?z_zip ?z_str ?z_all ?z_ValueError
    (case a0 => k_is); (case l0 => k_is); (case c0 => k_is); (case k0 => k_is)
    (case a1 => k_is); (case l1 => k_is); (case c1 => k_is); (case k1 => k_is)
    (case a2 => k_is); (case l2 => k_is); (case c2 => k_is); (case k2 => k_is)
    (case a3 => k_is); (case l3 => k_is); (case c3 => k_is); (case k3 => k_is)
    (case a4 => k_is); (case l4 => k_is); (case c4 => k_is); (case k4 => k_is)
    (case a5 => k_is); (case l5 => k_is); (case c5 => k_is); (case k5 => k_is)
    (case a6 => k_is); (case l6 => k_is); (case c6 => k_is); (case k6 => k_is)
    (case a7 => k_is); (case l7 => k_is); (case c7 => k_is); (case k7 => k_is)
    (case a8 => k_is); (case l8 => k_is); (case c8 => k_is); (case k8 => k_is)
    (case a9 => k_is); (case l9 => k_is); (case c9 => k_is); (case k9 => k_is)
    (case a10 => k_is); (case l10 => k_is); (case c10 => k_is); (case k10 => k_is)
    (case a11 => k_is); (case l11 => k_is); (case c11 => k_is); (case k11 => k_is)
    (case a12 => k_is); (case l12 => k_is); (case c12 => k_is); (case k12 => k_is)
    (case a13 => k_is); (case l13 => k_is); (case c13 => k_is); (case k13 => k_is)
    (case a14 => k_is); (case l14 => k_is); (case c14 => k_is); (case k14 => k_is)
    (case a15 => k_is); (case l15 => k_is); (case c15 => k_is); (case k15 => k_is)
    (case a16 => k_is); (case l16 => k_is); (case c16 => k_is); (case k16 => k_is)
    (case a17 => k_is); (case l17 => k_is); (case c17 => k_is); (case k17 => k_is)
    (case a18 => k_is); (case l18 => k_is); (case c18 => k_is); (case k18 => k_is)
    (case a19 => k_is); (case l19 => k_is); (case c19 => k_is); (case k19 => k_is)
    (case g_LETTERS => first | k_is | rfl | decide)
    (case g_FIGURES => first | k_is | rfl | decide)
    (case g_MOST_LETTERS => first | k_is | rfl | decide)
    (case g_FIGURES_OF_A_BLOCK => first | k_is | rfl | decide)
    (case ra_ForkError => first | k_is | rfl | decide)
    (case rl_ForkError => first | k_is | rfl | decide)
    (case rn_ForkError => first | k_is | rfl | decide)
    (case rw_ForkError => first | k_is | rfl | decide)
    (case ri_ForkError => first | k_is | rfl | decide)
    (case r1_ForkError => first | k_is | rfl | decide)
    (case r2_ForkError => first | k_is | rfl | decide)
    (case r3_ForkError => first | k_is | rfl | decide)
    (case ra_NoText => first | k_is | rfl | decide)
    (case rl_NoText => first | k_is | rfl | decide)
    (case rn_NoText => first | k_is | rfl | decide)
    (case rw_NoText => first | k_is | rfl | decide)
    (case ri_NoText => first | k_is | rfl | decide)
    (case r1_NoText => first | k_is | rfl | decide)
    (case r2_NoText => first | k_is | rfl | decide)
    (case r3_NoText => first | k_is | rfl | decide)
    (case ra_NoName => first | k_is | rfl | decide)
    (case rl_NoName => first | k_is | rfl | decide)
    (case rn_NoName => first | k_is | rfl | decide)
    (case rw_NoName => first | k_is | rfl | decide)
    (case ri_NoName => first | k_is | rfl | decide)
    (case r1_NoName => first | k_is | rfl | decide)
    (case r2_NoName => first | k_is | rfl | decide)
    (case r3_NoName => first | k_is | rfl | decide)
    (case ra_NoOrder => first | k_is | rfl | decide)
    (case rl_NoOrder => first | k_is | rfl | decide)
    (case rn_NoOrder => first | k_is | rfl | decide)
    (case rw_NoOrder => first | k_is | rfl | decide)
    (case ri_NoOrder => first | k_is | rfl | decide)
    (case r1_NoOrder => first | k_is | rfl | decide)
    (case r2_NoOrder => first | k_is | rfl | decide)
    (case r3_NoOrder => first | k_is | rfl | decide)
    (case ra_NoPlan => first | k_is | rfl | decide)
    (case rl_NoPlan => first | k_is | rfl | decide)
    (case rn_NoPlan => first | k_is | rfl | decide)
    (case rw_NoPlan => first | k_is | rfl | decide)
    (case ri_NoPlan => first | k_is | rfl | decide)
    (case r1_NoPlan => first | k_is | rfl | decide)
    (case r2_NoPlan => first | k_is | rfl | decide)
    (case r3_NoPlan => first | k_is | rfl | decide)
    (case ra_NotPlain => first | k_is | rfl | decide)
    (case rl_NotPlain => first | k_is | rfl | decide)
    (case rn_NotPlain => first | k_is | rfl | decide)
    (case rw_NotPlain => first | k_is | rfl | decide)
    (case ri_NotPlain => first | k_is | rfl | decide)
    (case r1_NotPlain => first | k_is | rfl | decide)
    (case r2_NotPlain => first | k_is | rfl | decide)
    (case r3_NotPlain => first | k_is | rfl | decide)
    (case ra_NotSure => first | k_is | rfl | decide)
    (case rl_NotSure => first | k_is | rfl | decide)
    (case rn_NotSure => first | k_is | rfl | decide)
    (case rw_NotSure => first | k_is | rfl | decide)
    (case ri_NotSure => first | k_is | rfl | decide)
    (case r1_NotSure => first | k_is | rfl | decide)
    (case r2_NotSure => first | k_is | rfl | decide)
    (case r3_NotSure => first | k_is | rfl | decide)
    (case ra_NoWeights => first | k_is | rfl | decide)
    (case rl_NoWeights => first | k_is | rfl | decide)
    (case rn_NoWeights => first | k_is | rfl | decide)
    (case rw_NoWeights => first | k_is | rfl | decide)
    (case ri_NoWeights => first | k_is | rfl | decide)
    (case r1_NoWeights => first | k_is | rfl | decide)
    (case r2_NoWeights => first | k_is | rfl | decide)
    (case r3_NoWeights => first | k_is | rfl | decide)
    (case ra_NoWorld => first | k_is | rfl | decide)
    (case rl_NoWorld => first | k_is | rfl | decide)
    (case rn_NoWorld => first | k_is | rfl | decide)
    (case rw_NoWorld => first | k_is | rfl | decide)
    (case ri_NoWorld => first | k_is | rfl | decide)
    (case r1_NoWorld => first | k_is | rfl | decide)
    (case r2_NoWorld => first | k_is | rfl | decide)
    (case r3_NoWorld => first | k_is | rfl | decide)
    (case ra_TooMany => first | k_is | rfl | decide)
    (case rl_TooMany => first | k_is | rfl | decide)
    (case rn_TooMany => first | k_is | rfl | decide)
    (case rw_TooMany => first | k_is | rfl | decide)
    (case ri_TooMany => first | k_is | rfl | decide)
    (case r1_TooMany => first | k_is | rfl | decide)
    (case r2_TooMany => first | k_is | rfl | decide)
    (case r3_TooMany => first | k_is | rfl | decide)
    (case kf => first | k_is | rfl | decide)
    (case kv => first | k_is | rfl | decide)
    (case kn => first | k_is | rfl | decide)
    (case z_len => k_is); (case z_range => k_is); (case z_min => k_is); (case z_isinstance => k_is); (case z_list => k_is); (case z_reversed => k_is); (case z_tuple => k_is); (case z_int => k_is); (case z_bool => k_is); (case z_dict => k_is); (case z_zip => k_is); (case z_str => k_is); (case z_all => k_is); (case z_ValueError => k_is)
