import PyProof.Rows.All
import Wide.All
import OpenK.AllK
import Wide.FinOn
import Lean
import PyProof.EqAt
import PyProof.EqKinds
import PyProof.TupleCall
import PyProof.NeKinds
import KE.KDictOf
import PyProof.AttrMissSeq
import PyProof.DictList
import PyProof.WalksMore
import KE.KDictList
import PyProof.FactsAll.dict_4
import PyProof.ZipIter
import PyProof.ListRange
import OpenK.KOwn
import PyProof.Rows.CatchOwn
import KE.KIsNot
import KE.KRevIter
import PyProof.DictWalks
import PyProof.ConsumeWalk
import PyProof.TupleOfStr
import PyProof.StrOps2
import PyProof.SliceStr2
import PyProof.StrBlockI
import PyProof.Rows.StrClose5
import PyProof.Rows.CatFin
import KE.KIsAll
import KE.KSortTup
import PyProof.MeetsStr
import PyProof.MeetsStr2
import PyProof.StrLawsIn
import PyProof.Rows.StrLawsPart
import PyProof.Rows.StrRev
import PyProof.Draws
import PyProof.EnumMake
import PyProof.Rows.CountFlat
import PyProof.CallStr
import PyProof.FitsInt
import PySem.Challenge.RW_linegrow_k15_places_of_ways_and_back
set_option Elab.async false
set_option linter.all false
set_option maxRecDepth 100000
set_option maxHeartbeats 4000000
namespace L2
open PySem PySem.Spec PyProof.Rows
abbrev Key := Sum Int Str
def keyIs : Key → Value → Bool
  | .inl k, v => Value.isInt k v
  | .inr x, v => Value.isStrOf x v
def keyH (w : World) : Key → Int
  | .inl k => hashInt k
  | .inr x => hashStr w x
theorem keyIs_shape : ∀ {k : Key} {v : Value}, keyIs k v = true → (∃ i t, k = Sum.inl i ∧ v = Value.int i t) ∨ (∃ x t, k = Sum.inr x ∧ v = Value.str x t)
  | .inl i, v, h => by
    obtain ⟨t, e⟩ := Value.isInt_shape (k := i) (v := v) h
    exact .inl ⟨i, t, rfl, e⟩
  | .inr x, v, h => by
    obtain ⟨t, e⟩ := Value.isStrOf_shape (x := x) (v := v) h
    exact .inr ⟨x, t, rfl, e⟩
theorem keyIs_int (i : Int) (t : Tok) : keyIs (.inl i) (.int i t) = true := by simp [keyIs, Value.isInt]
theorem keyIs_str (x : Str) (t : Tok) : keyIs (.inr x) (.str x t) = true := by simp [keyIs, Value.isStrOf]
theorem key_ll (a b : Int) : decide ((Sum.inl a : Key) = Sum.inl b) = (a == b) := by
  by_cases e : a = b
  · subst e; simp
  · have h : ¬ (Sum.inl a : Key) = Sum.inl b := fun q => e (Sum.inl.inj q)
    rw [decide_eq_false h]
    exact (beq_eq_false_iff_ne.mpr e).symm
theorem key_rr (a b : Str) : decide ((Sum.inr a : Key) = Sum.inr b) = decide (a = b) := by
  by_cases e : a = b
  · subst e; simp
  · have h : ¬ (Sum.inr a : Key) = Sum.inr b := fun q => e (Sum.inr.inj q)
    rw [decide_eq_false h, decide_eq_false e]
theorem key_lr (a : Int) (b : Str) : decide ((Sum.inl a : Key) = Sum.inr b) = false := decide_eq_false (fun q => nomatch q)
theorem key_rl (a : Str) (b : Int) : decide ((Sum.inr a : Key) = Sum.inl b) = false := decide_eq_false (fun q => nomatch q)
def mixKind (prog : Program) (w : World) : PySem.KeyKind prog w Key where
  is := keyIs
  hash := keyH w
  inj := fun v a b ha hb => by
    rcases keyIs_shape ha with ⟨i, t, rfl, rfl⟩ | ⟨x, t, rfl, rfl⟩
    · rcases keyIs_shape hb with ⟨j, u, rfl, e⟩ | ⟨y, u, rfl, e⟩
      · injection e with e1 _; rw [e1]
      · exact nomatch e
    · rcases keyIs_shape hb with ⟨j, u, rfl, e⟩ | ⟨y, u, rfl, e⟩
      · exact nomatch e
      · injection e with e1 _; rw [e1]
  byValue := fun k v h => by
    rcases keyIs_shape h with ⟨i, t, rfl, rfl⟩ | ⟨x, t, rfl, rfl⟩ <;> rfl
  pyHash := fun hv h => by
    rcases keyIs_shape hv with ⟨i, t, rfl, rfl⟩ | ⟨x, t, rfl, rfl⟩
    · exact wpAny_pyHash_int h
    · exact wpAny_pyHash_str h
  eqBool := fun hu hv h => by
    rcases keyIs_shape hu with ⟨i, t, rfl, rfl⟩ | ⟨x, t, rfl, rfl⟩
    · rcases keyIs_shape hv with ⟨j, u, rfl, rfl⟩ | ⟨y, u, rfl, rfl⟩
      · rw [key_ll] at h; exact wpAny_eqBool_int h
      · rw [key_lr] at h; exact SeqAt.EqAt.int_str i t y u _ _ _ _ h
    · rcases keyIs_shape hv with ⟨j, u, rfl, rfl⟩ | ⟨y, u, rfl, rfl⟩
      · rw [key_rl] at h; exact SeqAt.EqAt.str_int x t j u _ _ _ _ h
      · rw [key_rr] at h; exact wpAny_eqBool_str h
  «strs» := fun k x t v h => by
    rcases keyIs_shape h with ⟨i, u, rfl, e⟩ | ⟨y, u, rfl, e⟩
    · exact nomatch e
    · injection e with e1 _
      subst e1
      cases v <;> rfl
theorem mixKind_int (prog : Program) (w : World) (i : Int) (t : Tok) : (mixKind prog w).is (.inl i) (.int i t) = true := keyIs_int i t
theorem mixKind_str (prog : Program) (w : World) (x : Str) (t : Tok) : (mixKind prog w).is (.inr x) (.str x t) = true := keyIs_str x t
end L2
namespace L2
open PySem PySem.Spec PyProof.Rows
inductive V where
  | non | bl (b : Bool) | int (i : Int) | str (x : Str) | byt (b : Array UInt8) | flt (b : UInt64) | ref (a : Addr) | ty (n : String)
  deriving DecidableEq
def RelV : V → Value → Prop
  | .non, u => u = Value.none
  | .bl b, u => u = Value.bool b
  | .int i, u => ∃ t, u = Value.int i t
  | .str x, u => ∃ t, u = Value.str x t
  | .byt b, u => ∃ t, u = Value.bytes b t
  | .flt b, u => ∃ t, u = Value.float b t
  | .ref a, u => u = Value.ref a
  | .ty n, u => u = Value.type n
abbrev Vals : List V → List Value → Prop := Paired RelV
theorem Vals.length {xs : List V} {us : List Value} (r : Vals xs us) : xs.length = us.length := Paired.length r
theorem Vals.get : ∀ {xs : List V} {us : List Value} {i : Nat} {x : V}, Vals xs us → xs[i]? = some x → ∃ u, us[i]? = some u ∧ RelV x u
  | _, _, _, _, .nil, e => by simp at e
  | _, _, 0, _, .cons r _, e => by simp at e; subst e; exact ⟨_, rfl, r⟩
  | _, _, i + 1, x, .cons _ t, e => by
    obtain ⟨u, h1, h2⟩ := Vals.get (i := i) (x := x) t (by simpa using e)
    exact ⟨u, by simpa using h1, h2⟩
theorem Vals.set {x : V} {u : Value} (r : RelV x u) : ∀ {xs : List V} {us : List Value} (i : Nat), Vals xs us → Vals (xs.set i x) (us.set i u)
  | _, _, _, .nil => .nil
  | _, _, 0, .cons _ t => .cons r t
  | _, _, i + 1, .cons q t => .cons q (Vals.set r i t)
theorem Vals.append : ∀ {xs ys : List V} {us ws : List Value}, Vals xs us → Vals ys ws → Vals (xs ++ ys) (us ++ ws)
  | _, _, _, _, .nil, s => s
  | _, _, _, _, .cons r t, s => .cons r (Vals.append t s)
theorem Vals.take : ∀ {xs : List V} {us : List Value} (n : Nat), Vals xs us → Vals (xs.take n) (us.take n)
  | _, _, 0, _ => .nil
  | _, _, _ + 1, .nil => .nil
  | _, _, n + 1, .cons r t => .cons r (Vals.take n t)
theorem Vals.drop : ∀ {xs : List V} {us : List Value} (n : Nat), Vals xs us → Vals (xs.drop n) (us.drop n)
  | _, _, 0, r => r
  | _, _, _ + 1, .nil => .nil
  | _, _, n + 1, .cons _ t => Vals.drop n t
def RelO : Option V → Option Value → Prop
  | some v, some u => RelV v u
  | none, none => True
  | _, _ => False
def KV {κ : Type} : List (κ × V) → List (κ × Value) → Prop := Paired fun (p : κ × V) (q : κ × Value) => p.1 = q.1 ∧ RelV p.2 q.2
def kV : Key → V
  | .inl i => .int i
  | .inr x => .str x
inductive HO where
  /-- a list -/
  | lst (xs : List V)
  /-- a tuple (never changes) -/
  | tup (xs : List V)
  /-- a dict whose keys are ints and texts; one whose keys are tuples of ints and texts (the empty one is both) -/
  | dK (kvs : List (Key × V)) | dT (kvs : List (List Key × V))
  /-- a set of ints: its members, its size -/
  | set (S : Int → Bool) (n : Nat)
  /-- an instance of the class at C, its dict at dx, its attributes -/
  | ins (C dx : Addr) (fs : List (Str × V))
  /-- the dict of the instance at x -/
  | own (x : Addr)
  /-- the dict of an exception -/
  | xd (fs : List (Str × V))
  /-- a bound method, f of x -/
  | met (f x : Addr)
  /-- a range object lo, lo + 1, .. below hi -/
  | rng (lo hi : Int)
  /-- a thing that is known to the object (the script; a dict while a loop walks it): read, never written while it is so -/
  | frz (o : Obj) (u : HO)
  /-- a code object's table -/
  | tbl (ps : Array Value)
  /-- any other thing, by what is true of its one object (a def of one's own: SetO a S n := HO.ext fun h => ..) -/
  | ext (φ : Heap → Prop)
abbrev Hp := Addr → Option HO
def upd (H : Hp) (a : Addr) (o : HO) : Hp := fun b => if b = a then some o else H b
theorem upd_same {H : Hp} {a : Addr} {o : HO} : upd H a o a = some o := by unfold upd; rw [if_pos rfl]
theorem upd_ne {H : Hp} {a b : Addr} {o : HO} (h : b ≠ a) : upd H a o b = H b := by unfold upd; rw [if_neg h]
theorem ne_of {H : Hp} {a b : Addr} {o u : HO} (h : H a = some o) (h' : H b = some u) (d : o ≠ u) : a ≠ b := by
  intro e; subst e; rw [h] at h'; exact d (Option.some.inj h')
theorem ne_of_none {H : Hp} {a b : Addr} {o : HO} (h : H a = some o) (h' : H b = none) : a ≠ b := by
  intro e; subst e; rw [h] at h'; cases h'
section
variable (P : Program) (w : World)
def Bare (h : Heap) (a : Addr) : Prop := ∃ o, h.get? a = some o ∧ o.dict = none
def ObjOk (H : Hp) (h : Heap) (a : Addr) : HO → Prop
  | .lst xs => xs.length ≤ sizeLine ∧ ∃ (its : List Value) (n : Nat), Vals xs its ∧ h.get? a = some { cls := .type "list", data := .seq its.toArray n }
  | .tup xs => xs.length ≤ sizeLine ∧ ∃ its : List Value, Vals xs its ∧ IsTup h a its.toArray ∧ Bare h a
  | .dK kvs => kvs.length ≤ sizeLine ∧ (a == sysModules) = false ∧ ∃ vs, KV kvs vs ∧ h.DictOf (mixKind P w) a vs
  | .dT kvs => kvs.length ≤ sizeLine ∧ (a == sysModules) = false ∧ ∃ xs : List (List Key × Addr × Value),
      Paired (fun (p : List Key × V) (q : List Key × Addr × Value) => p.1 = q.1 ∧ H q.2.1 = some (.tup (p.1.map kV)) ∧ RelV p.2 q.2.2) kvs xs ∧
      ∃ o es ep, h.get? a = some o ∧ o.ExactDict ∧ o.data = .dict es ep ∧ es.toList = xs.map (entryOfKey (tupleKind (mixKind P w))) ∧ (xs.map (·.1)).Nodup
  | .set S n => h.SetOf (intKind P w) a S n
  | .ins C dx fs => H dx = some (.own a) ∧ fs.length ≤ 1000 ∧ dx ≠ a ∧ h.get? a = some (PySem.W.instObj C dx) ∧
      ∃ mA, h.Ns1 dx mA ∧ (∀ f, RelO (fs.lookup f) (mA f)) ∧ PySem.Within mA (fs.map (·.1))
  | .own _ => ∃ o, h.get? a = some o
  | .xd fs => ∃ mA, h.Ns1 a mA ∧ ∀ f, RelO (fs.lookup f) (mA f)
  | .rng lo hi => ∃ t u v, h.get? a = some { cls := .type "range", data := .fields #[.int lo t, .int hi u, .int 1 v] }
  | .frz o u => h.get? a = some o ∧ ObjOk H h a u
  | .tbl ps => h.get? a = some { cls := .none, data := .fields ps }
  | .met f x => h.get? a = some (PySem.W.methodObj (.ref f) (.ref x))
  | .ext φ => φ h ∧ (∃ o, h.get? a = some o) ∧ ∀ h1 h2 : Heap, φ h1 → (∀ o, h1.get? a = some o → h2.get? a = some o) → φ h2
def HOk (H : Hp) (h : Heap) : Prop := ∀ a o, H a = some o → ObjOk P w H h a o
end
section
variable {P : Program} {w : World} {H H' : Hp} {h h' : Heap} {a : Addr} {o : HO}
theorem ObjOk.lt (x : ObjOk P w H h a o) : a < h.objs.size := by
  cases o with
  | lst xs => obtain ⟨_, _, _, _, e⟩ := x; exact Heap.lt_size e
  | tup xs => obtain ⟨_, _, _, p, _⟩ := x; exact p.lt
  | dK kvs => obtain ⟨_, _, _, _, o, _, _, e, _⟩ := x; exact Heap.lt_size e
  | dT kvs => obtain ⟨_, _, _, _, o, _, _, e, _⟩ := x; exact Heap.lt_size e
  | set S n => obtain ⟨o, _, _, _, e, _⟩ := x; exact Heap.lt_size e
  | ins C dx fs => obtain ⟨_, _, _, e, _⟩ := x; exact Heap.lt_size e
  | own y => obtain ⟨_, e⟩ := x; exact Heap.lt_size e
  | xd fs => obtain ⟨_, ⟨_, _, _, e, _⟩, _⟩ := x; exact Heap.lt_size e
  | rng lo hi => obtain ⟨_, _, _, e⟩ := x; exact Heap.lt_size e
  | frz ob u => obtain ⟨e, _⟩ := x; exact Heap.lt_size e
  | tbl ps => exact Heap.lt_size (show h.get? a = some _ from x)
  | met f y => exact Heap.lt_size (show h.get? a = some _ from x)
  | ext φ => obtain ⟨_, ⟨_, e⟩, _⟩ := x; exact Heap.lt_size e
theorem Paired.mapP {α β : Type} {F G : α → β → Prop} : ∀ {l₁ : List α} {l₂ : List β}, Paired F l₁ l₂ → (∀ a b, F a b → G a b) → Paired G l₁ l₂
  | _, _, .nil, _ => .nil
  | _, _, .cons r t, f => .cons (f _ _ r) (Paired.mapP t f)
theorem ObjOk.stay (x : ObjOk P w H h a o) (k : ∀ b u, (b = a ∨ H b = some (.own a)) → h.get? b = some u → h'.get? b = some u)
    (ho : ∀ b, H b = some (.own a) → H' b = some (.own a)) (ht : ∀ b xs, H b = some (.tup xs) → H' b = some (.tup xs)) : ObjOk P w H' h' a o := by
  induction o with
  | lst xs => obtain ⟨z, its, n, r, e⟩ := x; exact ⟨z, its, n, r, k _ _ (.inl rfl) e⟩
  | tup xs => obtain ⟨z, its, r, ⟨ob, e, c⟩, o2, e2, c2⟩ := x; exact ⟨z, its, r, ⟨ob, k _ _ (.inl rfl) e, c⟩, o2, k _ _ (.inl rfl) e2, c2⟩
  | dK kvs => obtain ⟨z, y, vs, r, ob, es, ep, e, c⟩ := x; exact ⟨z, y, vs, r, ob, es, ep, k _ _ (.inl rfl) e, c⟩
  | dT kvs =>
    obtain ⟨z, y, xs, r, ob, es, ep, e, c⟩ := x
    exact ⟨z, y, xs, Paired.mapP r fun p q z => ⟨z.1, ht _ _ z.2.1, z.2.2⟩, ob, es, ep, k _ _ (.inl rfl) e, c⟩
  | set S n => obtain ⟨ob, es, ep, t, e, c⟩ := x; exact ⟨ob, es, ep, t, k _ _ (.inl rfl) e, c⟩
  | ins C dx fs =>
    obtain ⟨d, z, ne, e, mA, ⟨od, es, ep, e2, c⟩, r⟩ := x
    exact ⟨ho _ d, z, ne, k _ _ (.inl rfl) e, mA, ⟨od, es, ep, k _ _ (.inr d) e2, c⟩, r⟩
  | own y => obtain ⟨ob, e⟩ := x; exact ⟨ob, k _ _ (.inl rfl) e⟩
  | xd fs => obtain ⟨mA, ⟨od, es, ep, e, c⟩, r⟩ := x; exact ⟨mA, ⟨od, es, ep, k _ _ (.inl rfl) e, c⟩, r⟩
  | rng lo hi => obtain ⟨t, u, v, e⟩ := x; exact ⟨t, u, v, k _ _ (.inl rfl) e⟩
  | frz ob u ih => obtain ⟨e, q⟩ := x; exact ⟨k _ _ (.inl rfl) e, ih q⟩
  | tbl ps =>
    have e : h.get? a = some { cls := .none, data := .fields ps } := x
    show h'.get? a = some { cls := .none, data := .fields ps }
    exact k a _ (.inl rfl) e
  | met f y =>
    have e : h.get? a = some (PySem.W.methodObj (.ref f) (.ref y)) := x
    show h'.get? a = some (PySem.W.methodObj (.ref f) (.ref y))
    exact k a _ (.inl rfl) e
  | ext φ => obtain ⟨p, ⟨o, e⟩, st⟩ := x; exact ⟨st _ _ p fun o q => k _ _ (.inl rfl) q, ⟨o, k _ _ (.inl rfl) e⟩, st⟩
theorem HOk.lt (x : HOk P w H h) (e : H a = some o) : a < h.objs.size := (x a o e).lt
theorem HOk.fresh (x : HOk P w H h) (e : h.objs.size ≤ a) : H a = none := by
  cases q : H a with
  | none => rfl
  | some u => exact absurd (Nat.lt_of_lt_of_le (x.lt q) e) (Nat.lt_irrefl _)
theorem HOk.kept (x : HOk P w H h) (k : ∀ b u, h.get? b = some u → h'.get? b = some u) : HOk P w H h' := fun a o e =>
  (x a o e).stay (fun b u _ q => k b u q) (fun _ q => q) fun _ _ q => q
theorem HOk.laid (x : HOk P w H h) (k : ∀ b u, h.get? b = some u → h'.get? b = some u) (hp : h.objs.size ≤ a) (new : ObjOk P w (upd H a o) h' a o) : HOk P w (upd H a o) h' := fun b u e => by
  have hn := x.fresh hp
  by_cases hb : b = a
  · subst hb; rw [upd_same] at e; cases e; exact new
  · rw [upd_ne hb] at e
    exact (x b u e).stay (fun c v _ q => k c v q) (fun c q => by rw [upd_ne (ne_of_none q hn)]; exact q) fun c xs q => by rw [upd_ne (ne_of_none q hn)]; exact q
end
def Rd (H : Hp) (a : Addr) (u : HO) : Prop := H a = some u ∨ ∃ o, H a = some (.frz o u)
theorem Rd.of {H : Hp} {a : Addr} {u : HO} (h : H a = some u) : Rd H a u := .inl h
theorem Rd.ok {P : Program} {w : World} {H : Hp} {h : Heap} {a : Addr} {u : HO} (r : Rd H a u) (x : HOk P w H h) : ObjOk P w H h a u := by
  rcases r with r | ⟨o, r⟩
  · exact x a u r
  · obtain ⟨_, q⟩ := x a _ r
    exact q
def Mut : Option HO → Prop
  | some (.lst _) => True
  | some (.dK _) => True
  | some (.dT _) => True
  | some (.set _ _) => True
  | some (.ins _ _ _) => True
  | some (.ext _) => True
  | _ => False
section
variable {P : Program} {w : World} {H : Hp} {h h' : Heap} {x e : Addr} {o' : HO}
theorem HOk.write (ok : HOk P w H h) (mu : Mut (H x)) (he : e = x ∨ H e = some (.own x)) (k : ∀ b u, b ≠ e → h.get? b = some u → h'.get? b = some u) (heo : ∃ u, h'.get? e = some u)
    (new : ObjOk P w (upd H x o') h' x o') : HOk P w (upd H x o') h' := fun b u q => by
  have nown : ∀ c y, H c = some (.own y) → c ≠ x := fun c y r z => by subst z; rw [r] at mu; exact mu
  have ntup : ∀ c xs, H c = some (.tup xs) → c ≠ x := fun c xs r z => by subst z; rw [r] at mu; exact mu
  by_cases hb : b = x
  · subst hb; rw [upd_same] at q; cases q; exact new
  · rw [upd_ne hb] at q
    by_cases hbe : b = e
    · have q' : H b = some (.own x) := by
        rcases he with z | z
        · exact absurd (hbe.trans z) hb
        · rw [hbe]; exact z
      rw [q] at q'; cases q'
      obtain ⟨v, hv⟩ := heo
      exact ⟨v, by rw [hbe]; exact hv⟩
    · refine (ok b u q).stay (fun c v hc r => k c v ?_ r) (fun c r => by rw [upd_ne (nown c b r)]; exact r) fun c xs r => by rw [upd_ne (ntup c xs r)]; exact r
      rcases hc with rfl | hc
      · exact hbe
      · rintro rfl
        rcases he with z | z
        · exact nown c b hc z
        · rw [hc] at z; cases z; exact hb rfl
end
structure Un (fs ex : List Addr) (H H' : Hp) (h h' : Heap) : Prop where
  keep : ∀ b o, h.get? b = some o → H b = none → b ∉ fs → b ∉ ex → h'.get? b = some o
  slot : ∀ b o, h.get? b = some o → H b = none → b ∈ fs → b ∉ ex → ∃ sl, h'.get? b = some { o with slots := sl }
  free : ∀ b o, h.get? b = some o → H b = none → b ∉ ex → H' b = none
  there : ∀ b o, h.get? b = some o → b ∉ ex → ∃ o', h'.get? b = some o'
  tups : ∀ b xs, H b = some (.tup xs) → H' b = some (.tup xs)
  frzs : ∀ b o u, H b = some (.frz o u) → H' b = some (.frz o u)
  tbls : ∀ b ps, H b = some (.tbl ps) → ∃ more, H' b = some (.tbl (ps ++ more))
section
variable {fs fs' ex ex' : List Addr} {H H1 H2 : Hp} {h h1 h2 h' : Heap} {a x e : Addr} {o : HO}
theorem Un.any (u : Un fs ex H H1 h h1) {b : Addr} {ob : Obj} (q : h.get? b = some ob) (n : H b = none) (hx : b ∉ ex) : ∃ sl, h1.get? b = some { ob with slots := sl } := by
  by_cases hb : b ∈ fs
  · exact u.slot b ob q n hb hx
  · exact ⟨ob.slots, u.keep b ob q n hb hx⟩
theorem Un.trans (a : Un fs ex H H1 h h1) (b : Un fs ex H1 H2 h1 h2) : Un fs ex H H2 h h2 where
  keep := fun c ob q n hc hx => b.keep c ob (a.keep c ob q n hc hx) (a.free c ob q n hx) hc hx
  slot := fun c ob q n hc hx => by
    obtain ⟨sl, e1⟩ := a.slot c ob q n hc hx
    obtain ⟨sl', e2⟩ := b.slot c _ e1 (a.free c ob q n hx) hc hx
    exact ⟨sl', e2⟩
  free := fun c ob q n hx => by
    obtain ⟨o', e1⟩ := a.there c ob q hx
    exact b.free c o' e1 (a.free c ob q n hx) hx
  there := fun c ob q hx => by
    obtain ⟨o', e1⟩ := a.there c ob q hx
    exact b.there c o' e1 hx
  tups := fun c xs q => b.tups c xs (a.tups c xs q)
  frzs := fun c ob xs q => b.frzs c ob xs (a.frzs c ob xs q)
  tbls := fun c ps q => by
    obtain ⟨m1, e1⟩ := a.tbls c ps q
    obtain ⟨m2, e2⟩ := b.tbls c _ e1
    exact ⟨m1 ++ m2, by rw [e2, Array.append_assoc]⟩
theorem Un.kept (k : ∀ b u, h.get? b = some u → h'.get? b = some u) : Un fs ex H H h h' :=
  ⟨fun b ob q _ _ _ => k b ob q, fun b ob q _ _ _ => ⟨ob.slots, k b ob q⟩, fun _ _ _ n _ => n, fun b ob q _ => ⟨ob, k b ob q⟩, fun _ _ q => q, fun _ _ _ q => q, fun _ ps q => ⟨#[], by rw [q]; simp⟩⟩
theorem Un.refl : Un fs ex H H h h := Un.kept fun _ _ q => q
theorem Un.laid (k : ∀ b u, h.get? b = some u → h'.get? b = some u) (hp : h.objs.size ≤ a) (hn : H a = none) : Un fs ex H (upd H a o) h h' where
  keep := fun b u q _ _ _ => k b u q
  slot := fun b u q _ _ _ => ⟨u.slots, k b u q⟩
  free := fun b u q n _ => by rw [upd_ne (Nat.ne_of_lt (Nat.lt_of_lt_of_le (Heap.lt_size q) hp))]; exact n
  there := fun b u q _ => ⟨u, k b u q⟩
  tups := fun b xs q => by rw [upd_ne (ne_of_none q hn)]; exact q
  frzs := fun b u xs q => by rw [upd_ne (ne_of_none q hn)]; exact q
  tbls := fun b ps q => ⟨#[], by rw [upd_ne (ne_of_none q hn), q]; simp⟩
theorem Un.write (mu : Mut (H x)) (he : e = x ∨ H e = some (.own x)) (k : ∀ b u, b ≠ e → h.get? b = some u → h'.get? b = some u) (heo : ∃ u, h'.get? e = some u) : Un fs ex H (upd H x o) h h' := by
  have hx : ∀ b, H b = none → b ≠ x := fun b n z => by subst z; rw [n] at mu; exact mu
  have hb : ∀ b, H b = none → b ≠ e := fun b n z => by
    subst z
    rcases he with r | r
    · exact hx b n r
    · rw [n] at r; cases r
  have hm : ∀ b u, H b = some u → ¬ Mut (some u) → b ≠ x := fun b u q nm z => by subst z; rw [q] at mu; exact nm mu
  refine ⟨fun b u q n _ _ => k b u (hb b n) q, fun b u q n _ _ => ⟨u.slots, k b u (hb b n) q⟩, fun b u q n _ => by rw [upd_ne (hx b n)]; exact n, fun b u q _ => ?_,
    fun b xs q => by rw [upd_ne (hm b _ q fun z => z)]; exact q, fun b u xs q => by rw [upd_ne (hm b _ q fun z => z)]; exact q, fun b ps q => ⟨#[], by rw [upd_ne (hm b _ q fun z => z), q]; simp⟩⟩
  by_cases hbe : b = e
  · subst hbe; exact heo
  · exact ⟨u, k b u hbe q⟩
theorem Un.mono (u : Un fs ex H H1 h h1) (hs : ∀ b ∈ fs, b ∈ fs') (hx : ∀ b ∈ ex, b ∈ ex') : Un fs' ex' H H1 h h1 :=
  ⟨fun b ob q n hb he => u.keep b ob q n (fun z => hb (hs b z)) fun z => he (hx b z), fun _ _ q n _ he => u.any q n fun z => he (hx _ z), fun b ob q n he => u.free b ob q n fun z => he (hx b z), fun b ob q he => u.there b ob q fun z => he (hx b z), u.tups, u.frzs, u.tbls⟩
end
def trk (h : Heap) (H : Hp) : List Addr := (List.range h.objs.size).filter fun a => (H a).isSome
def hidT (h : Heap) (H : Hp) : Heap := PySem.W.hideAll h (trk h H)
theorem hidT_size (h : Heap) (H : Hp) : (hidT h H).objs.size = h.objs.size := PySem.W.hideAll_size _ _
theorem hidT_get {h : Heap} {H : Hp} {b : Addr} {o : Obj} (e : h.get? b = some o) (n : H b = none) : (hidT h H).get? b = some o :=
  PySem.W.hideAll_get _ e fun hm => by
    have q : (H b).isSome = true := (List.mem_filter.mp hm).2
    rw [n] at q; simp at q
theorem of_hidT {h : Heap} {H : Hp} {b : Addr} {o : Obj} (e : (hidT h H).get? b = some o) : h.get? b = some o ∧ H b = none := by
  have e' : h.get? b = some o := PySem.W.of_hideAll (trk h H) e
  refine ⟨e', ?_⟩
  cases q : H b with
  | none => rfl
  | some x =>
    have hm : b ∈ trk h H := List.mem_filter.mpr ⟨List.mem_range.mpr (Heap.lt_size e'), by simp [q]⟩
    have z : (hidT h H).get? b = none := PySem.W.hideAll_none (trk h H) hm
    rw [z] at e; cases e
def allNews (g h : Heap) (L : Addr) : List (Addr × Obj) := (List.range h.objs.size).filterMap fun a => if a = L ∨ (g.get? a).isSome = true then none else (h.get? a).map fun o => (a, o)
def rest (g h : Heap) (L d : Addr) : List (Addr × Obj) := (allNews g h L).filter fun p => decide (p.1 ≠ d)
end L2
namespace L2
open PySem PySem.Spec PyProof.Rows
structure Mod (K : PySem.W.Frag) (mg : Str → Option Value) (base : Heap) : Prop where
  kin : K.In base
  glob : base.Ns mainGlobals mg
  blt : ∃ mb, base.Ns builtinsNs mb ∧ ∀ x : Str, x ≠ "__name__" → mb x = bootBuiltins x
  nolimit : base.NoLimit
structure Cx where
  prog : Program
  w : World
  K : PySem.W.Frag
  mg : Str → Option Value
  base : Heap
  A : Around
  N : List Str
  s₀ : Shared
  H₀ : Hp
  env : Env
  outer : List Env
  stack : List Env
  ex : List Addr
  fn : Str → Bool
  calm : Bool
  pn : List (Addr × Obj)
  xe : Value → Shared → Prop
def frs (l : List Env) : List Addr := l.filterMap (·.frame)
abbrev Cx.fs (X : Cx) : List Addr := frs X.outer
def Vis (sc : Scope) (x : Str) : Prop := sc.names.lookup x = some .local ∨ sc.names.lookup x = some .cell ∨ sc.names.lookup x = some .free
def Loc (sc : Scope) (x : Str) : Prop := sc.names.lookup x = some .local ∨ sc.names.lookup x = some .cell
def Look (env : Env) (h : Heap) (m : Str → Option Value) (x : Str) (u : Value) : Prop :=
  (env.kindOf x = some .local ∧ m x = some u) ∨ ((env.kindOf x = some .cell ∨ env.kindOf x = some .free) ∧ ∃ c, env.cells.lookup x = some c ∧ h.IsCell c (some u))
structure Cx.Ok (X : Cx) : Prop where
  mod : Mod X.K X.mg X.base
  kind : X.env.scope.kind = .function
  glob : X.env.globals = mainGlobals
  blt : X.env.builtins = builtinsNs
  above : X.s₀.heap.objs.size ≤ X.env.locals
  inj : ∀ x y c, X.env.cells.lookup x = some c → X.env.cells.lookup y = some c → x = y
  has : ∀ x, (X.env.kindOf x = some .cell ∨ X.env.kindOf x = some .free) → ∃ c, X.env.cells.lookup x = some c
  cab : ∀ x c, X.fn x = true → X.env.cells.lookup x = some c → X.s₀.heap.objs.size ≤ c
  hd : X.calm = true → X.A.handled = none
  frames : X.A.frames = some X.stack
  stk : X.stack = X.outer ∨ (X.stack = X.env :: X.outer ∧ X.env.frame = some X.env.locals)
  exf : ∀ b ∈ X.ex, b ≠ X.env.locals ∧ ∀ x c, X.env.cells.lookup x = some c → c ≠ b
  bs : ∀ b o, X.base.get? b = some o → X.s₀.heap.get? b = some o ∧ X.H₀ b = none
  bsz : X.base.objs.size ≤ X.s₀.heap.objs.size
  noex : ∀ b o, X.base.get? b = some o → b ∉ X.ex
  exfs : ∀ b ∈ X.ex, b ∉ X.fs
  funs : X.s₀.heap.FunFrames X.base X.outer
  frf : ∀ b ∈ X.fs, X.H₀ b = none
structure Inv (X : Cx) (pins : List (Addr × Obj)) (σ : List (Option V)) (H : Hp) (s : Shared) : Prop where
  ok : X.Ok
  os : s.os = X.s₀.os
  bare : AllBare s.gens
  base : Un X.fs X.ex X.H₀ H X.s₀.heap s.heap
  loc : ∃ m, s.heap.Ns X.env.locals m ∧ ∀ (i : Nat) (x : Str) (v : V), X.N[i]? = some x → σ[i]? = some (some v) → Vis X.env.scope x → ∃ u, RelV v u ∧ Look X.env s.heap m x u
  cell : ∀ x c, X.env.cells.lookup x = some c → ∃ v, s.heap.IsCell c v
  free : H X.env.locals = none
  freeC : ∀ x c, X.env.cells.lookup x = some c → H c = none
  pin : ∀ p ∈ X.pn ++ pins, s.heap.get? p.1 = some p.2 ∧ H p.1 = none ∧ p.1 ≠ X.env.locals ∧ p.1 ∉ X.fs ∧ ∀ v, p.2.data ≠ .cell v
  hok : HOk X.prog X.w H s.heap
  len : σ.length = X.N.length
section
variable {X : Cx} {pins : List (Addr × Obj)} {σ : List (Option V)} {H H' : Hp} {s : Shared} {h' : Heap}
theorem Cx.Ok.nofr (ok : X.Ok) {b : Addr} {o : Obj} (e : X.base.get? b = some o) : b ∉ X.fs := fun hb => by
  have := (ok.funs.mem hb).1
  rw [e] at this; cases this
theorem Inv.bs (I : Inv X pins σ H s) : ∀ b o, X.base.get? b = some o → s.heap.get? b = some o ∧ H b = none := fun b o e =>
  ⟨I.base.keep b o (I.ok.bs b o e).1 (I.ok.bs b o e).2 (I.ok.nofr e) (I.ok.noex b o e), I.base.free b o (I.ok.bs b o e).1 (I.ok.bs b o e).2 (I.ok.noex b o e)⟩
theorem Inv.bk (I : Inv X pins σ H s) : ∀ b o, X.base.get? b = some o → s.heap.get? b = some o := fun b o e => (I.bs b o e).1
theorem Inv.mod (I : Inv X pins σ H s) : Mod X.K X.mg X.base := I.ok.mod
theorem Inv.kIn (I : Inv X pins σ H s) : X.K.In s.heap := I.ok.mod.kin.keeps I.bk
theorem Inv.nolimit (I : Inv X pins σ H s) : s.heap.NoLimit := I.ok.mod.nolimit.keeps I.bk
theorem Inv.fr (I : Inv X pins σ H s) : ∃ m, Fr X.base X.env.locals s.heap m :=
  let ⟨m, hn, _⟩ := I.loc
  ⟨m, hn, I.bk, Nat.le_trans I.ok.bsz I.ok.above⟩
theorem Inv.lt (I : Inv X pins σ H s) : X.env.locals < s.heap.objs.size := let ⟨_, hn, _⟩ := I.loc; hn.lt
theorem Inv.sz (I : Inv X pins σ H s) : X.s₀.heap.objs.size ≤ s.heap.objs.size := Nat.le_trans I.ok.above (Nat.le_of_lt I.lt)
theorem Inv.nofs (I : Inv X pins σ H s) {a : Addr} (h : s.heap.objs.size ≤ a) : a ∉ X.fs := fun hb => by
  obtain ⟨_, o, ho, _⟩ := I.ok.funs.mem hb
  exact absurd (Nat.lt_of_lt_of_le (Heap.lt_size ho) (Nat.le_trans I.sz h)) (Nat.lt_irrefl _)
theorem Inv.cne (I : Inv X pins σ H s) : ∀ x c, X.env.cells.lookup x = some c → c ≠ X.env.locals := fun x c e z => by
  obtain ⟨v, o, ho, hd⟩ := I.cell x c e
  obtain ⟨m, ⟨o', es, ep, ho', hd', _⟩, _⟩ := I.loc
  rw [z, ho'] at ho; cases ho; rw [hd'] at hd; cases hd
theorem Inv.funs (I : Inv X pins σ H s) : s.heap.FunFrames X.base X.outer := by
  have all : ∀ (l : List Env), (∀ b ∈ frs l, b ∈ X.fs) → X.s₀.heap.FunFrames X.base l → s.heap.FunFrames X.base l := by
    intro l
    induction l with
    | nil => intro _ _; trivial
    | cons env r ih =>
      intro hs hl
      obtain ⟨hk, ⟨L, o, hf, hn, ho, hd⟩, hr⟩ := hl
      have hL : L ∈ X.fs := hs L (by unfold frs; rw [List.filterMap_cons, hf]; exact List.mem_cons_self)
      obtain ⟨sl, e⟩ := I.base.slot L o ho (I.ok.frf L hL) hL fun z => I.ok.exfs L z hL
      exact ⟨hk, ⟨L, _, hf, hn, e, hd⟩, ih (fun b hb => hs b (by unfold frs; rw [List.filterMap_cons, hf]; exact List.mem_cons_of_mem _ hb)) hr⟩
  exact all X.outer (fun _ hb => hb) I.ok.funs
theorem Inv.stack (I : Inv X pins σ H s) : s.heap.FunFrames X.base X.stack := by
  rcases I.ok.stk with e | ⟨e, hf⟩
  · rw [e]; exact I.funs
  · rw [e]
    obtain ⟨m, hn, _⟩ := I.loc
    refine .cons (by rw [I.ok.kind]; decide) hf hn ?_ I.funs
    exact Heap.get?_none_of_le (Nat.le_trans I.ok.bsz I.ok.above)
theorem Inv.stkSub (I : Inv X pins σ H s) : ∀ b ∈ frs X.stack, b ∈ X.env.locals :: X.fs := fun b hb => by
  rcases I.ok.stk with e | ⟨e, hf⟩
  · rw [e] at hb; exact List.mem_cons_of_mem _ hb
  · rw [e] at hb
    unfold frs at hb
    rw [List.filterMap_cons, hf] at hb
    exact hb
theorem Inv.stkFree (I : Inv X pins σ H s) : ∀ b ∈ frs X.stack, H b = none := fun b hb => by
  rcases List.mem_cons.mp (I.stkSub b hb) with e | hb
  · rw [e]; exact I.free
  · obtain ⟨_, o, ho, _⟩ := I.ok.funs.mem hb
    exact I.base.free b o ho (I.ok.frf b hb) fun z => I.ok.exfs b z hb
theorem Inv.step {g' : Array GenState} {t' : Nat} {d' : Drawn} {ch : List Addr} (I : Inv X pins σ H s)
    (hch : ∀ b ∈ ch, (b ∈ X.ex ∨ X.s₀.heap.objs.size ≤ b) ∧ b ≠ X.env.locals ∧ (∀ x c, X.env.cells.lookup x = some c → c ≠ b) ∧ ∀ p ∈ X.pn ++ pins, p.1 ≠ b)
    (keep : ∀ b o, b ≠ X.env.locals → b ∉ X.fs → b ∉ ch → s.heap.get? b = some o → H b = none → h'.get? b = some o)
    (slot : ∀ b o, b ≠ X.env.locals → b ∈ X.fs → b ∉ ch → s.heap.get? b = some o → H b = none → ∃ sl, h'.get? b = some { o with slots := sl }) (free : ∀ b o, b ∉ ch → s.heap.get? b = some o → H b = none → H' b = none)
    (there : ∀ b o, b ∉ ch → s.heap.get? b = some o → ∃ o', h'.get? b = some o')
    (tups : ∀ b xs, H b = some (.tup xs) → H' b = some (.tup xs)) (frzs : ∀ b o u, H b = some (.frz o u) → H' b = some (.frz o u)) (tbls : ∀ b ps, H b = some (.tbl ps) → ∃ more, H' b = some (.tbl (ps ++ more)))
    (ns : ∀ m, s.heap.Ns X.env.locals m → h'.Ns X.env.locals m) (hok : HOk X.prog X.w H' h') (hg : AllBare g') :
    Inv X pins σ H' { s with heap := h', gens := g', drawn := d', toks := t' } := by
  have neL : ∀ b o, X.s₀.heap.get? b = some o → b ≠ X.env.locals := fun b o e => Nat.ne_of_lt (Nat.lt_of_lt_of_le (Heap.lt_size e) I.ok.above)
  have neC : ∀ b o, X.s₀.heap.get? b = some o → b ∉ X.ex → b ∉ ch := fun b o e hx hb => by
    rcases (hch b hb).1 with z | z
    · exact hx z
    · exact absurd (Nat.lt_of_lt_of_le (Heap.lt_size e) z) (Nat.lt_irrefl _)
  have cellK : ∀ x c, X.env.cells.lookup x = some c → ∀ v, s.heap.IsCell c v → h'.IsCell c v := fun x c e v ⟨o, ho, hd⟩ => by
    have nch : c ∉ ch := fun z => (hch c z).2.2.1 x c e rfl
    by_cases hc : c ∈ X.fs
    · obtain ⟨sl, q⟩ := slot c o (I.cne x c e) hc nch ho (I.freeC x c e)
      exact ⟨_, q, hd⟩
    · exact ⟨o, keep c o (I.cne x c e) hc nch ho (I.freeC x c e), hd⟩
  refine ⟨I.ok, I.os, hg, ⟨fun b o e n hb hx => ?_, fun b o e n hb hx => ?_, fun b o e n hx => ?_, fun b o e hx => ?_, fun b xs e => tups b xs (I.base.tups b xs e), fun b o xs e => frzs b o xs (I.base.frzs b o xs e), fun b ps e => ?_⟩, ?_, fun x c e => ?_, ?_, fun x c e => ?_, fun p hp => ?_, hok, I.len⟩
  · exact keep b o (neL b o e) hb (neC b o e hx) (I.base.keep b o e n hb hx) (I.base.free b o e n hx)
  · obtain ⟨sl, e1⟩ := I.base.slot b o e n hb hx
    obtain ⟨sl', e2⟩ := slot b _ (neL b o e) hb (neC b o e hx) e1 (I.base.free b o e n hx)
    exact ⟨sl', e2⟩
  · obtain ⟨o', e1⟩ := I.base.there b o e hx
    exact free b o' (neC b o e hx) e1 (I.base.free b o e n hx)
  · obtain ⟨o', e1⟩ := I.base.there b o e hx
    exact there b o' (neC b o e hx) e1
  · obtain ⟨m1, e1⟩ := I.base.tbls b ps e
    obtain ⟨m2, e2⟩ := tbls b _ e1
    exact ⟨m1 ++ m2, by rw [e2, Array.append_assoc]⟩
  · obtain ⟨m, hn, hl⟩ := I.loc
    refine ⟨m, ns m hn, fun i x v e1 e2 e3 => ?_⟩
    obtain ⟨u, r, l⟩ := hl i x v e1 e2 e3
    refine ⟨u, r, ?_⟩
    rcases l with l | ⟨k, c, e, z⟩
    · exact .inl l
    · exact .inr ⟨k, c, e, cellK x c e _ z⟩
  · obtain ⟨v, z⟩ := I.cell x c e
    exact ⟨v, cellK x c e v z⟩
  · obtain ⟨m, ⟨o, _, _, ho, _⟩, _⟩ := I.loc
    exact free _ o (fun z => (hch _ z).2.1 rfl) ho I.free
  · obtain ⟨v, o, ho, hd⟩ := I.cell x c e
    exact free c o (fun z => (hch c z).2.2.1 x c e rfl) ho (I.freeC x c e)
  · obtain ⟨e, n, ne, nf, d⟩ := I.pin p hp
    have nch : p.1 ∉ ch := fun z => (hch p.1 z).2.2.2 p hp rfl
    exact ⟨keep p.1 p.2 ne nf nch e n, free p.1 p.2 nch e n, ne, nf, d⟩
theorem Inv.un {t' : Nat} (I : Inv X pins σ H s) (u : Un X.fs [] H H' s.heap h') (hok : HOk X.prog X.w H' h') : Inv X pins σ H' { s with heap := h', toks := t' } := by
  obtain ⟨m, ⟨o, es, ep, ho, r⟩, _⟩ := id I.loc
  obtain ⟨sl, hL⟩ := u.any ho I.free (by simp)
  exact I.step (g' := s.gens) (d' := s.drawn) (ch := []) (fun _ z => nomatch z) (fun b o _ hb _ e n => u.keep b o e n hb (by simp)) (fun b o _ hb _ e n => u.slot b o e n hb (by simp)) (fun b o _ e n => u.free b o e n (by simp)) (fun b o _ e => u.there b o e (by simp)) u.tups u.frzs u.tbls (fun m' hm => by
    obtain ⟨o', es', ep', ho', r'⟩ := hm
    rw [ho] at ho'; cases ho'
    exact ⟨_, es', ep', hL, r'⟩) hok I.bare
theorem Inv.call {g' : Array GenState} {t' : Nat} {d' : Drawn} {ch : List Addr} (I : Inv X pins σ H s) (u : Un (frs X.stack) ch H H' s.heap h') (hok : HOk X.prog X.w H' h') (hg : AllBare g')
    (hch : ∀ b ∈ ch, (b ∈ X.ex ∨ X.s₀.heap.objs.size ≤ b) ∧ b ≠ X.env.locals ∧ (∀ x c, X.env.cells.lookup x = some c → c ≠ b) ∧ ∀ p ∈ X.pn ++ pins, p.1 ≠ b) :
    Inv X pins σ H' { s with heap := h', gens := g', drawn := d', toks := t' } := by
  obtain ⟨m, ⟨o, es, ep, ho, r⟩, _⟩ := id I.loc
  obtain ⟨sl, hL⟩ := u.any ho I.free fun z => (hch _ z).2.1 rfl
  exact I.step (ch := ch) hch (fun b o hL hb hc e n => u.keep b o e n (fun z => (List.mem_cons.mp (I.stkSub b z)).elim hL hb) hc) (fun b o _ _ hc e n => u.any e n hc) (fun b o hc e n => u.free b o e n hc) (fun b o hc e => u.there b o e hc) u.tups u.frzs u.tbls (fun m' hm => by
    obtain ⟨o', es', ep', ho', r'⟩ := hm
    rw [ho] at ho'; cases ho'
    exact ⟨_, es', ep', hL, r'⟩) hok hg
theorem Inv.turned {t' : Nat} {it : Addr} (I : Inv X pins σ H s) (k : ∀ b o, b ≠ it → s.heap.get? b = some o → h'.get? b = some o) (hn : H it = none) (hL : it ≠ X.env.locals)
    (h1 : it ∈ X.ex ∨ X.s₀.heap.objs.size ≤ it) (h2 : ∀ x c, X.env.cells.lookup x = some c → c ≠ it) (h3 : ∀ p ∈ X.pn ++ pins, p.1 ≠ it) : Inv X pins σ H { s with heap := h', toks := t' } := by
  have nit : ∀ b u, H b = some u → b ≠ it := fun b u e z => by rw [z, hn] at e; cases e
  refine I.step (g' := s.gens) (d' := s.drawn) (ch := [it]) (fun b hb => ?_) (fun b o _ _ hc e _ => k b o (fun z => hc (by simp [z])) e) (fun b o _ _ hc e _ => ⟨o.slots, k b o (fun z => hc (by simp [z])) e⟩) (fun _ _ _ _ n => n)
    (fun b o hc e => ⟨o, k b o (fun z => hc (by simp [z])) e⟩) (fun _ _ e => e) (fun _ _ _ e => e) (fun b ps e => ⟨#[], by rw [e]; simp⟩) (fun m hm => ?_) (fun b u e => ?_) I.bare
  · have e : b = it := by simpa using hb
    subst e
    exact ⟨h1, hL, h2, h3⟩
  · obtain ⟨o, es, ep, ho, r⟩ := hm
    exact ⟨o, es, ep, k _ o (Ne.symm hL) ho, r⟩
  · refine (I.hok b u e).stay (fun c v hc q => k c v ?_ q) (fun _ q => q) fun _ _ q => q
    rcases hc with z | z
    · rw [z]; exact nit b u e
    · exact nit c _ z
theorem Inv.tok (I : Inv X pins σ H s) (t : Nat) : Inv X pins σ H { s with toks := t } := I.un (h' := s.heap) (t' := t) Un.refl I.hok
theorem Inv.kept {t' : Nat} (I : Inv X pins σ H s) (k : ∀ b u, s.heap.get? b = some u → h'.get? b = some u) : Inv X pins σ H { s with heap := h', toks := t' } := I.un (Un.kept k) (I.hok.kept k)
theorem Inv.laid {a : Addr} {o : HO} {t' : Nat} (I : Inv X pins σ H s) (k : ∀ b u, s.heap.get? b = some u → h'.get? b = some u) (hp : s.heap.objs.size ≤ a) (new : ObjOk X.prog X.w (upd H a o) h' a o) :
    Inv X pins σ (upd H a o) { s with heap := h', toks := t' } := I.un (Un.laid k hp (I.hok.fresh hp)) (I.hok.laid k hp new)
theorem Inv.write {x e : Addr} {o : HO} {t' : Nat} (I : Inv X pins σ H s) (mu : Mut (H x)) (he : e = x ∨ H e = some (.own x)) (k : ∀ b u, b ≠ e → s.heap.get? b = some u → h'.get? b = some u) (heo : ∃ u, h'.get? e = some u)
    (new : ObjOk X.prog X.w (upd H x o) h' x o) : Inv X pins σ (upd H x o) { s with heap := h', toks := t' } := I.un (Un.write mu he k heo) (I.hok.write mu he k heo new)
theorem Inv.pins_of {pins' : List (Addr × Obj)} (I : Inv X pins σ H s) (h : ∀ p ∈ pins', s.heap.get? p.1 = some p.2 ∧ H p.1 = none ∧ p.1 ≠ X.env.locals ∧ p.1 ∉ X.fs ∧ ∀ v, p.2.data ≠ .cell v) : Inv X pins' σ H s :=
  ⟨I.ok, I.os, I.bare, I.base, I.loc, I.cell, I.free, I.freeC, fun p hp => (List.mem_append.mp hp).elim (fun z => I.pin p (List.mem_append_left _ z)) (h p), I.hok, I.len⟩
theorem nodup_ix {N : List Str} (hN : N.Nodup) {i j : Nat} {x : Str} (a : N[i]? = some x) (b : N[j]? = some x) : i = j := by
  obtain ⟨h1, e1⟩ := List.getElem?_eq_some_iff.mp a
  obtain ⟨h2, e2⟩ := List.getElem?_eq_some_iff.mp b
  exact (List.getElem_inj hN).mp (e1.trans e2.symm)
theorem store_ok2 {M : Model} {A : Around} {E : Value → Shared → Prop} {i : Nat} {x : Str} {v : V} {u : Value} {Q : Unit → Shared → Prop} (I : Inv X pins σ H s) (hN : X.N.Nodup) (hi : X.N[i]? = some x) (hx : Loc X.env.scope x) (r : RelV v u)
    (h : ∀ s', Inv X pins (σ.set i (some v)) H s' → (∃ a, Heap.SameBut a s.heap s'.heap ∧ (a = X.env.locals ∨ X.env.cells.lookup x = some a)) → Q () s') (hf : X.fn x = true ∨ X.env.scope.names.lookup x = some .local := by first | exact .inl rfl | exact .inr rfl | assumption) : wpAny M A (storeName X.env x u) Q E s := by
  obtain ⟨m, hn, hl⟩ := id I.loc
  have hcls : (X.env.scope.kind == .class || (X.env.scope.kind == .module && X.env.locals != X.env.globals)) = false := by rw [I.ok.kind]; rfl
  have hiσ : i < σ.length := by rw [I.len]; exact (List.getElem?_eq_some_iff.mp hi).1
  have cne := I.cne
  have tracked : ∀ {a : Addr} {h' : Heap}, (∃ o, s.heap.get? a = some o ∧ H a = none) → Heap.SameBut a s.heap h' → HOk X.prog X.w H h' := fun {a h'} ha hs b ob e => by
    obtain ⟨_, _, hfree⟩ := ha
    refine (I.hok b ob e).stay (fun c w' hc q => (hs.2 c ?_).trans q) (fun _ q => q) fun _ _ q => q
    rintro rfl
    rcases hc with rfl | hc
    · rw [hfree] at e; cases e
    · rw [hfree] at hc; cases hc
  rcases hx with hk | hk
  · refine wpAny_storeName_local hk hn (fun h' hn' hs => ?_) hcls
    obtain ⟨oL, _, _, hoL, _⟩ := id hn
    refine h _ ⟨I.ok, I.os, I.bare, ⟨fun b o e n hb hx => ?_, fun b o e n hb hx => ?_, I.base.free, fun b o e hx => ?_, I.base.tups, I.base.frzs, I.base.tbls⟩, ⟨_, hn', fun j y v' e1 e2 e3 => ?_⟩, fun y c e => ?_, I.free, I.freeC, fun p hp => ?_, tracked ⟨oL, hoL, I.free⟩ hs, by simpa using I.len⟩ ⟨_, hs, .inl rfl⟩
    · exact (hs.2 b (Nat.ne_of_lt (Nat.lt_of_lt_of_le (Heap.lt_size e) I.ok.above))).trans (I.base.keep b o e n hb hx)
    · obtain ⟨sl, e1⟩ := I.base.slot b o e n hb hx
      exact ⟨sl, (hs.2 b (Nat.ne_of_lt (Nat.lt_of_lt_of_le (Heap.lt_size e) I.ok.above))).trans e1⟩
    · obtain ⟨o', e1⟩ := I.base.there b o e hx
      exact ⟨o', (hs.2 b (Nat.ne_of_lt (Nat.lt_of_lt_of_le (Heap.lt_size e) I.ok.above))).trans e1⟩
    · by_cases hj : j = i
      · subst hj
        rw [hi] at e1; cases e1
        rw [List.getElem?_set_self hiσ] at e2
        cases e2
        exact ⟨u, r, .inl ⟨hk, by simp⟩⟩
      · rw [List.getElem?_set_ne (Ne.symm hj)] at e2
        obtain ⟨u', r', q⟩ := hl j y v' e1 e2 e3
        refine ⟨u', r', ?_⟩
        rcases q with ⟨k, e⟩ | ⟨k, c, e, z⟩
        · refine .inl ⟨k, ?_⟩
          have : y ≠ x := fun e => hj (nodup_ix hN e1 (e ▸ hi))
          simp [this, e]
        · exact .inr ⟨k, c, e, z.sameBut hs (cne y c e)⟩
    · obtain ⟨w', z⟩ := I.cell y c e
      exact ⟨w', z.sameBut hs (cne y c e)⟩
    · obtain ⟨e, n, ne, nf, d⟩ := I.pin p hp
      exact ⟨(hs.2 p.1 ne).trans e, n, ne, nf, d⟩
  · have hfn : X.fn x = true := by
      rcases hf with z | z
      · exact z
      · rw [z] at hk; cases hk
    obtain ⟨c, hc⟩ := I.ok.has x (.inl hk)
    obtain ⟨w', z⟩ := I.cell x c hc
    refine wpAny_storeName_cell I.ok.kind hk hc z (fun h' hc' hs => ?_)
    obtain ⟨oc, hoc, hocd⟩ := id z
    refine h { s with heap := h' } ⟨I.ok, I.os, I.bare, ⟨fun b o e n hb hx => ?_, fun b o e n hb hx => ?_, I.base.free, fun b o e hx => ?_, I.base.tups, I.base.frzs, I.base.tbls⟩, ⟨m, hn.sameBut hs (Ne.symm (cne x c hc)), fun j y v' e1 e2 e3 => ?_⟩, fun y c' e => ?_, I.free, I.freeC, fun p hp => ?_, tracked ⟨oc, hoc, I.freeC x c hc⟩ hs, by simpa using I.len⟩ ⟨c, hs, .inr hc⟩
    · exact (hs.2 b (Nat.ne_of_lt (Nat.lt_of_lt_of_le (Heap.lt_size e) (I.ok.cab x c hfn hc)))).trans (I.base.keep b o e n hb hx)
    · obtain ⟨sl, e1⟩ := I.base.slot b o e n hb hx
      exact ⟨sl, (hs.2 b (Nat.ne_of_lt (Nat.lt_of_lt_of_le (Heap.lt_size e) (I.ok.cab x c hfn hc)))).trans e1⟩
    · obtain ⟨o', e1⟩ := I.base.there b o e hx
      exact ⟨o', (hs.2 b (Nat.ne_of_lt (Nat.lt_of_lt_of_le (Heap.lt_size e) (I.ok.cab x c hfn hc)))).trans e1⟩
    · by_cases hj : j = i
      · subst hj
        rw [hi] at e1; cases e1
        rw [List.getElem?_set_self hiσ] at e2
        cases e2
        exact ⟨u, r, .inr ⟨.inl hk, c, hc, hc'⟩⟩
      · rw [List.getElem?_set_ne (Ne.symm hj)] at e2
        obtain ⟨u', r', q⟩ := hl j y v' e1 e2 e3
        refine ⟨u', r', ?_⟩
        rcases q with q | ⟨k, c', e, z'⟩
        · exact .inl q
        · refine .inr ⟨k, c', e, z'.sameBut hs ?_⟩
          rintro rfl
          exact hj (nodup_ix hN e1 (I.ok.inj _ _ _ e hc ▸ hi))
    · by_cases hcc : c' = c
      · subst hcc; exact ⟨_, hc'⟩
      · obtain ⟨w2, z2⟩ := I.cell y c' e
        exact ⟨w2, z2.sameBut hs hcc⟩
    · obtain ⟨e, n, ne, nf, d⟩ := I.pin p hp
      refine ⟨(hs.2 p.1 ?_).trans e, n, ne, nf, d⟩
      intro q
      rw [q, hoc] at e
      have q' : oc = p.2 := Option.some.inj e
      exact d w' (by rw [← q']; exact hocd)
theorem store_ok {M : Model} {A : Around} {E : Value → Shared → Prop} {i : Nat} {x : Str} {v : V} {u : Value} {Q : Unit → Shared → Prop} (I : Inv X pins σ H s) (hN : X.N.Nodup) (hi : X.N[i]? = some x) (hx : Loc X.env.scope x) (r : RelV v u)
    (h : ∀ s', Inv X pins (σ.set i (some v)) H s' → Q () s') (hf : X.fn x = true ∨ X.env.scope.names.lookup x = some .local := by first | exact .inl rfl | exact .inr rfl | assumption) : wpAny M A (storeName X.env x u) Q E s :=
  store_ok2 I hN hi hx r (fun s' I' _ => h s' I') hf
theorem Inv.call' {s' : Shared} {ch : List Addr} (I : Inv X pins σ H s) (ho : s'.os = s.os) (u : Un (frs X.stack) ch H H' s.heap s'.heap) (hok : HOk X.prog X.w H' s'.heap) (hg : AllBare s'.gens)
    (hch : ∀ b ∈ ch, (b ∈ X.ex ∨ X.s₀.heap.objs.size ≤ b) ∧ b ≠ X.env.locals ∧ (∀ x c, X.env.cells.lookup x = some c → c ≠ b) ∧ ∀ p ∈ X.pn ++ pins, p.1 ≠ b) : Inv X pins σ H' s' := by
  obtain ⟨h', g', d', t', o'⟩ := s'
  have e : o' = s.os := ho
  subst e
  exact I.call (g' := g') (t' := t') (d' := d') u hok hg hch
end
abbrev XK := Value → Option Addr → Hp → Prop
abbrev St := List (Option V)
abbrev VK := V → Hp → Prop
abbrev TE := St → Hp → VK → Prop
abbrev TT := St → Hp → (Bool → Hp → Prop) → Prop
abbrev TA := St → Hp → (List V → Hp → Prop) → Prop
structure Ends where
  nx : St → Hp → Prop
  rt : VK
  bk : St → Hp → Prop := fun _ _ => False
  ct : St → Hp → Prop := fun _ _ => False
abbrev TS := Ends → St → Hp → Prop
def EP (X : Cx) (pins : List (Addr × Obj)) (σ : St) (Q : VK) (u : Value) (s' : Shared) : Prop := ∃ v H', Inv X pins σ H' s' ∧ RelV v u ∧ Q v H'
def TP (X : Cx) (pins : List (Addr × Obj)) (σ : St) (Q : Bool → Hp → Prop) (b : Bool) (s' : Shared) : Prop := ∃ H', Inv X pins σ H' s' ∧ Q b H'
def AP (X : Cx) (pins : List (Addr × Obj)) (σ : St) (Q : List V → Hp → Prop) (us : List Value) (s' : Shared) : Prop := ∃ vs H', Inv X pins σ H' s' ∧ Vals vs us ∧ Q vs H'
def SP (X : Cx) (pins : List (Addr × Obj)) (D : Ends) (f : Flow) (s' : Shared) : Prop :=
  match f with
  | .next => ∃ σ' H', Inv X pins σ' H' s' ∧ D.nx σ' H'
  | .brk => ∃ σ' H', Inv X pins σ' H' s' ∧ D.bk σ' H'
  | .cont => ∃ σ' H', Inv X pins σ' H' s' ∧ D.ct σ' H'
  | .ret u => ∃ v σ' H', Inv X pins σ' H' s' ∧ RelV v u ∧ D.rt v H'
def PE (X : Cx) (e : Expr) (t : TE) : Prop :=
  ∀ (pins : List (Addr × Obj)) (s : Shared) (σ : St) (H : Hp) (Q : VK), Inv X pins σ H s → t σ H Q → wpAny (model X.prog X.w) X.A (eval e X.env) (EP X pins σ Q) X.xe s
def PT (X : Cx) (e : Expr) (t : TT) : Prop :=
  ∀ (pins : List (Addr × Obj)) (s : Shared) (σ : St) (H : Hp) (Q : Bool → Hp → Prop), Inv X pins σ H s → t σ H Q → wpAny (model X.prog X.w) X.A (isTrue e X.env (eval e X.env)) (TP X pins σ Q) X.xe s
def PW (X : Cx) (e : Expr) (t : TT) : Prop :=
  ∀ (whole : Sem Value) (pins : List (Addr × Obj)) (s : Shared) (σ : St) (H : Hp) (Q : Bool → Hp → Prop), Inv X pins σ H s → t σ H Q → wpAny (model X.prog X.w) X.A (isTrue e X.env whole) (TP X pins σ Q) X.xe s
theorem PW.pt {X : Cx} {e : Expr} {t : TT} (h : PW X e t) : PT X e t := h _
def PA (X : Cx) (es : List Expr) (t : TA) : Prop :=
  ∀ (pos : Pos) (pins : List (Addr × Obj)) (s : Shared) (σ : St) (H : Hp) (Q : List V → Hp → Prop), Inv X pins σ H s → t σ H Q → wpAny (model X.prog X.w) X.A (spliced (backTo pos (starEach es X.env))) (AP X pins σ Q) X.xe s
def PS (X : Cx) (st : Stmt) (t : TS) : Prop :=
  ∀ (pins : List (Addr × Obj)) (s : Shared) (σ : St) (H : Hp) (D : Ends), Inv X pins σ H s → t D σ H → wpAny (model X.prog X.w) X.A (exec st X.env) (SP X pins D) X.xe s
def PSs (X : Cx) (st : List Stmt) (t : TS) : Prop :=
  ∀ (pins : List (Addr × Obj)) (s : Shared) (σ : St) (H : Hp) (D : Ends), Inv X pins σ H s → t D σ H → wpAny (model X.prog X.w) X.A (execs st X.env) (SP X pins D) X.xe s
theorem thn {α : Type} {t : Sem α} {Q Q' : α → Shared → Prop} {M : Model} {A : Around} {E : Value → Shared → Prop} {s : Shared} (h : wpAny M A t Q E s) (hQ : ∀ a s, Q a s → Q' a s) : wpAny M A t Q' E s := wpAny_mono h hQ fun _ _ x => x
end L2
namespace L2
open PySem PySem.Spec PyProof.Rows
section
variable {X : Cx}
def tVar (i : Nat) : TE := fun σ H Q => ∃ v, σ[i]? = some (some v) ∧ Q v H
def tC (v : V) : TE := fun _ H Q => Q v H
theorem pe_var {i : Nat} {x : Str} {pos : Pos} (hN : X.N[i]? = some x) (hv : Vis X.env.scope x) (hd : (x == ("__debug__" : Str)) = false := by decide) (hcd : (x == ("__classdict__" : Str)) = false := by decide) : PE X (.Name x pos) (tVar i) := by
  intro pins s σ H Q I h
  obtain ⟨v, e, h⟩ := h
  obtain ⟨m, hn, hl⟩ := I.loc
  obtain ⟨u, r, l⟩ := hl i x v hN e hv
  have fin : EP X pins σ Q u s := ⟨v, H, I, r, h⟩
  rcases l with ⟨hk, hm⟩ | ⟨hk, c, hc, hcell⟩
  · exact wpAny_Name (wpAny_loadName_local I.ok.kind hk hn hm fin) hd
  · rcases hk with hk | hk
    · exact wpAny_Name (wpAny_loadName_cell I.ok.kind hk hc hcell fin) hd
    · exact wpAny_Name (wpAny_loadName_free I.ok.kind hk hc hcell fin hcd) hd
theorem pe_int {i j pos} : PE X (.Constant (.int i) j pos) (tC (.int i)) := fun _ _ _ H _ I h => wpAny_Constant_int ⟨.int i, H, I.tok _, ⟨_, rfl⟩, h⟩
theorem pe_bl {b j pos} : PE X (.Constant (.bool b) j pos) (tC (.bl b)) := fun _ _ _ H _ I h => Constant_bool ⟨.bl b, H, I, rfl, h⟩
theorem pe_non {j pos} : PE X (.Constant .none j pos) (tC .non) := fun _ _ _ H _ I h => Constant_none ⟨.non, H, I, rfl, h⟩
theorem pe_str {x j pos} : PE X (.Constant (.str x) j pos) (tC (.str x)) := fun _ _ _ H _ I h => Calls.Constant_str ⟨.str x, H, I.tok _, ⟨_, rfl⟩, h⟩
def Gl (X : Cx) (x : Str) : Prop := X.env.kindOf x = some .globalImplicit
theorem ld_glob {E : Value → Shared → Prop} {pins : List (Addr × Obj)} {s : Shared} {σ : St} {H : Hp} {x : Str} {u : Value} {pos : Pos} {Q : Value → Shared → Prop} (I : Inv X pins σ H s) (hg : Gl X x) (hm : X.mg x = some u) (h : Q u s)
    (hd : (x == ("__debug__" : Str)) = false := by decide) : wpAny (model X.prog X.w) X.A (eval (.Name x pos) X.env) Q E s :=
  Calls.Name_function_global I.ok.kind hg (Calls.loadGlobal_global (by rw [I.ok.glob]; exact I.mod.glob.keeps I.bk) hm h) hd
theorem ld_blt {E : Value → Shared → Prop} {pins : List (Addr × Obj)} {s : Shared} {σ : St} {H : Hp} {x : Str} {u : Value} {pos : Pos} {Q : Value → Shared → Prop} (I : Inv X pins σ H s) (hg : Gl X x) (hm : X.mg x = none) (hv : bootBuiltins x = some u) (h : Q u s)
    (hn : x ≠ "__name__" := by decide) (hd : (x == ("__debug__" : Str)) = false := by decide) : wpAny (model X.prog X.w) X.A (eval (.Name x pos) X.env) Q E s := by
  obtain ⟨mb, h1, h2⟩ := I.mod.blt
  exact Calls.Name_function_global I.ok.kind hg (Calls.loadGlobal_builtin (by rw [I.ok.glob]; exact I.mod.glob.keeps I.bk) hm (by rw [I.ok.blt]; exact h1.keeps I.bk) ((h2 x hn).trans hv) h) hd
theorem pe_glob {x : Str} {v : V} {u : Value} {pos : Pos} (hg : Gl X x) (hm : X.mg x = some u) (r : RelV v u) (hd : (x == ("__debug__" : Str)) = false := by decide) : PE X (.Name x pos) (tC v) :=
  fun _ _ _ H _ I h => ld_glob I hg hm ⟨v, H, I, r, h⟩ hd
theorem pe_bltn {x : Str} {v : V} {u : Value} {pos : Pos} (hg : Gl X x) (hm : X.mg x = none) (hv : bootBuiltins x = some u) (r : RelV v u) (hn : x ≠ "__name__" := by decide) (hd : (x == ("__debug__" : Str)) = false := by decide) : PE X (.Name x pos) (tC v) :=
  fun _ _ _ H _ I h => ld_blt I hg hm hv ⟨v, H, I, r, h⟩ hn hd
variable {a b : Expr} {ta tb : TE} {pos : Pos}
def tB (t : TE) : TT := fun σ H Q => t σ H fun x H1 => ∃ c, x = .bl c ∧ Q c H1
theorem pt_val {e : Expr} {t : TE} (h : PE X e t) (he : ∀ whole, isTrue e X.env whole = (do let v ← whole; standAt e.pos; holding [v] (truthy v)) := by intro _; rfl) : PT X e (tB t) := by
  intro pins s σ H Q I hw
  refine isTrue_plain (thn (h pins s σ H _ I hw) fun v s1 ⟨x, H1, I1, r1, q1⟩ => ?_) (he _)
  obtain ⟨d, rfl, q⟩ := q1
  cases r1
  exact wpAny_truthy_bool ⟨H1, I1, q⟩
variable {tA tB' : TT} {rest : List Expr}
def tAnd (t u : TT) : TT := fun σ H Q => t σ H fun c H1 => if c = true then u σ H1 Q else Q false H1
def tOr (t u : TT) : TT := fun σ H Q => t σ H fun c H1 => if c = true then Q true H1 else u σ H1 Q
def tNot (t : TT) : TT := fun σ H Q => t σ H fun c H1 => Q (!c) H1
theorem pw_and1 (ha : PT X a tA) : PW X (.BoolOp .And [a] pos) tA := by
  intro wh pins s σ H Q I h
  refine isTrue_and (thn (ha pins s σ H Q I h) fun c s1 e => ?_)
  cases c with
  | true => exact isTrue_and_nil e
  | false => exact e
theorem pw_or1 (ha : PT X a tA) : PW X (.BoolOp .Or [a] pos) tA := by
  intro wh pins s σ H Q I h
  refine isTrue_or (thn (ha pins s σ H Q I h) fun c s1 e => ?_)
  cases c with
  | false => exact isTrue_or_nil e
  | true => exact e
theorem pw_and (ha : PT X a tA) (hb : PW X (.BoolOp .And (b :: rest) pos) tB') : PW X (.BoolOp .And (a :: b :: rest) pos) (tAnd tA tB') := by
  intro wh pins s σ H Q I h
  refine isTrue_and (thn (ha pins s σ H _ I h) fun c s1 ⟨H1, I1, q1⟩ => ?_)
  cases c with
  | true => exact hb wh pins s1 σ H1 Q I1 q1
  | false => exact ⟨H1, I1, q1⟩
theorem pw_or (ha : PT X a tA) (hb : PW X (.BoolOp .Or (b :: rest) pos) tB') : PW X (.BoolOp .Or (a :: b :: rest) pos) (tOr tA tB') := by
  intro wh pins s σ H Q I h
  refine isTrue_or (thn (ha pins s σ H _ I h) fun c s1 ⟨H1, I1, q1⟩ => ?_)
  cases c with
  | true => exact ⟨H1, I1, q1⟩
  | false => exact hb wh pins s1 σ H1 Q I1 q1
theorem pt_not (ha : PT X a tA) : PT X (.UnaryOp .Not a pos) (tNot tA) := by
  intro pins s σ H Q I h
  exact isTrue_not (ha pins s σ H (fun c H1 => Q (!c) H1) I h)
def tAndV (ta tb : TE) : TE := fun σ H Q => ta σ H fun x H1 => ∃ c, x = .bl c ∧ if c = true then tb σ H1 Q else Q (.bl false) H1
def tNotV (ta : TE) : TE := fun σ H Q => ta σ H fun x H1 => ∃ c, x = .bl c ∧ Q (.bl (!c)) H1
theorem pe_one {op} {t : TE} (h : PE X a t) : PE X (.BoolOp op [a] pos) t := fun pins s σ H Q I hw => BoolOp_one (h pins s σ H Q I hw)
theorem pe_and (ha : PE X a ta) (hb : PE X (.BoolOp .And (b :: rest) pos) tb) : PE X (.BoolOp .And (a :: b :: rest) pos) (tAndV ta tb) := by
  intro pins s σ H Q I h
  refine BoolOp_and (thn (ha pins s σ H _ I h) fun v s1 ⟨x, H1, I1, r1, q1⟩ => ?_)
  obtain ⟨c, rfl, q1⟩ := q1
  cases r1
  refine wpAny_truthy_bool ?_
  cases c with
  | true => exact hb pins s1 σ H1 Q I1 q1
  | false => exact ⟨.bl false, H1, I1, rfl, q1⟩
theorem pe_not (ha : PE X a ta) : PE X (.UnaryOp .Not a pos) (tNotV ta) := by
  intro pins s σ H Q I h
  refine UnaryOp_ (thn (ha pins s σ H _ I h) fun v s1 ⟨x, H1, I1, r1, q1⟩ => ?_)
  obtain ⟨c, rfl, q1⟩ := q1
  cases r1
  exact not_of (wpAny_truthy_bool ⟨.bl (!c), H1, I1, rfl, q1⟩)
end
end L2
namespace L2
open PySem PySem.Spec PyProof.Rows
def SqL (K : PySem.W.Frag) (H : Hp) (a : Addr) (xs : List V) : Prop :=
  Rd H a (.lst xs) ∨
    ∃ (o : Obj) (its : Array Value) (n : Nat), K.lookup a = some o ∧ o.cls = .type "list" ∧ o.dict = none ∧ o.data = .seq its n ∧ its.size ≤ sizeLine ∧ Vals xs its.toList
def SqT (K : PySem.W.Frag) (H : Hp) (a : Addr) (xs : List V) : Prop :=
  Rd H a (.tup xs) ∨
    ∃ (o : Obj) (its : Array Value) (n : Nat), K.lookup a = some o ∧ o.cls = .type "tuple" ∧ o.data = .seq its n ∧ its.size ≤ sizeLine ∧ Vals xs its.toList
def absV : Value → Option V
  | .none => some .non
  | .bool b => some (.bl b)
  | .int i _ => some (.int i)
  | .str x _ => some (.str x)
  | .bytes b _ => some (.byt b)
  | .float b _ => some (.flt b)
  | .ref a => some (.ref a)
  | .type n => some (.ty n)
  | _ => none
theorem RelV.abs {x : V} {u : Value} (r : RelV x u) : absV u = some x := by
  cases x with
  | non => cases r; rfl
  | bl _ => cases r; rfl
  | int _ => obtain ⟨t, rfl⟩ := r; rfl
  | str _ => obtain ⟨t, rfl⟩ := r; rfl
  | byt _ => obtain ⟨t, rfl⟩ := r; rfl
  | flt _ => obtain ⟨t, rfl⟩ := r; rfl
  | ref _ => cases r; rfl
  | ty _ => cases r; rfl
theorem RelV.inj {x y : V} {u : Value} (r : RelV x u) (q : RelV y u) : x = y := Option.some.inj (r.abs.symm.trans q.abs)
theorem Vals.inj : ∀ {xs ys : List V} {us : List Value}, Vals xs us → Vals ys us → xs = ys
  | _, _, _, .nil, .nil => rfl
  | _, _, _, .cons r t, .cons r' t' => by rw [r.inj r', Vals.inj t t']
section
variable {X : Cx} {pins : List (Addr × Obj)} {σ : St} {H : Hp} {s : Shared} {a : Addr} {xs ys : List V}
theorem SqL.of {K : PySem.W.Frag} (h : H a = some (.lst xs)) : SqL K H a xs := .inl (.inl h)
theorem SqT.of {K : PySem.W.Frag} (h : H a = some (.tup xs)) : SqT K H a xs := .inl (.inl h)
theorem Inv.list (I : Inv X pins σ H s) (h : SqL X.K H a xs) : ∃ its : List Value, Vals xs its ∧ PlainL s.heap a its.toArray ∧ xs.length ≤ sizeLine := by
  rcases h with h | ⟨o, its, n, hk, hc, hd, hs, hz, r⟩
  · obtain ⟨z, its, n, r, e⟩ := h.ok I.hok
    exact ⟨its, r, ⟨_, n, e, rfl, rfl, rfl⟩, z⟩
  · refine ⟨its.toList, r, ⟨o, n, I.kIn a o hk, hc, hd, by simpa using hs⟩, ?_⟩
    have e := r.length
    simp only [Array.length_toList] at e
    omega
theorem Inv.tuple (I : Inv X pins σ H s) (h : SqT X.K H a xs) : ∃ its : List Value, Vals xs its ∧ IsTup s.heap a its.toArray ∧ xs.length ≤ sizeLine := by
  rcases h with h | ⟨o, its, n, hk, hc, hs, hz, r⟩
  · obtain ⟨z, its, r, p, _⟩ := h.ok I.hok
    exact ⟨its, r, p, z⟩
  · refine ⟨its.toList, r, ⟨o, I.kIn a o hk, hc, n, by simpa using hs⟩, ?_⟩
    have e := r.length
    simp only [Array.length_toList] at e
    omega
theorem Inv.list_inj (I : Inv X pins σ H s) (h : SqL X.K H a xs) (h' : SqL X.K H a ys) : xs = ys := by
  obtain ⟨its, r, ⟨o, n, e, _, _, d⟩, _⟩ := I.list h
  obtain ⟨its', r', ⟨o', n', e', _, _, d'⟩, _⟩ := I.list h'
  rw [e] at e'; cases e'
  rw [d] at d'
  injection d' with d1 _
  have : its = its' := by simpa using congrArg Array.toList d1
  subst this
  exact r.inj r'
theorem Inv.tuple_inj (I : Inv X pins σ H s) (h : SqT X.K H a xs) (h' : SqT X.K H a ys) : xs = ys := by
  obtain ⟨its, r, ⟨o, e, _, n, d⟩, _⟩ := I.tuple h
  obtain ⟨its', r', ⟨o', e', _, n', d'⟩, _⟩ := I.tuple h'
  rw [e] at e'; cases e'
  rw [d] at d'
  injection d' with d1 _
  have : its = its' := by simpa using congrArg Array.toList d1
  subst this
  exact r.inj r'
end
abbrev Cx.wish (X : Cx) (E : Value → Shared → Prop) : Cx := { X with xe := E }
abbrev Cx.nox (X : Cx) : Cx := X.wish fun _ _ => False
theorem Cx.Ok.wish {X : Cx} (ok : X.Ok) (E : Value → Shared → Prop) : (X.wish E).Ok :=
  ⟨ok.mod, ok.kind, ok.glob, ok.blt, ok.above, ok.inj, ok.has, ok.cab, ok.hd, ok.frames, ok.stk, ok.exf, ok.bs, ok.bsz, ok.noex, ok.exfs, ok.funs, ok.frf⟩
theorem Cx.Ok.unwish {X : Cx} {E : Value → Shared → Prop} (ok : (X.wish E).Ok) : X.Ok :=
  ⟨ok.mod, ok.kind, ok.glob, ok.blt, ok.above, ok.inj, ok.has, ok.cab, ok.hd, ok.frames, ok.stk, ok.exf, ok.bs, ok.bsz, ok.noex, ok.exfs, ok.funs, ok.frf⟩
section
variable {X : Cx} {pins : List (Addr × Obj)} {σ : St} {H : Hp} {s : Shared} {E : Value → Shared → Prop}
theorem Inv.wish (I : Inv X pins σ H s) (E : Value → Shared → Prop) : Inv (X.wish E) pins σ H s := ⟨I.ok.wish E, I.os, I.bare, I.base, I.loc, I.cell, I.free, I.freeC, I.pin, I.hok, I.len⟩
theorem Inv.unwish (I : Inv (X.wish E) pins σ H s) : Inv X pins σ H s := ⟨I.ok.unwish, I.os, I.bare, I.base, I.loc, I.cell, I.free, I.freeC, I.pin, I.hok, I.len⟩
theorem SP.unwish {D : Ends} {f : Flow} {s' : Shared} (h : SP (X.wish E) pins D f s') : SP X pins D f s' := by
  cases f with
  | next => obtain ⟨σ', H', I, q⟩ := h; exact ⟨σ', H', I.unwish, q⟩
  | brk => obtain ⟨σ', H', I, q⟩ := h; exact ⟨σ', H', I.unwish, q⟩
  | cont => obtain ⟨σ', H', I, q⟩ := h; exact ⟨σ', H', I.unwish, q⟩
  | ret u => obtain ⟨v, σ', H', I, r, q⟩ := h; exact ⟨v, σ', H', I.unwish, r, q⟩
theorem PE.nox {e : Expr} {t : TE} (h : PE X.nox e t) : PE X e t := fun pins s σ H Q I hw =>
  wpAny_mono (h pins s σ H Q (I.wish _) hw) (fun _ _ ⟨v, H', I', r, q⟩ => ⟨v, H', I'.unwish, r, q⟩) fun _ _ z => False.elim z
theorem PT.nox {e : Expr} {t : TT} (h : PT X.nox e t) : PT X e t := fun pins s σ H Q I hw =>
  wpAny_mono (h pins s σ H Q (I.wish _) hw) (fun _ _ ⟨H', I', q⟩ => ⟨H', I'.unwish, q⟩) fun _ _ z => False.elim z
theorem PSs.nox {st : List Stmt} {t : TS} (h : PSs X.nox st t) : PSs X st t := fun pins s σ H D I hw =>
  wpAny_mono (h pins s σ H D (I.wish _) hw) (fun _ _ q => q.unwish) fun _ _ z => False.elim z
end
section
variable {X : Cx} {st : Stmt} {rest : List Stmt} {t u : TS} {e : Expr} {te : TE} {pos : Pos}
def tNext : TS := fun D σ H => D.nx σ H
def tSeq (t u : TS) : TS := fun D σ H => t { D with nx := u D } σ H
theorem pss_nil : PSs X [] tNext := fun _ _ σ H _ I h => wpAny_execs_nil ⟨σ, H, I, h⟩
theorem pss_cons (h1 : PS X st t) (h2 : PSs X rest u) : PSs X (st :: rest) (tSeq t u) := by
  intro pins s σ H D I h
  refine wpAny_execs_cons (thn (h1 pins s σ H { D with nx := u D } I h) fun f s1 q => ?_)
  cases f with
  | next =>
    obtain ⟨σ', H', I', q⟩ := q
    exact h2 pins s1 σ' H' D I' q
  | ret v => exact q
  | brk => exact q
  | cont => exact q
theorem pss_one (h1 : PS X st t) : PSs X [st] t := by
  intro pins s σ H D I h
  refine wpAny_execs_cons (thn (h1 pins s σ H D I h) fun f s1 q => ?_)
  cases f with
  | next => exact wpAny_execs_nil q
  | ret v => exact q
  | brk => exact q
  | cont => exact q
theorem Inv.quiet {pins : List (Addr × Obj)} {σ : St} {H : Hp} {s : Shared} (I : Inv X pins σ H s) : interactive X.env = false := by simp [interactive, I.ok.kind]
def tDrop (te : TE) : TS := fun D σ H => te σ H fun _ H1 => D.nx σ H1
theorem ps_expr (he : PE X e te) (hs : swapsWith e none pos.line X.env = pure false := by rfl) : PS X (.Expr e pos) (tDrop te) := by
  intro pins s σ H D I h
  exact wpAny_Expr_any (thn (he pins s σ H _ I h) fun v s1 ⟨x, H1, I1, r1, q1⟩ => ⟨σ, H1, I1, q1⟩) I.quiet hs
def tRet (te : TE) : TS := fun D σ H => te σ H D.rt
theorem ps_ret (he : PE X e te) : PS X (.Return (some e) pos) (tRet te) := by
  intro pins s σ H D I h
  exact wpAny_Return_some (thn (he pins s σ H _ I h) fun v s1 ⟨x, H1, I1, r1, q1⟩ => ⟨x, σ, H1, I1, r1, q1⟩)
def tIfS (c : TT) (t u : TS) : TS := fun D σ H => c σ H fun b H1 => if b = true then t D σ H1 else u D σ H1
theorem ps_if {c : Expr} {a b : List Stmt} {tc : TT} (hc : PT X c tc) (ha : PSs X a t) (hb : PSs X b u) : PS X (.If c a b pos) (tIfS tc t u) := by
  intro pins s σ H D I h
  refine wpAny_If (thn (hc pins s σ H _ I h) fun d s1 ⟨H1, I1, q1⟩ => ?_)
  cases d with
  | true => exact ha pins s1 σ H1 D I1 q1
  | false => exact hb pins s1 σ H1 D I1 q1
def tNever : TS := fun _ _ _ => False
theorem pss_never {sts : List Stmt} : PSs X sts tNever := fun _ _ _ _ _ _ h => h.elim
end
abbrev TG := V → St → Hp → (St → Hp → Prop) → Prop
abbrev TGs := List V → St → Hp → (St → Hp → Prop) → Prop
def PG (X : Cx) (target : Expr) (t : TG) : Prop :=
  ∀ (pins : List (Addr × Obj)) (s : Shared) (σ : St) (H : Hp) (v : V) (u : Value) (Q : St → Hp → Prop), Inv X pins σ H s → RelV v u → t v σ H Q →
    wpAny (model X.prog X.w) X.A (assign target X.env u) (fun _ s' => ∃ σ' H', Inv X pins σ' H' s' ∧ Q σ' H') X.xe s
def PGs (X : Cx) (ts : List Expr) (t : TGs) : Prop :=
  ∀ (pins : List (Addr × Obj)) (s : Shared) (σ : St) (H : Hp) (vs : List V) (us : List Value) (Q : St → Hp → Prop), Inv X pins σ H s → Vals vs us → t vs σ H Q →
    wpAny (model X.prog X.w) X.A (assignInOrder ((assignEach ts X.env).map (·.2)) us) (fun _ s' => ∃ σ' H', Inv X pins σ' H' s' ∧ Q σ' H') X.xe s
abbrev TSet := V → V → V → Hp → (Hp → Prop) → Prop
def PSet (X : Cx) (t : TSet) : Prop :=
  ∀ (pins : List (Addr × Obj)) (s : Shared) (σ : St) (H : Hp) (o i v : V) (ov iv u : Value) (Q : Hp → Prop), Inv X pins σ H s → RelV o ov → RelV i iv → RelV v u → t o i v H Q →
    wpAny (model X.prog X.w) X.A (setItem ov iv u) (fun _ s' => ∃ H', Inv X pins σ H' s' ∧ Q H') X.xe s
abbrev TIp := V → V → Hp → VK → Prop
def PIp (X : Cx) (op : Operator) (t : TIp) : Prop :=
  ∀ (pins : List (Addr × Obj)) (s : Shared) (σ : St) (H : Hp) (x y : V) (v u : Value) (Q : VK), Inv X pins σ H s → RelV x v → RelV y u → t x y H Q →
    wpAny (model X.prog X.w) X.A (inplaceOp op v u) (EP X pins σ Q) X.xe s
section
variable {X : Cx} {pos : Pos}
def gName (i : Nat) : TG := fun v σ H Q => Q (σ.set i (some v)) H
theorem pg_name {i : Nat} {x : Str} (hN : X.N.Nodup) (hi : X.N[i]? = some x) (hx : Loc X.env.scope x) (hf : X.fn x = true ∨ X.env.scope.names.lookup x = some .local := by first | exact .inl rfl | exact .inr rfl | assumption) : PG X (.Name x pos) (gName i) := by
  intro pins s σ H v u Q I r h
  exact wpAny_assign_Name (store_ok I hN hi hx r (fun s' I' => ⟨_, H, I', h⟩) hf)
def gNil : TGs := fun vs σ H Q => vs = [] ∧ Q σ H
def gCons (t : TG) (u : TGs) : TGs := fun vs σ H Q => ∃ v r, vs = v :: r ∧ t v σ H fun σ' H' => u r σ' H' Q
theorem pgs_nil : PGs X [] gNil := by
  intro pins s σ H vs us Q I r h
  obtain ⟨e, h⟩ := h
  subst e
  cases r
  exact assignInOrder_nil ⟨σ, H, I, h⟩
theorem pgs_cons {e : Expr} {es : List Expr} {t : TG} {u : TGs} (h1 : PG X e t) (h2 : PGs X es u)
    (hs : (assignEach (e :: es) X.env).map (·.2) = assign e X.env :: (assignEach es X.env).map (·.2) := by rfl) : PGs X (e :: es) (gCons t u) := by
  intro pins s σ H vs us Q I r h
  obtain ⟨v, vr, e1, h⟩ := h
  subst e1
  cases r with
  | cons r rr =>
    rw [hs]
    refine assignInOrder_cons (thn (h1 pins s σ H _ _ _ I r h) fun _ s1 ⟨σ1, H1, I1, q1⟩ => ?_)
    exact h2 pins s1 σ1 H1 _ _ Q I1 rr q1
def gTup (K : PySem.W.Frag) (n : Nat) (t : TGs) : TG := fun v σ H Q => ∃ a xs, v = .ref a ∧ SqT K H a xs ∧ xs.length = n ∧ t xs σ H Q
theorem pg_tup {es : List Expr} {k : Nat} {t : TGs} {n : Nat} (hc : X.calm = true) (h : PGs X es t)
    (hn : (assignEach es X.env).length = n := by rfl) (hst : (assignEach es X.env).findIdx? (·.1) = none := by rfl) : PG X (.Tuple es k pos) (gTup X.K n t) := by
  intro pins s σ H v u Q I r hw
  obtain ⟨a, xs, e1, hq, hl, hw⟩ := hw
  subst e1
  cases r
  obtain ⟨its, rv, ht, hz⟩ := I.tuple hq
  refine assign_Tuple_tuple (I.ok.hd hc) ht (by simp [hn, ← hl, rv.length]) hst fun h' hx => ?_
  have I1 : Inv X pins σ H { s with heap := h' } := I.kept (t' := s.toks) fun b o e => hx b o (Nat.ne_of_lt (Heap.lt_size e)) e
  exact h pins _ σ H xs _ Q I1 (by simpa using rv) hw
def gSub (to ti : TE) (t : TSet) : TG := fun v σ H Q => to σ H fun o H1 => ti σ H1 fun i H2 => t o i v H2 fun H3 => Q σ H3
theorem pg_sub {o i : Expr} {to ti : TE} {t : TSet} (ho : PE X o to) (hi : PE X i ti) (hs : PSet X t)
    (ha : ∀ v, assign (.Subscript o i pos) X.env v = (do
      let ov ← holding [v] (eval o X.env)
      let iv ← holding [v, ov] (eval i X.env)
      standAt pos
      holding [v, ov, iv] (setItem ov iv v)
      release [v, ov, iv] []) := by intro _; rfl) : PG X (.Subscript o i pos) (gSub to ti t) := by
  intro pins s σ H v u Q I r h
  rw [ha]
  refine wpAny_bind (wpAny_holding (thn (ho pins s σ H _ I h) fun ov s1 ⟨x, H1, I1, r1, q1⟩ => ?_))
  refine wpAny_bind (wpAny_holding (thn (hi pins s1 σ H1 _ I1 q1) fun iv s2 ⟨y, H2, I2, r2, q2⟩ => ?_))
  refine wpAny_bind (wpAny_standAt (wpAny_bind (wpAny_holding (thn (hs pins s2 σ H2 x y v ov iv u _ I2 r1 r2 r q2) fun _ s3 ⟨H3, I3, q3⟩ => ?_))))
  exact wpAny_release ⟨σ, H3, I3, q3⟩
def tAsg (te : TE) (g : TG) : TS := fun D σ H => te σ H fun x H1 => g x σ H1 D.nx
theorem ps_asg {tg e : Expr} {te : TE} {g : TG} (he : PE X e te) (hg : PG X tg g) (hs : swapsWithSole [tg] e pos.line X.env = pure false := by rfl) (hw : swappedStores [tg] e X.env = pure none := by rfl)
    (h1 : (assignEach [tg] X.env).map (·.2) = [assign tg X.env] := by rfl) : PS X (.Assign [tg] e pos) (tAsg te g) := by
  intro pins s σ H D I h
  refine wpAny_Assign_stores (thn (he pins s σ H _ I h) fun v s1 ⟨x, H1, I1, r1, q1⟩ => ?_) hs hw
  rw [h1]
  exact thn (hg pins s1 σ H1 x v _ I1 r1 q1) fun _ s2 q => q
theorem ps_set {i : Nat} {x : Str} {e : Expr} {te : TE} {pos' : Pos} (hN : X.N.Nodup) (hi : X.N[i]? = some x) (hx : Loc X.env.scope x) (he : PE X e te) (hs : swapsWith e (some (.Name x pos')) pos.line X.env = pure false := by rfl) (hf : X.fn x = true ∨ X.env.scope.names.lookup x = some .local := by first | exact .inl rfl | exact .inr rfl | assumption) :
    PS X (.Assign [.Name x pos'] e pos) (tAsg te (gName i)) := by
  intro pins s σ H D I h
  refine wpAny_Assign_Name (thn (he pins s σ H _ I h) fun v s1 ⟨y, H1, I1, r1, q1⟩ => ?_) hs
  exact store_ok I1 hN hi hx r1 (fun s2 I2 => ⟨_, H1, I2, q1⟩) hf
def tAug (i : Nat) (te : TE) (ti : TIp) : TS := fun D σ H => ∃ x, σ[i]? = some (some x) ∧ te σ H fun y H1 => ti x y H1 fun z H2 => D.nx (σ.set i (some z)) H2
theorem ps_aug {i : Nat} {x : Str} {e : Expr} {te : TE} {op : Operator} {ti : TIp} {pos' : Pos} (hN : X.N.Nodup) (hi : X.N[i]? = some x) (hx : Loc X.env.scope x) (he : PE X e te) (ho : PIp X op ti) (hf : X.fn x = true ∨ X.env.scope.names.lookup x = some .local := by first | exact .inl rfl | exact .inr rfl | assumption) :
    PS X (.AugAssign (.Name x pos') op e pos) (tAug i te ti) := by
  intro pins s σ H D I h
  obtain ⟨v, e1, h⟩ := h
  obtain ⟨m, hn, hl⟩ := I.loc
  have vis : Vis X.env.scope x := by rcases hx with k | k; exact .inl k; exact .inr (.inl k)
  obtain ⟨u, r, l⟩ := hl i x v hi e1 vis
  refine wpAny_AugAssign_Name ?_
  have go : wpAny (model X.prog X.w) X.A (eval e X.env) (fun w s₂ => wpAny (model X.prog X.w) X.A (inplaceOp op u w) (fun r s₃ => wpAny (model X.prog X.w) X.A (storeName X.env x r) (fun _ => SP X pins D .next) X.xe s₃) X.xe s₂) X.xe s := by
    refine thn (he pins s σ H _ I h) fun w s1 ⟨y, H1, I1, r1, q1⟩ => ?_
    refine thn (ho pins s1 σ H1 v y u w _ I1 r r1 q1) fun z s2 ⟨zv, H2, I2, r2, q2⟩ => ?_
    exact store_ok I2 hN hi hx r2 (fun s3 I3 => ⟨_, H2, I3, q2⟩) hf
  rcases l with ⟨hk, hm⟩ | ⟨hk, c, hc, hcell⟩
  · exact wpAny_loadName_local I.ok.kind hk hn hm go
  · rcases hk with hk | hk
    · exact wpAny_loadName_cell I.ok.kind hk hc hcell go
    · rcases hx with k | k
      · have : X.env.scope.names.lookup x = some .free := hk
        rw [k] at this; cases this
      · have : X.env.scope.names.lookup x = some .free := hk
        rw [k] at this; cases this
def ipI (f : Int → Int → Int) : TIp := fun x y H Q => ∃ i j, x = .int i ∧ y = .int j ∧ Q (.int (f i j)) H
theorem ip_add : PIp X .Add (ipI fun i j => i + j) := by
  intro pins s σ H x y v u Q I r1 r2 h
  obtain ⟨i, j, e1, e2, q⟩ := h
  subst e1; subst e2
  obtain ⟨t, rfl⟩ := r1
  obtain ⟨t', rfl⟩ := r2
  exact iadd_int ⟨.int _, H, I.tok _, ⟨_, rfl⟩, q⟩
theorem ip_sub : PIp X .Sub (ipI fun i j => i - j) := by
  intro pins s σ H x y v u Q I r1 r2 h
  obtain ⟨i, j, e1, e2, q⟩ := h
  subst e1; subst e2
  obtain ⟨t, rfl⟩ := r1
  obtain ⟨t', rfl⟩ := r2
  exact isub_int ⟨.int _, H, I.tok _, ⟨_, rfl⟩, q⟩
end
section
variable {X : Cx} {pos : Pos}
def tWhile (c : TT) (tb : TS) : TS := fun D σ H => ∃ W : Nat → St → Hp → Prop, (∃ m, W m σ H) ∧ ∀ m σ H, W m σ H →
  c σ H fun b H1 => if b = true then ∃ N : St → Hp → Prop, (∀ σ' H', N σ' H' → ∃ m', m' < m ∧ W m' σ' H') ∧ tb { D with nx := N, ct := N, bk := D.nx } σ H1 else D.nx σ H1
theorem ps_while {c : Expr} {body : List Stmt} {tc : TT} {tb : TS} (hp : PassesOwn (model X.prog X.w) X.A X.env X.xe) (hc : PT X c tc) (hb : PSs X body tb) : PS X (.While c body [] pos) (tWhile tc tb) := by
  intro pins s σ H D I h
  obtain ⟨W, ⟨m0, w0⟩, turn⟩ := h
  refine wpAny_While (codeAny_whileLoop (fun n s' => ∃ σ' H', Inv X pins σ' H' s' ∧ W n σ' H') ?_ m0 ⟨σ, H, I, w0⟩)
  rintro n s1 ⟨σ1, H1, I1, w1⟩
  refine wpAny_passesOwn hp (thn (hc pins s1 σ1 H1 _ I1 (turn n σ1 H1 w1)) fun b s2 ⟨H2, I2, q2⟩ => ?_)
  cases b with
  | true =>
    obtain ⟨N, hN, q2⟩ := q2
    rw [if_pos rfl]
    refine wpAny_passesOwn hp (thn (hb pins s2 σ1 H2 _ I2 q2) fun f s3 q3 => ?_)
    cases f with
    | next =>
      obtain ⟨σ3, H3, I3, n3⟩ := q3
      obtain ⟨m', hm, w3⟩ := hN σ3 H3 n3
      exact ⟨m', hm, σ3, H3, I3, w3⟩
    | cont =>
      obtain ⟨σ3, H3, I3, n3⟩ := q3
      obtain ⟨m', hm, w3⟩ := hN σ3 H3 n3
      exact ⟨m', hm, σ3, H3, I3, w3⟩
    | brk => exact q3
    | ret v => exact q3
  | false =>
    rw [if_neg Bool.false_ne_true]
    exact wpAny_execs_nil ⟨σ1, H2, I2, q2⟩
end
structure It where
  go : Nat → Hp → Prop
  yld : Nat → Hp → V → Hp → Prop
  stop : Nat → Hp → Prop
def FpOk (X : Cx) (pins : List (Addr × Obj)) (H : Hp) (b : Addr) : Prop :=
  H b = none ∧ b ≠ X.env.locals ∧ b ∉ X.fs ∧ (b ∈ X.ex ∨ X.s₀.heap.objs.size ≤ b) ∧ (∀ x c, X.env.cells.lookup x = some c → c ≠ b) ∧ ∀ p ∈ X.pn ++ pins, p.1 ≠ b
theorem Inv.fpOk {X : Cx} {pins : List (Addr × Obj)} {σ : St} {H H' : Hp} {s : Shared} {b : Addr} (I : Inv X pins σ H s) (hb : s.heap.objs.size ≤ b) (hn : H' b = none) : FpOk X pins H' b := by
  refine ⟨hn, Nat.ne_of_gt (Nat.lt_of_lt_of_le I.lt hb), I.nofs hb, .inr (Nat.le_trans I.sz hb), fun x c e z => ?_, fun p hp z => ?_⟩
  · obtain ⟨v, q⟩ := I.cell x c e
    exact absurd (Nat.lt_of_lt_of_le q.lt (by rw [z]; exact hb)) (Nat.lt_irrefl _)
  · exact absurd (Nat.lt_of_lt_of_le (Heap.lt_size (I.pin p hp).1) (by rw [z]; exact hb)) (Nat.lt_irrefl _)
structure Turn (P : Program) (w : World) (K : PySem.W.Frag) (tg : Expr) (J : It) (fp : List Addr) (it : Addr) (tn : Nat → Heap → Prop) : Prop where
  mem : it ∈ fp
  obj : ∀ i h, tn i h → ∀ b ∈ fp, ∃ o, h.get? b = some o ∧ ∀ v, o.data ≠ .cell v
  keep : ∀ i h h', tn i h → (∀ b ∈ fp, ∀ o, h.get? b = some o → h'.get? b = some o) → tn i h'
  item : ∀ (X : Cx), X.prog = P → X.w = w → X.K = K → X.calm = true → ∀ (i : Nat) (pins : List (Addr × Obj)) (s : Shared) (σ : St) (H : Hp) (E : Value → Shared → Prop), Inv X pins σ H s → (∀ b ∈ fp, FpOk X pins H b) → tn i s.heap → J.go i H →
    wpAny (model P w) X.A (pyNext (.ref it)) (fun r s1 => ∃ u, r = some u ∧
      wpAny (model P w) X.A (letOwnedTupleGo tg (.ref it) u) (fun _ s2 => ∃ x H', Inv X pins σ H' s2 ∧ RelV x u ∧ J.yld i H x H' ∧ tn (i + 1) s2.heap ∧ ∀ b ∈ fp, H' b = none) E s1) E s
  done : ∀ (X : Cx), X.prog = P → X.w = w → X.K = K → X.calm = true → ∀ (i : Nat) (pins : List (Addr × Obj)) (s : Shared) (σ : St) (H : Hp) (E : Value → Shared → Prop), Inv X pins σ H s → (∀ b ∈ fp, FpOk X pins H b) → tn i s.heap → J.stop i H →
    wpAny (model P w) X.A (pyNext (.ref it)) (fun r s1 => r = none ∧ Inv X pins σ H s1) E s
  self : ∀ (A : Around) (i : Nat) (s : Shared) (Q : Value → Shared → Prop) (E : Value → Shared → Prop), tn i s.heap → Q (.ref it) s → wpAny (model P w) A (pyIter (.ref it)) Q E s
abbrev TI := St → Hp → (It → Hp → Prop) → Prop
def PIE (X : Cx) (pins : List (Addr × Obj)) (σ : St) (tg : Expr) (R : It → Hp → Prop) (itv : Value) (s2 : Shared) : Prop :=
  ∃ (it : Addr) (fp : List Addr) (tn : Nat → Heap → Prop) (J : It) (H' : Hp), itv = .ref it ∧ Inv X pins σ H' s2 ∧ Turn X.prog X.w X.K tg J fp it tn ∧ tn 0 s2.heap ∧ (∀ b ∈ fp, FpOk X pins H' b) ∧ R J H'
def PI (X : Cx) (tg iter : Expr) (wi : TI) : Prop :=
  ∀ (pins : List (Addr × Obj)) (s : Shared) (σ : St) (H : Hp) (R : It → Hp → Prop), Inv X pins σ H s → wi σ H R →
    wpAny (model X.prog X.w) X.A (eval iter X.env) (fun v s1 => wpAny (model X.prog X.w) X.A (pyIter v) (PIE X pins σ tg R) X.xe s1) X.xe s
theorem go_of {M : Model} {A : Around} {E : Value → Shared → Prop} {s : Shared} {tg : Expr} {it : Addr} {u : Value} {o : Obj} {n : String} {vs : Array Value} {Q : Unit → Shared → Prop} (ho : s.heap.get? it = some o) (hc : o.cls = .type n) (hd : o.data = .fields vs)
    (hn : ["enumerate", "zip", "dict_itemiterator", "dict_reverseitemiterator", "odict_iterator", "itertools.zip_longest", "itertools.pairwise"].contains n = false) (hQ : Q () s) : wpAny M A (letOwnedTupleGo tg (.ref it) u) Q E s := by
  unfold letOwnedTupleGo
  cases tg <;> first
    | exact wpAny_pure hQ
    | (cases u <;> first
        | exact wpAny_pure hQ
        | (refine wpAny_bind (wpAny_load ho ?_)
           rw [hc, hd]
           show wpAny M A (if (["enumerate", "zip", "dict_itemiterator", "dict_reverseitemiterator", "odict_iterator", "itertools.zip_longest", "itertools.pairwise"].contains n && vs[0]? == some (rawInt _)) = true then _ else _) Q E s
           rw [if_neg (by intro h; rw [hn, Bool.false_and] at h; cases h)]
           exact wpAny_pure hQ))
def Itl (K : PySem.W.Frag) (a : Addr) : It :=
  ⟨fun i H => ∃ xs x, SqL K H a xs ∧ xs[i]? = some x, fun i H x H' => H' = H ∧ ∀ xs, SqL K H a xs → xs[i]? = some x, fun i H => ∃ xs, SqL K H a xs ∧ xs.length ≤ i⟩
def Itt (K : PySem.W.Frag) (a : Addr) : It :=
  ⟨fun i H => ∃ xs x, SqT K H a xs ∧ xs[i]? = some x, fun i H x H' => H' = H ∧ ∀ xs, SqT K H a xs → xs[i]? = some x, fun i H => ∃ xs, SqT K H a xs ∧ xs.length ≤ i⟩
def Itr (lo : Int) (n : Nat) : It := ⟨fun i _ => i < n, fun i H x H' => H' = H ∧ x = .int (lo + i), fun i _ => n ≤ i⟩
theorem turn_list {P : Program} {w : World} {K : PySem.W.Frag} {tg : Expr} (a it : Addr) : Turn P w K tg (Itl K a) [it] it (fun i h => h.IsListIter it a i) where
  mem := by simp
  obj := fun i h st b hb => by
    have e : b = it := by simpa using hb
    subst e
    obtain ⟨o, e, c, d⟩ := st
    exact ⟨o, e, fun v z => by rw [d] at z; cases z⟩
  keep := fun i h h' st k => st.at fun o e => k it (by simp) o e
  item := by
    intro X hP hw hK hc i pins s σ H E I hf st hg
    subst hP hw hK
    obtain ⟨xs, x, hq, hx⟩ := hg
    obtain ⟨its, rv, p, hz⟩ := I.list hq
    obtain ⟨u, hu, ru⟩ := rv.get hx
    obtain ⟨f0, f1, f2, f3, f4, f5⟩ := hf it (by simp)
    refine wpAny_pyNext_list_item st p.isList (x := u) (by simpa using hu) fun h' st' sb => ?_
    have I1 : Inv X pins σ H { s with heap := h' } := I.turned (t' := s.toks) (fun b o hb e => (sb.2 b hb).trans e) f0 f1 f3 f4 f5
    obtain ⟨o, e, c, d⟩ := id st'
    exact ⟨u, rfl, go_of (s := { s with heap := h' }) e c d (by decide) ⟨x, H, I1, ru, ⟨rfl, fun ys hy => by rw [I.list_inj hy hq]; exact hx⟩, st', fun b hb => (hf b hb).1⟩⟩
  done := by
    intro X hP hw hK hc i pins s σ H E I hf st hg
    subst hP hw hK
    obtain ⟨xs, hq, hx⟩ := hg
    obtain ⟨its, rv, p, hz⟩ := I.list hq
    obtain ⟨f0, f1, f2, f3, f4, f5⟩ := hf it (by simp)
    have hl := rv.length
    exact wpAny_pyNext_list_end (I.ok.hd hc) st p.isList (by simp; omega) fun h' eb => ⟨rfl, I.turned (t' := s.toks) (fun b o hb e => eb b o hb e) f0 f1 f3 f4 f5⟩
  self := fun _ _ _ _ _ st h => wpAny_pyIter_listiter st h
theorem turn_tuple {P : Program} {w : World} {K : PySem.W.Frag} {tg : Expr} (a it : Addr) : Turn P w K tg (Itt K a) [it] it (fun i h => h.IsTupleIter it a i) where
  mem := by simp
  obj := fun i h st b hb => by
    have e : b = it := by simpa using hb
    subst e
    obtain ⟨o, e, c, d⟩ := st
    exact ⟨o, e, fun v z => by rw [d] at z; cases z⟩
  keep := fun i h h' st k => st.at fun o e => k it (by simp) o e
  item := by
    intro X hP hw hK hc i pins s σ H E I hf st hg
    subst hP hw hK
    obtain ⟨xs, x, hq, hx⟩ := hg
    obtain ⟨its, rv, p, hz⟩ := I.tuple hq
    obtain ⟨u, hu, ru⟩ := rv.get hx
    obtain ⟨f0, f1, f2, f3, f4, f5⟩ := hf it (by simp)
    refine wpAny_pyNext_tuple_item st (show s.heap.IsTuple a its.toArray from p) (x := u) (by simpa using hu) fun h' st' sb => ?_
    have I1 : Inv X pins σ H { s with heap := h' } := I.turned (t' := s.toks) (fun b o hb e => (sb.2 b hb).trans e) f0 f1 f3 f4 f5
    obtain ⟨o, e, c, d⟩ := id st'
    exact ⟨u, rfl, go_of (s := { s with heap := h' }) e c d (by decide) ⟨x, H, I1, ru, ⟨rfl, fun ys hy => by rw [I.tuple_inj hy hq]; exact hx⟩, st', fun b hb => (hf b hb).1⟩⟩
  done := by
    intro X hP hw hK hc i pins s σ H E I hf st hg
    subst hP hw hK
    obtain ⟨xs, hq, hx⟩ := hg
    obtain ⟨its, rv, p, hz⟩ := I.tuple hq
    obtain ⟨f0, f1, f2, f3, f4, f5⟩ := hf it (by simp)
    have hl := rv.length
    exact wpAny_pyNext_tuple_end (I.ok.hd hc) st (show s.heap.IsTuple a its.toArray from p) (by simp; omega) fun h' eb => ⟨rfl, I.turned (t' := s.toks) (fun b o hb e => eb b o hb e) f0 f1 f3 f4 f5⟩
  self := fun _ _ _ _ _ st h => wpAny_pyIter_tupleiter st h
theorem turn_range {P : Program} {w : World} {K : PySem.W.Frag} {tg : Expr} (it : Addr) (lo : Int) (n : Nat) : Turn P w K tg (Itr lo n) [it] it (fun i h => IsRangeIter h it (lo + (i : Nat) * 1) ((n : Int) - (i : Nat)) 1) where
  mem := by simp
  obj := fun i h st b hb => by
    have e : b = it := by simpa using hb
    subst e
    exact ⟨_, st, fun v z => by
      have z' : Data.fields _ = Data.cell v := z
      cases z'⟩
  keep := fun i h h' st k => k it (by simp) _ st
  item := by
    intro X hP hw hK hc i pins s σ H E I hf st hg
    subst hP hw hK
    obtain ⟨f0, f1, f2, f3, f4, f5⟩ := hf it (by simp)
    have W := Walks.range (prog := X.prog) (w := X.w) (I.ok.hd hc) it lo 1 n
    refine W.item i s _ _ hg st fun v h' tk hv st' kk => ?_
    obtain ⟨t, rfl⟩ := hv
    have I1 : Inv X pins σ H { s with heap := h', toks := tk } := I.turned (fun b o hb e => kk b o (by simpa using hb) e) f0 f1 f3 f4 f5
    refine ⟨_, rfl, go_of (s := { s with heap := h', toks := tk }) (n := "range_iterator") st' rfl rfl (by decide) ⟨.int (lo + i), H, I1, ⟨t, ?_⟩, ⟨rfl, rfl⟩, st', fun b hb => (hf b hb).1⟩⟩
    rw [Int.mul_one]
  done := by
    intro X hP hw hK hc i pins s σ H E I hf st hg
    subst hP hw hK
    obtain ⟨f0, f1, f2, f3, f4, f5⟩ := hf it (by simp)
    exact wpAny_pyNext_range_end (I.ok.hd hc) st (by have : n ≤ i := hg; omega) fun h' eb => ⟨rfl, I.turned (t' := s.toks) (fun b o hb e => eb b o hb e) f0 f1 f3 f4 f5⟩
  self := fun _ _ _ _ _ st h => wpAny_pyIter_rangeiter st h
end L2
namespace L2
open PySem PySem.Spec PyProof.Rows
section
variable {X : Cx} {tg : Expr}
def iList (K : PySem.W.Frag) (tl : TE) : TI := fun σ H R => tl σ H fun x H1 => ∃ a, x = .ref a ∧ (∃ xs, SqL K H1 a xs) ∧ R (Itl K a) H1
def iTup (K : PySem.W.Frag) (tl : TE) : TI := fun σ H R => tl σ H fun x H1 => ∃ a, x = .ref a ∧ (∃ xs, SqT K H1 a xs) ∧ R (Itt K a) H1
theorem pi_list {l : Expr} {tl : TE} (hl : PE X l tl) : PI X tg l (iList X.K tl) := by
  intro pins s σ H R I h
  refine thn (hl pins s σ H _ I h) fun v s1 ⟨x, H1, I1, r1, q1⟩ => ?_
  obtain ⟨a, e, ⟨xs, hq⟩, q⟩ := q1
  subst e
  cases r1
  obtain ⟨its, rv, p, hz⟩ := I1.list hq
  refine wpAny_pyIter_list p.isList ?_
  refine ⟨s1.heap.objs.size, [s1.heap.objs.size], _, _, H1, rfl, I1.kept (t' := s1.toks) fun b o e => Heap.get?_push_of_some _ e, turn_list a _, ⟨_, Heap.get?_push_size _ rfl, rfl, rfl⟩, fun b hb => ?_, q⟩
  have e : b = s1.heap.objs.size := by simpa using hb
  subst e
  exact I1.fpOk (Nat.le_refl _) (I1.hok.fresh (Nat.le_refl _))
theorem pi_tup {l : Expr} {tl : TE} (hl : PE X l tl) : PI X tg l (iTup X.K tl) := by
  intro pins s σ H R I h
  refine thn (hl pins s σ H _ I h) fun v s1 ⟨x, H1, I1, r1, q1⟩ => ?_
  obtain ⟨a, e, ⟨xs, hq⟩, q⟩ := q1
  subst e
  cases r1
  obtain ⟨its, rv, p, hz⟩ := I1.tuple hq
  refine wpAny_pyIter_tuple (show s1.heap.IsTuple a its.toArray from p) ?_
  refine ⟨s1.heap.objs.size, [s1.heap.objs.size], _, _, H1, rfl, I1.kept (t' := s1.toks) fun b o e => Heap.get?_push_of_some _ e, turn_tuple a _, ⟨_, Heap.get?_push_size _ rfl, rfl, rfl⟩, fun b hb => ?_, q⟩
  have e : b = s1.heap.objs.size := by simpa using hb
  subst e
  exact I1.fpOk (Nat.le_refl _) (I1.hok.fresh (Nat.le_refl _))
theorem range_it {pins : List (Addr × Obj)} {σ : St} {H : Hp} {s : Shared} {R : It → Hp → Prop} {E : Value → Shared → Prop} {lo hi : Int} {t u v : Tok} {tk : Nat} (I : Inv X pins σ H s) (h1 : -(2 ^ 62) ≤ lo) (h2 : lo < 2 ^ 62) (h3 : -(2 ^ 62) ≤ hi) (h4 : hi < 2 ^ 62)
    (q : R (Itr lo (hi - lo).toNat) H) : wpAny (model X.prog X.w) X.A (pyIter (.ref s.heap.objs.size)) (PIE X pins σ tg R) E { s with heap := s.heap.push { cls := .type "range", data := .fields #[.int lo t, .int hi u, .int 1 v] }, toks := tk } := by
  refine wpAny_pyIter_range (IsRange.new ..) (small_one h1 h2 h3 h4) ?_
  have I1 : Inv X pins σ H { s with heap := s.heap.push { cls := .type "range", data := .fields #[.int lo t, .int hi u, .int 1 v] }, toks := tk } := I.kept fun b o e => Heap.get?_push_of_some _ e
  refine ⟨(s.heap.push { cls := .type "range", data := .fields #[.int lo t, .int hi u, .int 1 v] }).objs.size, [(s.heap.push { cls := .type "range", data := .fields #[.int lo t, .int hi u, .int 1 v] }).objs.size], _, _, H, rfl,
    I1.kept (t' := tk) fun b o e => Heap.get?_push_of_some _ e, turn_range _ lo (hi - lo).toNat, ?_, fun b hb => ?_, q⟩
  · have e1 : lo + ((0 : Nat) : Int) * 1 = lo := by simp
    have e2 : (((hi - lo).toNat : Nat) : Int) - ((0 : Nat) : Int) = Builtin.Range.rangeSize lo hi 1 := by rw [rangeSize_one]; split <;> omega
    show IsRangeIter _ _ (lo + ((0 : Nat) : Int) * 1) ((((hi - lo).toNat : Nat) : Int) - ((0 : Nat) : Int)) 1
    rw [e1, e2]
    exact Heap.get?_push_size _ rfl
  · have e : b = (s.heap.push { cls := .type "range", data := .fields #[.int lo t, .int hi u, .int 1 v] }).objs.size := by simpa using hb
    subst e
    exact I1.fpOk (Nat.le_refl _) (I1.hok.fresh (Nat.le_refl _))
def iRng1 (ta : TA) : TI := fun σ H R => ta σ H fun vs H1 => ∃ j : Int, vs = [.int j] ∧ -(2 ^ 62) ≤ j ∧ j < 2 ^ 62 ∧ R (Itr 0 j.toNat) H1
theorem pi_range1 {a : Expr} {ta : TA} {p pos : Pos} (hg : Gl X "range") (hm : X.mg "range" = none) (ha : PA X [a] ta) (hs : starEach [a] X.env = [(false, eval a X.env)] := by rfl) : PI X tg (.Call (.Name "range" p) [a] [] pos) (iRng1 ta) := by
  intro pins s σ H R I h
  refine Call_ (ld_blt I hg hm boot_range (PyProof.Rows.callWith_type1 (thn (ha pos pins s σ H _ I h) fun us s1 ⟨vs, H1, I1, r1, q1⟩ => ?_) hs rfl))
  obtain ⟨j, e, q1, q2, q⟩ := q1
  subst e
  cases r1 with
  | cons r rr =>
    cases rr
    obtain ⟨t, rfl⟩ := r
    exact call_range_1 (range_it I1 (by omega) (by omega) q1 q2 (by simpa using q))
def tFor (wi : TI) (g : TG) (tb : TS) : TS := fun D σ H => wi σ H fun J H1 => ∃ W : Nat → Nat → St → Hp → Prop, (∃ m, W 0 m σ H1) ∧ ∀ i m σ H, W i m σ H →
  (J.stop i H ∧ D.nx σ H) ∨ (J.go i H ∧ ∃ N : St → Hp → Prop, (∀ σ' H', N σ' H' → ∃ m', m' < m ∧ W (i + 1) m' σ' H') ∧ ∀ x H', J.yld i H x H' → g x σ H' fun σ2 H2 => tb { D with nx := N, ct := N, bk := D.nx } σ2 H2)
def pinsAt (fp : List Addr) (h : Heap) : List (Addr × Obj) := fp.filterMap fun b => (h.get? b).map fun o => (b, o)
theorem mem_pinsAt {fp : List Addr} {h : Heap} {b : Addr} {o : Obj} (hb : b ∈ fp) (e : h.get? b = some o) : (b, o) ∈ pinsAt fp h := List.mem_filterMap.mpr ⟨b, hb, by rw [e]; rfl⟩
theorem of_pinsAt {fp : List Addr} {h : Heap} {p : Addr × Obj} (hp : p ∈ pinsAt fp h) : p.1 ∈ fp ∧ h.get? p.1 = some p.2 := by
  obtain ⟨b, hb, e⟩ := List.mem_filterMap.mp hp
  cases q : h.get? b with
  | none => rw [q] at e; cases e
  | some o =>
    rw [q] at e
    have e' : (b, o) = p := Option.some.inj e
    subst e'
    exact ⟨hb, q⟩
theorem Inv.pinned {pins : List (Addr × Obj)} {σ : St} {H : Hp} {s : Shared} {fp : List Addr} (I : Inv X pins σ H s) (hf : ∀ b ∈ fp, FpOk X pins H b) (ho : ∀ b ∈ fp, ∃ o, s.heap.get? b = some o ∧ ∀ v, o.data ≠ .cell v) : Inv X (pins ++ pinsAt fp s.heap) σ H s :=
  I.pins_of fun p hp => (List.mem_append.mp hp).elim (fun z => I.pin p (List.mem_append_right _ z)) fun z => by
    obtain ⟨hb, e⟩ := of_pinsAt z
    obtain ⟨f0, f1, f2, _⟩ := hf p.1 hb
    obtain ⟨o, e', d⟩ := ho p.1 hb
    rw [e] at e'; cases e'
    exact ⟨e, f0, f1, f2, d⟩
theorem Inv.unpinned {pins pl : List (Addr × Obj)} {σ : St} {H : Hp} {s : Shared} (I : Inv X (pins ++ pl) σ H s) : Inv X pins σ H s := I.pins_of fun p hp => I.pin p (List.mem_append_right _ (List.mem_append_left _ hp))
theorem ps_for {iter : Expr} {body : List Stmt} {wi : TI} {g : TG} {tb : TS} {pos : Pos} (hp : PassesOwn (model X.prog X.w) X.A X.env X.xe) (hc : X.calm = true) (hi : PI X tg iter wi) (hg : PG X tg g) (hb : PSs X body tb)
    (hs : ∀ x, foldedSetIterable iter X.env x = pure x := by intro _; rfl) : PS X (.For tg iter body [] pos) (tFor wi g tb) := by
  intro pins s σ H D I h
  refine wpAny_For (thn (hi pins s σ H _ I h) fun v s1 h1 => thn h1 fun itv s2 h2 => ?_) hs
  obtain ⟨it, fp, tn, J, H2, e, I2, T, st2, f2, W, ⟨m0, w0⟩, turn⟩ := h2
  subst e
  -- what stays true of the iterator's objects through the loop
  have stat : ∀ {H' : Hp}, (∀ b ∈ fp, H' b = none) → ∀ b ∈ fp, FpOk X pins H' b := fun hn b hb => ⟨hn b hb, (f2 b hb).2⟩
  refine codeAny_forLoop_any (fun n s' => ∃ i σ' H', Inv X pins σ' H' s' ∧ tn i s'.heap ∧ (∀ b ∈ fp, H' b = none) ∧ W i n σ' H') ?_ m0 ⟨0, σ, H2, I2, st2, fun b hb => (f2 b hb).1, w0⟩
  rintro n s3 ⟨i, σ3, H3, I3, st3, fr3, w3⟩
  rcases turn i n σ3 H3 w3 with ⟨stop, qn⟩ | ⟨go, N, hN, step⟩
  · refine wpAny_passesOwn hp (thn (T.done X rfl rfl rfl hc i pins s3 σ3 H3 X.xe I3 (stat fr3) st3 stop) fun r s4 ⟨hr, I4⟩ => ?_)
    subst hr
    exact wpAny_execs_nil ⟨σ3, H3, I4, qn⟩
  · refine wpAny_passesOwn hp (thn (T.item X rfl rfl rfl hc i pins s3 σ3 H3 X.xe I3 (stat fr3) st3 go) fun r s4 ⟨u, hr, h4⟩ => ?_)
    subst hr
    refine wpAny_passesOwn hp (thn h4 fun _ s5 ⟨x, H5, I5, r5, y5, st5, fr5⟩ => ?_)
    have I5' := I5.pinned (stat fr5) (T.obj _ _ st5)
    refine wpAny_passesOwn hp (thn (hg _ s5 σ3 H5 x u _ I5' r5 (step x H5 y5)) fun _ s6 ⟨σ6, H6, I6, q6⟩ => ?_)
    refine wpAny_passesOwn hp (thn (hb _ s6 σ6 H6 _ I6 q6) fun f s7 q7 => ?_)
    have again : ∀ {σ7 : St} {H7 : Hp}, Inv X (pins ++ pinsAt fp s5.heap) σ7 H7 s7 → N σ7 H7 → ∃ m, m < n ∧ ∃ i σ' H', Inv X pins σ' H' s7 ∧ tn i s7.heap ∧ (∀ b ∈ fp, H' b = none) ∧ W i m σ' H' := fun {σ7 H7} I7 n7 => by
      obtain ⟨m', hm, w7⟩ := hN σ7 H7 n7
      refine ⟨m', hm, i + 1, σ7, H7, I7.unpinned, T.keep _ _ _ st5 fun b hb o e => (I7.pin (b, o) (List.mem_append_right _ (List.mem_append_right _ (mem_pinsAt hb e)))).1, fun b hb => ?_, w7⟩
      obtain ⟨o, e, d⟩ := T.obj _ _ st5 b hb
      exact (I7.pin (b, o) (List.mem_append_right _ (List.mem_append_right _ (mem_pinsAt hb e)))).2.1
    cases f with
    | next => obtain ⟨σ7, H7, I7, n7⟩ := q7; exact again I7 n7
    | cont => obtain ⟨σ7, H7, I7, n7⟩ := q7; exact again I7 n7
    | brk => obtain ⟨σ7, H7, I7, q7⟩ := q7; exact ⟨σ7, H7, I7.unpinned, q7⟩
    | ret v => obtain ⟨x7, σ7, H7, I7, r7, q7⟩ := q7; exact ⟨x7, σ7, H7, I7.unpinned, r7, q7⟩
end
end L2
namespace L2
open PySem PySem.Spec PyProof.Rows
abbrev R2 := V → V → Hp → VK → Prop
def OpR (X : Cx) (f : Value → Value → Sem Value) (r : R2) : Prop :=
  ∀ (pins : List (Addr × Obj)) (s : Shared) (σ : St) (H : Hp) (x y : V) (v u : Value) (Q : VK), Inv X pins σ H s → RelV x v → RelV y u → r x y H Q →
    wpAny (model X.prog X.w) X.A (f v u) (EP X pins σ Q) X.xe s
def UnR (X : Cx) (f : Value → Sem Value) (r : V → Hp → VK → Prop) : Prop :=
  ∀ (pins : List (Addr × Obj)) (s : Shared) (σ : St) (H : Hp) (x : V) (v : Value) (Q : VK), Inv X pins σ H s → RelV x v → r x H Q →
    wpAny (model X.prog X.w) X.A (f v) (EP X pins σ Q) X.xe s
def CallR (X : Cx) (f : Value) (r : List V → Hp → VK → Prop) : Prop :=
  ∀ (pins : List (Addr × Obj)) (s : Shared) (σ : St) (H : Hp) (xs : List V) (us : List Value) (Q : VK), Inv X pins σ H s → Vals xs us → r xs H Q →
    wpAny (model X.prog X.w) X.A (call f us) (EP X pins σ Q) X.xe s
def tOp (r : R2) (ta tb : TE) : TE := fun σ H Q => ta σ H fun x H1 => tb σ H1 fun y H2 => r x y H2 Q
def tUn (r : V → Hp → VK → Prop) (ta : TE) : TE := fun σ H Q => ta σ H fun x H1 => r x H1 Q
def rI (C : Int → Int → Prop) (g : Int → Int → V) : R2 := fun x y H Q => ∃ i j, x = .int i ∧ y = .int j ∧ C i j ∧ Q (g i j) H
def rI0 (g : Int → Int → V) : R2 := fun x y H Q => ∃ i j, x = .int i ∧ y = .int j ∧ Q (g i j) H
def rU (g : Int → V) : V → Hp → VK → Prop := fun x H Q => ∃ i, x = .int i ∧ Q (g i) H
section
variable {X : Cx} {a b c : Expr} {ta tb tc : TE} {pos : Pos}
theorem binT (ha : PE X a ta) (hb : PE X b tb) {pins : List (Addr × Obj)} {s : Shared} {σ : St} {H : Hp} {R : V → V → Hp → Prop} (I : Inv X pins σ H s)
    (h : ta σ H fun x H1 => tb σ H1 fun y H2 => R x y H2) {Q : Value → Shared → Prop} {f : Value → Value → Sem Value}
    (hf : ∀ v u s2 x y H2, Inv X pins σ H2 s2 → RelV x v → RelV y u → R x y H2 → wpAny (model X.prog X.w) X.A (f v u) Q X.xe s2) :
    wpAny (model X.prog X.w) X.A (eval a X.env) (fun v s₁ => wpAny (model X.prog X.w) X.A (eval b X.env) (fun u s₂ => wpAny (model X.prog X.w) X.A (f v u) Q X.xe s₂) X.xe s₁) X.xe s := by
  refine thn (ha pins s σ H _ I h) fun v s1 ⟨x, H1, I1, r1, q1⟩ => ?_
  refine thn (hb pins s1 σ H1 _ I1 q1) fun u s2 ⟨y, H2, I2, r2, q2⟩ => ?_
  exact hf v u s2 x y H2 I2 r1 r2 q2
theorem pe_op {op : Operator} {r : R2} (ho : OpR X (binaryOp op) r) (ha : PE X a ta) (hb : PE X b tb) : PE X (.BinOp a op b pos) (tOp r ta tb) := by
  intro pins s σ H Q I h
  exact wpAny_BinOp (binT ha hb I h fun v u s2 x y H2 I2 rx ry q => ho pins s2 σ H2 x y v u Q I2 rx ry q)
theorem pe_un {op : UnaryOp} {r : V → Hp → VK → Prop} (ho : UnR X (unaryOp op) r) (ha : PE X a ta) : PE X (.UnaryOp op a pos) (tUn r ta) := by
  intro pins s σ H Q I h
  exact UnaryOp_ (thn (ha pins s σ H _ I h) fun v s1 ⟨x, H1, I1, r1, q1⟩ => ho pins s1 σ H1 x v Q I1 r1 q1)
theorem opI {f : Value → Value → Sem Value} {C : Int → Int → Prop} {g : Int → Int → Int}
    (rule : ∀ (i j : Int) (t u : Tok) (s : Shared) (Q : Value → Shared → Prop) (E : Value → Shared → Prop), C i j → Q (.int (g i j) s.toks) { s with toks := s.toks + 1 } → wpAny (model X.prog X.w) X.A (f (.int i t) (.int j u)) Q E s) :
    OpR X f (rI C fun i j => .int (g i j)) := by
  intro pins s σ H x y v u Q I rx ry h
  obtain ⟨i, j, rfl, rfl, hc, q⟩ := h
  obtain ⟨t, rfl⟩ := rx
  obtain ⟨t', rfl⟩ := ry
  exact rule i j t t' s _ _ hc ⟨.int (g i j), H, I.tok _, ⟨_, rfl⟩, q⟩
theorem opI0 {f : Value → Value → Sem Value} {g : Int → Int → Int}
    (rule : ∀ (i j : Int) (t u : Tok) (s : Shared) (Q : Value → Shared → Prop) (E : Value → Shared → Prop), Q (.int (g i j) s.toks) { s with toks := s.toks + 1 } → wpAny (model X.prog X.w) X.A (f (.int i t) (.int j u)) Q E s) :
    OpR X f (rI0 fun i j => .int (g i j)) := by
  intro pins s σ H x y v u Q I rx ry h
  obtain ⟨i, j, rfl, rfl, q⟩ := h
  obtain ⟨t, rfl⟩ := rx
  obtain ⟨t', rfl⟩ := ry
  exact rule i j t t' s _ _ ⟨.int (g i j), H, I.tok _, ⟨_, rfl⟩, q⟩
theorem opB0 {f : Value → Value → Sem Value} {g : Int → Int → Bool}
    (rule : ∀ (i j : Int) (t u : Tok) (s : Shared) (Q : Value → Shared → Prop) (E : Value → Shared → Prop), Q (.bool (g i j)) s → wpAny (model X.prog X.w) X.A (f (.int i t) (.int j u)) Q E s) :
    OpR X f (rI0 fun i j => .bl (g i j)) := by
  intro pins s σ H x y v u Q I rx ry h
  obtain ⟨i, j, rfl, rfl, q⟩ := h
  obtain ⟨t, rfl⟩ := rx
  obtain ⟨t', rfl⟩ := ry
  exact rule i j t t' s _ _ ⟨.bl (g i j), H, I, rfl, q⟩
def CDiv (i j : Int) : Prop := 0 < j ∧ j < 1073741824
def CPow (i j : Int) : Prop := 0 ≤ j ∧ j ≤ 1000000 ∧ i.natAbs < 2 ^ 64
def CMul (i j : Int) : Prop := (-(2 ^ 64) < i ∧ i < 2 ^ 64) ∨ (-(2 ^ 64) < j ∧ j < 2 ^ 64)
theorem CMul.ok {i j : Int} (h : CMul i j) : IntMulOk i j := by
  rcases h with ⟨h1, h2⟩ | ⟨h1, h2⟩
  · exact .of_left (intBits_le_64 h1 h2)
  · exact .of_right (intBits_le_64 h1 h2)
theorem op_add : OpR X (binaryOp .Add) (rI0 fun i j => .int (i + j)) := opI0 fun _ _ _ _ _ _ _ q => add_int q
theorem op_sub : OpR X (binaryOp .Sub) (rI0 fun i j => .int (i - j)) := opI0 fun _ _ _ _ _ _ _ q => sub_int q
theorem op_mul : OpR X (binaryOp .Mult) (rI CMul fun i j => .int (i * j)) := opI fun _ _ _ _ _ _ _ hc q => mul_int q hc.ok
theorem op_fdiv : OpR X (binaryOp .FloorDiv) (rI CDiv fun i j => .int (i / j)) := opI fun i j _ _ _ _ _ hc q => by
  have h1 : (0 : Int) < j := hc.1
  have h2 : j < 1073741824 := hc.2
  exact floordiv_int (by omega) (by rw [Int.fdiv_eq_ediv_of_nonneg i (by omega)]; exact q) (.inl (PyProof.noPylong_small (by omega)))
theorem op_mod : OpR X (binaryOp .Mod) (rI (fun _ j => 0 < j) fun i j => .int (i % j)) := opI fun i j _ _ _ _ _ hc q => by
  have h1 : (0 : Int) < j := hc
  exact mod_int' (by omega) (by rw [Int.fmod_eq_emod_of_nonneg i (by omega)]; exact q)
theorem op_pow : OpR X (binaryOp .Pow) (rI CPow fun i j => .int (i ^ j.toNat)) := opI fun _ _ _ _ _ _ _ hc q => pow_int_small hc.1 hc.2.1 hc.2.2 q
theorem unI {f : Value → Sem Value} {g : Int → Int}
    (rule : ∀ (i : Int) (t : Tok) (s : Shared) (Q : Value → Shared → Prop) (E : Value → Shared → Prop), Q (.int (g i) s.toks) { s with toks := s.toks + 1 } → wpAny (model X.prog X.w) X.A (f (.int i t)) Q E s) :
    UnR X f (rU fun i => .int (g i)) := by
  intro pins s σ H x v Q I rx h
  obtain ⟨i, rfl, q⟩ := h
  obtain ⟨t, rfl⟩ := rx
  exact rule i t s _ _ ⟨.int (g i), H, I.tok _, ⟨_, rfl⟩, q⟩
theorem un_neg : UnR X (unaryOp .USub) (rU fun i => .int (-i)) := unI fun _ _ _ _ _ q => neg_int q
end
def scal : V → V → Bool
  | .non, .non => true | .non, .int _ => true | .int _, .non => true | .non, .bl _ => true | .bl _, .non => true | .non, .str _ => true | .str _, .non => true
  | .int _, .int _ => true | .bl _, .bl _ => true | .str _, .str _ => true | .byt _, .byt _ => true
  | .int _, .str _ => true | .str _, .int _ => true | .bl _, .str _ => true | .str _, .bl _ => true
  | _, _ => false
def rEq : R2 := fun x y H Q => scal x y = true ∧ Q (.bl (decide (x = y))) H
def rNe : R2 := fun x y H Q => scal x y = true ∧ Q (.bl (!decide (x = y))) H
theorem dec_int {i j : Int} : decide (V.int i = V.int j) = (i == j) := by
  rw [Bool.eq_iff_iff]
  simp
theorem dec_bl {i j : Bool} : decide (V.bl i = V.bl j) = (i == j) := by
  rw [Bool.eq_iff_iff]
  simp
theorem dec_str {i j : Str} : decide (V.str i = V.str j) = (i == j) := by
  rw [Bool.eq_iff_iff]
  simp
theorem dec_byt {i j : Array UInt8} : decide (V.byt i = V.byt j) = (i.toList == j.toList) := by
  rw [Bool.eq_iff_iff]
  cases i
  cases j
  simp
section
variable {X : Cx} {a b c : Expr} {ta tb tc : TE} {pos : Pos}
theorem fin_bl {pins : List (Addr × Obj)} {σ : St} {H : Hp} {s : Shared} {Q : VK} {k k' : Bool} (I : Inv X pins σ H s) (q : Q (.bl k) H) (e : k = k') : EP X pins σ Q (.bool k') s := by
  subst e
  exact ⟨.bl k, H, I, rfl, q⟩
theorem op_eq : OpR X (compareOp .Eq) rEq := by
  intro pins s σ H x y v u Q I rx ry h
  obtain ⟨hs, q⟩ := h
  cases x with
  | non =>
    cases rx
    cases y with
    | non => cases ry; exact PySem.EqNone.eq_none_none (fin_bl I q (by simp))
    | bl j => cases ry; exact PySem.EqNone.eq_none_bool (fin_bl I q (by simp))
    | int j => obtain ⟨t', rfl⟩ := ry; exact PySem.EqNone.eq_none_int (fin_bl I q (by simp))
    | str j => obtain ⟨t', rfl⟩ := ry; exact PySem.EqNone.eq_none_str (fin_bl I q (by simp))
    | _ => exact absurd (show false = true from hs) Bool.false_ne_true
  | bl i =>
    cases rx
    cases y with
    | non => cases ry; exact PySem.EqNone.eq_bool_none (fin_bl I q (by simp))
    | bl j => cases ry; exact eq_bool (fin_bl I q dec_bl)
    | str j => obtain ⟨t', rfl⟩ := ry; exact PySem.EqMixed.eq_bool_str (fin_bl I q (by simp))
    | _ => exact absurd (show false = true from hs) Bool.false_ne_true
  | int i =>
    obtain ⟨t, rfl⟩ := rx
    cases y with
    | non => cases ry; exact PySem.EqNone.eq_int_none (fin_bl I q (by simp))
    | int j => obtain ⟨t', rfl⟩ := ry; exact eq_int (fin_bl I q dec_int)
    | str j => obtain ⟨t', rfl⟩ := ry; exact PySem.EqMixed.eq_int_str (fin_bl I q (by simp))
    | _ => exact absurd (show false = true from hs) Bool.false_ne_true
  | str i =>
    obtain ⟨t, rfl⟩ := rx
    cases y with
    | non => cases ry; exact PySem.EqNone.eq_str_none (fin_bl I q (by simp))
    | bl j => cases ry; exact PySem.EqMixed.eq_str_bool (fin_bl I q (by simp))
    | int j => obtain ⟨t', rfl⟩ := ry; exact PySem.EqMixed.eq_str_int (fin_bl I q (by simp))
    | str j => obtain ⟨t', rfl⟩ := ry; exact eq_str (fin_bl I q dec_str)
    | _ => exact absurd (show false = true from hs) Bool.false_ne_true
  | byt i =>
    obtain ⟨t, rfl⟩ := rx
    cases y with
    | byt j => obtain ⟨t', rfl⟩ := ry; exact PySem.W.eq_bytes (fin_bl I q dec_byt)
    | _ => exact absurd (show false = true from hs) Bool.false_ne_true
  | _ => cases y <;> exact absurd (show false = true from hs) Bool.false_ne_true
theorem op_ne : OpR X (compareOp .NotEq) rNe := by
  intro pins s σ H x y v u Q I rx ry h
  obtain ⟨hs, q⟩ := h
  cases x with
  | non =>
    cases rx
    cases y with
    | non => cases ry; exact PySem.EqNone.ne_none_none (fin_bl I q (by simp))
    | bl j => cases ry; exact PySem.EqNone.ne_none_bool (fin_bl I q (by simp))
    | int j => obtain ⟨t', rfl⟩ := ry; exact PySem.EqNone.ne_none_int (fin_bl I q (by simp))
    | str j => obtain ⟨t', rfl⟩ := ry; exact PySem.EqNone.ne_none_str (fin_bl I q (by simp))
    | _ => exact absurd (show false = true from hs) Bool.false_ne_true
  | bl i =>
    cases rx
    cases y with
    | non => cases ry; exact PySem.EqNone.ne_bool_none (fin_bl I q (by simp))
    | bl j => cases ry; exact ne_bool (fin_bl I q (congrArg not dec_bl))
    | str j => obtain ⟨t', rfl⟩ := ry; exact PySem.EqMixed.ne_bool_str (fin_bl I q (by simp))
    | _ => exact absurd (show false = true from hs) Bool.false_ne_true
  | int i =>
    obtain ⟨t, rfl⟩ := rx
    cases y with
    | non => cases ry; exact PySem.EqNone.ne_int_none (fin_bl I q (by simp))
    | int j => obtain ⟨t', rfl⟩ := ry; exact ne_int (fin_bl I q (congrArg not dec_int))
    | str j => obtain ⟨t', rfl⟩ := ry; exact PySem.EqMixed.ne_int_str (fin_bl I q (by simp))
    | _ => exact absurd (show false = true from hs) Bool.false_ne_true
  | str i =>
    obtain ⟨t, rfl⟩ := rx
    cases y with
    | non => cases ry; exact PySem.EqNone.ne_str_none (fin_bl I q (by simp))
    | bl j => cases ry; exact PySem.EqMixed.ne_str_bool (fin_bl I q (by simp))
    | int j => obtain ⟨t', rfl⟩ := ry; exact PySem.EqMixed.ne_str_int (fin_bl I q (by simp))
    | str j => obtain ⟨t', rfl⟩ := ry; exact ne_str (fin_bl I q (congrArg not dec_str))
    | _ => exact absurd (show false = true from hs) Bool.false_ne_true
  | byt i =>
    obtain ⟨t, rfl⟩ := rx
    cases y with
    | byt j => obtain ⟨t', rfl⟩ := ry; exact PySem.W.ne_bytes (fin_bl I q (congrArg not dec_byt))
    | _ => exact absurd (show false = true from hs) Bool.false_ne_true
  | _ => cases y <;> exact absurd (show false = true from hs) Bool.false_ne_true
theorem op_lt : OpR X (compareOp .Lt) (rI0 fun i j => .bl (decide (i < j))) := opB0 fun _ _ _ _ _ _ _ q => lt_int q
theorem op_le : OpR X (compareOp .LtE) (rI0 fun i j => .bl (decide (i ≤ j))) := opB0 fun _ _ _ _ _ _ _ q => le_int q
theorem op_gt : OpR X (compareOp .Gt) (rI0 fun i j => .bl (decide (j < i))) := opB0 fun _ _ _ _ _ _ _ q => gt_int q
theorem op_ge : OpR X (compareOp .GtE) (rI0 fun i j => .bl (decide (j ≤ i))) := opB0 fun _ _ _ _ _ _ _ q => ge_int q
theorem op_in_str : OpR X (compareOp .In) (fun x y H Q => ∃ i j, x = .str i ∧ y = .str j ∧ Q (.bl (!(Builtin.Str.occurrences j i 0 j.length 1).isEmpty)) H) := by
  intro pins s σ H x y v u Q I rx ry h
  obtain ⟨i, j, rfl, rfl, q⟩ := h
  obtain ⟨t, rfl⟩ := rx
  obtain ⟨t', rfl⟩ := ry
  exact in_str (fin_bl I q rfl)
theorem op_notN : OpR X (compareOp .IsNot) (fun x y H Q => y = .non ∧ Q (.bl (!decide (x = .non))) H) := by
  intro pins s σ H x y v u Q I rx ry h
  obtain ⟨rfl, q⟩ := h
  cases ry
  refine isnot_none_gen (fin_bl I q ?_)
  cases x <;> first
    | (cases rx; rfl)
    | (obtain ⟨t, rfl⟩ := rx; rfl)
theorem OpR.or {f : Value → Value → Sem Value} {r r' : R2} (h : OpR X f r) (h' : OpR X f r') : OpR X f (fun x y H Q => r x y H Q ∨ r' x y H Q) := by
  intro pins s σ H x y v u Q I rx ry q
  rcases q with q | q
  · exact h pins s σ H x y v u Q I rx ry q
  · exact h' pins s σ H x y v u Q I rx ry q
theorem nomark (b : Expr) {op : CmpOp} (h : op ≠ .In := by decide) (h2 : op ≠ .NotIn := by decide) : behindInMarks op b = false := by
  have e1 : (op == CmpOp.In) = false := by cases op <;> first | rfl | exact absurd rfl h
  have e2 : (op == CmpOp.NotIn) = false := by cases op <;> first | rfl | exact absurd rfl h2
  cases b <;> simp [behindInMarks, e1, e2]
theorem pe_cmpR {op : CmpOp} {r : R2} (ho : OpR X (compareOp op) r) (ha : PE X a ta) (hb : PE X b tb) (hm : behindInMarks op b = false) : PE X (.Compare a [op] [b] pos) (tOp r ta tb) := by
  intro pins s σ H Q I h
  exact wpAny_Compare1 (binT ha hb I h fun v u s2 x y H2 I2 rx ry q => ho pins s2 σ H2 x y v u Q I2 rx ry q) hm
def tTest (t : TE) : TT := fun σ H Q => t σ H fun x H' => ∃ k, x = .bl k ∧ Q k H'
theorem pt_cmpR {op : CmpOp} {r : R2} (ho : OpR X (compareOp op) r) (ha : PE X a ta) (hb : PE X b tb) (hm : behindInMarks op b = false) : PT X (.Compare a [op] [b] pos) (tTest (tOp r ta tb)) := by
  intro pins s σ H Q I h
  refine wpAny_isTrue_Compare1 (thn (ha pins s σ H _ I h) fun v s1 ⟨x, H1, I1, r1, q1⟩ => thn (hb pins s1 σ H1 _ I1 q1) fun u s2 ⟨y, H2, I2, r2, q2⟩ =>
    thn (ho pins s2 σ H2 x y v u _ I2 r1 r2 q2) fun c s3 ⟨z, H3, I3, r3, k, e, q3⟩ => ?_) hm
  subst e
  cases r3
  exact wpAny_truthy_bool ⟨H3, I3, q3⟩
def tChain (r r' : R2) (ta tb tc : TE) : TE := fun σ H Q => ta σ H fun x H1 => tb σ H1 fun y H2 => r x y H2 fun z H3 => ∃ k, z = .bl k ∧
  (if k = true then tc σ H3 fun w' H4 => r' y w' H4 Q else Q (.bl false) H3)
theorem pe_chain {op op' : CmpOp} {r r' : R2} (ho : OpR X (compareOp op) r) (ho' : OpR X (compareOp op') r') (ha : PE X a ta) (hb : PE X b tb) (hc : PE X c tc)
    (hm : lastMarks [op, op'] [b, c] = false := by with_unfolding_all rfl) : PE X (.Compare a [op, op'] [b, c] pos) (tChain r r' ta tb tc) := by
  intro pins s σ H Q I h
  refine Compare_chain (thn (ha pins s σ H _ I h) fun v s1 ⟨x, H1, I1, r1, q1⟩ => chain_link (thn (hb pins s1 σ H1 _ I1 q1) fun u s2 ⟨y, H2, I2, r2, q2⟩ =>
    thn (ho pins s2 σ H2 x y v u _ I2 r1 r2 q2) fun d s3 ⟨z, H3, I3, r3, k, e, q3⟩ => ?_)) hm
  subst e
  cases r3
  refine wpAny_truthy_bool ?_
  cases k with
  | false => exact ite_ff ⟨.bl false, H3, I3, rfl, q3⟩
  | true => exact ite_tt (chain_last (thn (hc pins s3 σ H3 _ I3 q3) fun w' s4 ⟨z', H4, I4, r4, q4⟩ => ho' pins s4 σ H4 y z' u w' Q I4 r2 r4 q4))
theorem pt_chain {op op' : CmpOp} {r r' : R2} (ho : OpR X (compareOp op) r) (ho' : OpR X (compareOp op') r') (ha : PE X a ta) (hb : PE X b tb) (hc : PE X c tc)
    (hm : lastMarks [op, op'] [b, c] = false := by with_unfolding_all rfl) : PT X (.Compare a [op, op'] [b, c] pos) (tTest (tChain r r' ta tb tc)) := by
  intro pins s σ H Q I h
  refine isTrue_chain (thn (ha pins s σ H _ I h) fun v s1 ⟨x, H1, I1, r1, q1⟩ => test_link (thn (hb pins s1 σ H1 _ I1 q1) fun u s2 ⟨y, H2, I2, r2, q2⟩ =>
    thn (ho pins s2 σ H2 x y v u _ I2 r1 r2 q2) fun d s3 ⟨z, H3, I3, r3, k, e, q3⟩ => ?_)) hm
  subst e
  cases r3
  refine wpAny_truthy_bool ?_
  cases k with
  | false =>
    obtain ⟨k', e', q'⟩ := q3
    cases e'
    exact ite_ff ⟨H3, I3, q'⟩
  | true =>
    refine ite_tt (test_last (thn (hc pins s3 σ H3 _ I3 q3) fun w' s4 ⟨z', H4, I4, r4, q4⟩ => thn (ho' pins s4 σ H4 y z' u w' _ I4 r2 r4 q4) fun d' s5 ⟨z2, H5, I5, r5, k2, e2, q5⟩ => ?_))
    subst e2
    cases r5
    exact wpAny_truthy_bool ⟨H5, I5, q5⟩
theorem line63 : (sizeLine : Nat) < 2 ^ 63 := by rw [sizeLine_eq]; decide
theorem op_add_str : OpR X (binaryOp .Add) (fun x y H Q => ∃ i j, x = .str i ∧ y = .str j ∧ i.length + j.length ≤ sizeLine ∧ Q (.str (i ++ j)) H) := by
  intro pins s σ H x y v u Q I rx ry h
  obtain ⟨i, j, rfl, rfl, hz, q⟩ := h
  obtain ⟨t, rfl⟩ := rx
  obtain ⟨t', rfl⟩ := ry
  exact add_str (fun t' tk => ⟨.str (i ++ j), H, I.tok _, ⟨_, rfl⟩, q⟩) hz
theorem vals1 {x : V} {us : List Value} (r : Vals [x] us) : ∃ u, us = [u] ∧ RelV x u := by
  cases r with
  | cons r1 r2 => cases r2; exact ⟨_, rfl, r1⟩
theorem vals2 {x y : V} {us : List Value} (r : Vals [x, y] us) : ∃ u w', us = [u, w'] ∧ RelV x u ∧ RelV y w' := by
  cases r with
  | cons r1 r2 =>
    cases r2 with
    | cons r3 r4 => cases r4; exact ⟨_, _, rfl, r1, r3⟩
theorem call_min2 (hc : X.calm = true) : CallR X (.builtin "min") (fun xs H Q => ∃ i j, xs = [.int i, .int j] ∧ Q (.int (if j < i then j else i)) H) := by
  intro pins s σ H xs us Q I r h
  obtain ⟨i, j, rfl, q⟩ := h
  obtain ⟨u, w', rfl, ⟨t, rfl⟩, ⟨t', rfl⟩⟩ := vals2 r
  refine min_two_ints (I.ok.hd hc) fun h' tk k => ⟨_, H, I.kept k, ?_, q⟩
  by_cases hj : j < i
  · rw [if_pos hj, if_pos hj]; exact ⟨_, rfl⟩
  · rw [if_neg hj, if_neg hj]; exact ⟨_, rfl⟩
theorem call_int1 : CallR X (.type "int") (fun xs H Q => (∃ i, xs = [.int i] ∧ Q (.int i) H) ∨ ∃ k, xs = [.bl k] ∧ Q (.int (if k then 1 else 0)) H) := by
  intro pins s σ H xs us Q I r h
  rcases h with ⟨i, rfl, q⟩ | ⟨k, rfl, q⟩
  · obtain ⟨u, rfl, t, rfl⟩ := vals1 r
    exact call_int_int ⟨.int i, H, I, ⟨_, rfl⟩, q⟩
  · obtain ⟨u, rfl, r1⟩ := vals1 r
    cases r1
    exact call_int_bool ⟨.int (if k then 1 else 0), H, I.tok _, ⟨_, rfl⟩, q⟩
theorem call_bool1 : CallR X (.type "bool") (fun xs H Q => (∃ i, xs = [.int i] ∧ Q (.bl (i != 0)) H) ∨ ∃ k, xs = [.bl k] ∧ Q (.bl k) H) := by
  intro pins s σ H xs us Q I r h
  rcases h with ⟨i, rfl, q⟩ | ⟨k, rfl, q⟩
  · obtain ⟨u, rfl, t, rfl⟩ := vals1 r
    exact call_bool_int ⟨.bl (i != 0), H, I, rfl, q⟩
  · obtain ⟨u, rfl, r1⟩ := vals1 r
    cases r1
    exact call_bool_bool ⟨.bl k, H, I, rfl, q⟩
end
end L2
namespace L2
open PySem PySem.Spec PyProof.Rows
structure ObjM (h : Heap) (x dx C : Addr) (mA : Str → Option Value) : Prop where
  obj : h.get? x = some (PySem.W.instObj C dx)
  ns : h.Ns1 dx mA
  ne : dx ≠ x
theorem lookIn_ns {h : Heap} {dx : Addr} {mA : Str → Option Value} (n : h.Ns1 dx mA) : ∃ od, h.get? dx = some od ∧ ∀ name, PySem.W.lookIn name od = some (mA name) := by
  obtain ⟨o, es, ep, ho, hd, hk, _, hm⟩ := n
  refine ⟨o, ho, fun name => ?_⟩
  have e := hm name
  unfold nsFind findBy at e
  rw [← Array.find?_toList] at e
  unfold PySem.W.lookIn
  rw [hd]
  dsimp only
  split
  · rename_i y q
    rw [q] at e
    exact congrArg some e
  · rename_i q
    rw [q] at e
    have a : es.toList.any (·.refKey) = false := by
      rw [List.any_eq_false]
      intro y hy
      obtain ⟨z, t, hkey⟩ := hk y (Array.mem_toList_iff.mp hy)
      simp [DictEntry.refKey, hkey]
    have a' : ¬ es.toList.any (·.refKey) = true := by rw [a]; exact Bool.false_ne_true
    rw [if_neg a']
    exact congrArg some e
theorem ObjM.look {h : Heap} {x dx C : Addr} {mA : Str → Option Value} (I : ObjM h x dx C mA) : ∃ od, PySem.W.InstAt h x (PySem.W.instObj C dx) C (some od) ∧ ∀ name, PySem.W.lookIn name od = some (mA name) :=
  let ⟨od, ho, hl⟩ := lookIn_ns I.ns
  ⟨od, ⟨I.obj, rfl, rfl, ho⟩, hl⟩
section
variable {prog : Program} {w : World} {A : Around} {E : Value → Shared → Prop} {s : Shared} {K : PySem.W.Frag} {x dx C f : Addr} {mA : Str → Option Value} {name : Str} {v : Value}
end
theorem RelO.some_of {v : V} {o : Option Value} (r : RelO (some v) o) : ∃ u, o = some u ∧ RelV v u := by
  cases o with
  | none => exact (show False from r).elim
  | some u => exact ⟨u, rfl, r⟩
section
variable {P : Program} {w : World} {H H' : Hp} {h h' : Heap} {a C dx : Addr} {fs fs' : List (Str × V)}
theorem ins_get (hok : HOk P w H h) (e : H a = some (.ins C dx fs)) : ∃ mA, ObjM h a dx C mA ∧ (∀ f, RelO (fs.lookup f) (mA f)) ∧ PySem.Within mA (fs.map (·.1)) ∧ fs.length ≤ 1000 ∧ H dx = some (.own a) := by
  obtain ⟨d, z, ne, ob, mA, n, r, q⟩ := (show ObjOk P w H h a (.ins C dx fs) from hok a _ e)
  exact ⟨mA, ⟨ob, n, ne⟩, r, q, z, d⟩
end
structure Cls (K : PySem.W.Frag) (C : Addr) : Prop where
  pg : PySem.W.plainGet K C Str.empty = true
  hd : PySem.W.hasDictIn K C = true
  po : PySem.W.plainOver K C = true
  sa : PySem.W.findIn K (.ref C) "__setattr__" = some (some (.builtin "object.__setattr__"))
theorem Cls.get {K : PySem.W.Frag} {C : Addr} (c : Cls K C) (f : Str) : PySem.W.plainGet K C f = true := c.pg
structure Con (K : PySem.W.Frag) (C : Addr) (f : Str) (v : V) (u : Value) : Prop where
  at_ : PySem.W.findIn K (.ref C) f = some (some u)
  rel : RelV v u
  get : PySem.W.specialIn K u "__get__" = some none
  cp : PySem.W.copiedNames.contains f = false
structure Meth (K : PySem.W.Frag) (C : Addr) (m : Str) (f : Addr) : Prop where
  at_ : PySem.W.findIn K (.ref C) m = some (some (.ref f))
  fn : PySem.W.isFn K (.ref f) = true
  kp : PySem.W.keepIn K (.ref f) = true
section
variable {X : Cx} {pins : List (Addr × Obj)} {σ : St} {H : Hp} {s : Shared} {a C dx : Addr} {fs : List (Str × V)} {f : Str} {v : V} {A : Around} {E : Value → Shared → Prop}
theorem Inv.made (I : Inv X pins σ H s) : Inv X pins σ (upd (upd H s.heap.objs.size (.own (s.heap.objs.size + 1))) (s.heap.objs.size + 1) (.ins C s.heap.objs.size []))
    { s with heap := (s.heap.push PySem.W.emptyDict).push (PySem.W.instObj C s.heap.objs.size) } := by
  have e1 : (s.heap.push PySem.W.emptyDict).get? s.heap.objs.size = some PySem.W.emptyDict := Heap.get?_push_size s.heap rfl
  have e2 : ((s.heap.push PySem.W.emptyDict).push (PySem.W.instObj C s.heap.objs.size)).get? (s.heap.objs.size + 1) = some (PySem.W.instObj C s.heap.objs.size) := by
    have := Heap.get?_push_size (s.heap.push PySem.W.emptyDict) (o := PySem.W.instObj C s.heap.objs.size) rfl
    rwa [Heap.size_push] at this
  have e3 : (s.heap.push PySem.W.emptyDict).Ns s.heap.objs.size (fun _ => none) := ⟨PySem.W.emptyDict, #[], _, e1, rfl, (fun e he => absurd he (by simp)), fun _ => rfl⟩
  have I1 := I.laid (a := s.heap.objs.size) (o := .own (s.heap.objs.size + 1)) (h' := s.heap.push PySem.W.emptyDict) (t' := s.toks) (fun b u q => Heap.get?_push_of_some _ q) (Nat.le_refl _) ⟨_, e1⟩
  refine I1.laid (a := s.heap.objs.size + 1) (o := .ins C s.heap.objs.size []) (t' := s.toks) (fun b u q => Heap.get?_push_of_some _ q) (Nat.le_of_eq (Heap.size_push _ _)) ?_
  have ne : s.heap.objs.size ≠ s.heap.objs.size + 1 := Nat.ne_of_lt (Nat.lt_succ_self _)
  refine ⟨by rw [upd_ne ne, upd_same], Nat.zero_le _, ne, e2, fun _ => none, (Heap.Ns1.of_empty e3).at fun o q => Heap.get?_push_of_some _ q, fun _ => True.intro, fun y hy => absurd rfl hy⟩
end
section
variable {X : Cx} {o e value : Expr} {f : Str} {pos pos' tpos : Pos} {ta tv : TE}
end
section
variable {X : Cx} {pins : List (Addr × Obj)} {σ : St} {H : Hp} {s : Shared} {A : Around} {E : Value → Shared → Prop} {Q : Value → Shared → Prop} {c : Value} {b : Bool}
inductive TyOf (K : PySem.W.Frag) (H : Hp) : V → Value → Prop where
  | non : TyOf K H .non (.type "NoneType")
  | bl (x : Bool) : TyOf K H (.bl x) (.type "bool")
  | int (i : Int) : TyOf K H (.int i) (.type "int")
  | str (x : Str) : TyOf K H (.str x) (.type "str")
  | flt (x : UInt64) : TyOf K H (.flt x) (.type "float")
  | lst {a : Addr} {xs : List V} (e : H a = some (.lst xs)) : TyOf K H (.ref a) (.type "list")
  | frz {a : Addr} {o : Obj} {xs : List V} (e : H a = some (.frz o (.lst xs))) : TyOf K H (.ref a) (.type "list")
  | tup {a : Addr} {xs : List V} (e : H a = some (.tup xs)) : TyOf K H (.ref a) (.type "tuple")
  | dK {a : Addr} {kvs : List (Key × V)} (e : H a = some (.dK kvs)) : TyOf K H (.ref a) (.type "dict")
  | dT {a : Addr} {kvs : List (List Key × V)} (e : H a = some (.dT kvs)) : TyOf K H (.ref a) (.type "dict")
  | ins {a C dx : Addr} {fs : List (Str × V)} (e : H a = some (.ins C dx fs)) (cl : Cls K C) (ha : PySem.W.findIn K (.ref C) "__class__" = some (some (.builtin "object.__class__")))
      (hn : PySem.W.specialIn K (.builtin "object.__class__") "__get__" = some (some (.builtin "getset_descriptor.__get__"))) (htk : PySem.W.takesIn K (.builtin "object.__class__") = some true)
      (hm : PySem.W.mroIn K C (.type "object") = some true) : TyOf K H (.ref a) (.ref C)
theorem isinst_ok {x : V} {u t : Value} (I : Inv X pins σ H s) (rx : RelV x u) (ty : TyOf X.K H x t) (e : PySem.W.kitOne X.K t c = some b) (h : ∀ tk, Q (.bool b) { s with toks := tk }) :
    wpAny (model X.prog X.w) A (call (.builtin "isinstance") [u, c]) Q E s := by
  cases ty with
  | non => cases (show u = Value.none from rx); exact PySem.W.kia_one PySem.W.kitx_none I.kIn True.intro e (fun z => nomatch z) h
  | bl y => cases (show u = Value.bool y from rx); exact PySem.W.kia_one PySem.W.kitx_bool I.kIn True.intro e (fun z => nomatch z) h
  | int i => obtain ⟨t, q⟩ := (show ∃ t, u = Value.int i t from rx); cases q; exact PySem.W.kia_one PySem.W.kitx_int I.kIn True.intro e (fun z => nomatch z) h
  | str y => obtain ⟨t, q⟩ := (show ∃ t, u = Value.str y t from rx); cases q; exact PySem.W.kia_one PySem.W.kitx_str I.kIn True.intro e (fun z => nomatch z) h
  | flt y => obtain ⟨t, q⟩ := (show ∃ t, u = Value.float y t from rx); cases q; exact PySem.W.kia_one PySem.W.kitx_float I.kIn True.intro e (fun z => nomatch z) h
  | @lst a xs ea =>
    cases (show u = Value.ref a from rx)
    obtain ⟨_, _, n, _, h1⟩ := (show ObjOk X.prog X.w H s.heap a (.lst xs) from I.hok a _ ea)
    exact PySem.W.kia_one PySem.W.kitx_list I.kIn ⟨_, h1, rfl⟩ e (fun z => nomatch z) h
  | @frz a ob xs ea =>
    cases (show u = Value.ref a from rx)
    obtain ⟨_, _, _, n, _, h1⟩ := (show ObjOk X.prog X.w H s.heap a (.frz ob (.lst xs)) from I.hok a _ ea)
    exact PySem.W.kia_one PySem.W.kitx_list I.kIn ⟨_, h1, rfl⟩ e (fun z => nomatch z) h
  | @tup a xs ea =>
    cases (show u = Value.ref a from rx)
    obtain ⟨_, _, _, p, _⟩ := (show ObjOk X.prog X.w H s.heap a (.tup xs) from I.hok a _ ea)
    obtain ⟨o, h1, h2, _⟩ := p
    exact PySem.W.kia_one PySem.W.kitx_tuple I.kIn ⟨o, h1, h2⟩ e (fun z => nomatch z) h
  | @dK a kvs ea =>
    cases (show u = Value.ref a from rx)
    obtain ⟨_, _, vs, _, p⟩ := (show ObjOk X.prog X.w H s.heap a (.dK kvs) from I.hok a _ ea)
    obtain ⟨o, es, ep, h1, h2, _⟩ := p
    exact PySem.W.kia_one PySem.W.kitx_dict I.kIn ⟨o, h1, h2.1⟩ e (fun z => nomatch z) h
  | @dT a kvs ea =>
    cases (show u = Value.ref a from rx)
    obtain ⟨_, _, xs, _, o, es, ep, h1, h2, _⟩ := (show ObjOk X.prog X.w H s.heap a (.dT kvs) from I.hok a _ ea)
    exact PySem.W.kia_one PySem.W.kitx_dict I.kIn ⟨o, h1, h2.1⟩ e (fun z => nomatch z) h
  | @ins a C dx fs ea cl ha hn htk hm =>
    cases (show u = Value.ref a from rx)
    obtain ⟨mA, O, _⟩ := ins_get I.hok ea
    obtain ⟨od, J, _⟩ := O.look
    exact PySem.W.kia_one (PySem.W.kitx_own (cl.get _) cl.hd ha hn htk hm) I.kIn J e (fun z => nomatch z) h
end
end L2
namespace L2
open PySem PySem.Spec PyProof.Rows
structure Room (k : Nat) (A : Around) : Prop where
  hd : A.handled = none
  dp : A.depth + 3 * k + 5 < recursionLimit
  un : A.units + 16 * k + 200 < cLine
theorem Room.mono {j k : Nat} {A : Around} (r : Room k A) (h : j ≤ k) : Room j A := ⟨r.hd, by have := r.dp; omega, by have := r.un; omega⟩
theorem Room.deeper {k : Nat} {A : Around} (r : Room (k + 1) A) (env : Env) : Room k (A.deeper env) :=
  ⟨r.hd, by have := r.dp; show A.depth + 1 + 3 * k + 5 < _; omega, by have := r.un; show A.units + 3 + 16 * k + 200 < _; omega⟩
theorem Room.in1 {k : Nat} {A : Around} (r : Room (k + 1) A) : Room k A.in1 :=
  ⟨r.hd, by have := r.dp; show A.depth + 3 * k + 5 < _; omega, by have := r.un; show A.units + 1 + 16 * k + 200 < _; omega⟩
theorem Room.depth {k : Nat} {A : Around} (r : Room k A) : A.depth < recursionLimit := by have := r.dp; omega
theorem Room.units {k : Nat} {A : Around} (r : Room k A) : A.units + 64 < cLine := by have := r.un; omega
def tNil : TA := fun _ H Q => Q [] H
def tCons (ta : TE) (tr : TA) : TA := fun σ H Q => ta σ H fun x H1 => tr σ H1 fun xs H2 => Q (x :: xs) H2
section
variable {X : Cx} {e : Expr} {es : List Expr} {te : TE} {t : TA} {pos : Pos}
theorem pa_nil : PA X [] tNil := fun _ _ _ _ H Q I h => Calls.spliced_nil ⟨[], H, I, .nil, h⟩
theorem pa_cons (ha : PE X e te) (hr : PA X es t) (hs : starEach (e :: es) X.env = (false, eval e X.env) :: starEach es X.env := by rfl) : PA X (e :: es) (tCons te t) := by
  intro pos pins s σ H Q I h
  rw [hs]
  show wpAny _ _ (spliced ((false, eval e X.env) :: backTo pos (starEach es X.env))) _ _ s
  refine Calls.spliced_cons (thn (ha pins s σ H _ I h) fun u s1 ⟨x, H1, I1, r1, q1⟩ => ?_)
  exact thn (hr pos pins s1 σ H1 _ I1 q1) fun us s2 ⟨xs, H2, I2, r2, q2⟩ => ⟨x :: xs, H2, I2, .cons r1 r2, q2⟩
def tTup (t : TA) : TE := fun σ H Q => t σ H fun xs H1 => xs.length ≤ sizeLine ∧ ∀ p, H1 p = none → Q (.ref p) (upd H1 p (.tup xs))
def tLst (t : TA) : TE := fun σ H Q => t σ H fun xs H1 => xs.length ≤ sizeLine ∧ ∀ p, H1 p = none → Q (.ref p) (upd H1 p (.lst xs))
theorem pe_tup {x1} (h : PA X es t) : PE X (.Tuple es x1 pos) (tTup t) := by
  intro pins s σ H Q I hq
  refine wpAny_Tuple_spliced (thn (h pos pins s σ H _ I hq) fun us s1 ⟨xs, H1, I1, r, z, q⟩ => ⟨by rw [← r.length]; exact z, ?_⟩)
  have hf : H1 s1.heap.objs.size = none := I1.hok.fresh (Nat.le_refl _)
  refine ⟨.ref s1.heap.objs.size, upd H1 s1.heap.objs.size (.tup xs), I1.laid (t' := s1.toks) (fun b u e => Heap.get?_push_of_some _ e) (Nat.le_refl _) ?_, rfl, q _ hf⟩
  exact ⟨z, us, r, ⟨_, Heap.get?_push_size _ rfl, rfl, _, rfl⟩, _, Heap.get?_push_size _ rfl, rfl⟩
theorem pe_lst (h : PA X es t) : PE X (.List es pos) (tLst t) := by
  intro pins s σ H Q I hq
  refine wpAny_List_spliced (thn (h pos pins s σ H _ I hq) fun us s1 ⟨xs, H1, I1, r, z, q⟩ => ⟨by rw [← r.length]; exact z, ?_⟩)
  have hf : H1 s1.heap.objs.size = none := I1.hok.fresh (Nat.le_refl _)
  refine ⟨.ref s1.heap.objs.size, upd H1 s1.heap.objs.size (.lst xs), I1.laid (t' := s1.toks) (fun b u e => Heap.get?_push_of_some _ e) (Nat.le_refl _) ?_, rfl, q _ hf⟩
  exact ⟨z, us, 0, r, Heap.get?_push_size _ rfl⟩
end
abbrev Sp := List V → Hp → VK → XK → Prop
abbrev CXT := List Env → Hp → Shared → XK → Value → Shared → Prop
structure Env0 (P : Program) (w : World) (K : PySem.W.Frag) (mg : Str → Option Value) (base : Heap) (A : Around) (outer : List Env) (s : Shared) (H : Hp) : Prop where
  frames : A.frames = some outer
  mod : Mod K mg base
  bs : ∀ b o, base.get? b = some o → s.heap.get? b = some o ∧ H b = none
  bsz : base.objs.size ≤ s.heap.objs.size
  funs : s.heap.FunFrames base outer
  frf : ∀ b ∈ frs outer, H b = none
  hok : HOk P w H s.heap
  bare : AllBare s.gens
def CE (outer : List Env) (P : Program) (w : World) (H : Hp) (s : Shared) (Q : VK) (u : Value) (s' : Shared) : Prop :=
  ∃ v H', s'.os = s.os ∧ AllBare s'.gens ∧ Un (frs outer) [] H H' s.heap s'.heap ∧ HOk P w H' s'.heap ∧ RelV v u ∧ Q v H'
def CR (CX : CXT) (outer : List Env) (P : Program) (w : World) (H : Hp) (s : Shared) (Q : VK) (E : XK) (r : Result) (s' : Shared) : Prop :=
  match r with
  | .ok (.ret u) => CE outer P w H s Q u s'
  | .ok _ => False
  | .error e => CX outer H s E e s'
structure FnOk (P : Program) (w : World) (K : PySem.W.Frag) (mg : Str → Option Value) (base : Heap) (CX : CXT) (k : Nat) (f : Addr) (fd : FuncData) (ps : List Str) (sp : Sp) : Prop where
  len : ∀ vs H Q E, sp vs H Q E → vs.length = ps.length
  run : ∀ (A : Around) (outer : List Env) (s : Shared) (H : Hp) (args : Args) (us : List Value) (vs : List V) (Q : VK) (E : XK), Room k A → Env0 P w K mg base A outer s H → BindsTo s fd args (ps.zip us) → Vals vs us → sp vs H Q E →
    codeAny (model P w) A (.call (.ref f) args) (CR CX outer P w H s Q E) s
theorem FnOk.mono {P : Program} {w : World} {K : PySem.W.Frag} {mg : Str → Option Value} {base : Heap} {CX : CXT} {j k : Nat} {f : Addr} {fd : FuncData} {ps : List Str} {sp : Sp} (F : FnOk P w K mg base CX j f fd ps sp) (h : j ≤ k) :
    FnOk P w K mg base CX k f fd ps sp := ⟨F.len, fun A outer s H args us vs Q E hr => F.run A outer s H args us vs Q E (hr.mono h)⟩
theorem FnOk.imp {P : Program} {w : World} {K : PySem.W.Frag} {mg : Str → Option Value} {base : Heap} {CX : CXT} {k : Nat} {f : Addr} {fd : FuncData} {ps : List Str} {sp sp' : Sp} (F : FnOk P w K mg base CX k f fd ps sp)
    (h : ∀ vs H Q E, sp' vs H Q E → sp vs H Q E) : FnOk P w K mg base CX k f fd ps sp' :=
  ⟨fun vs H Q E q => F.len vs H Q E (h _ _ _ _ q), fun A outer s H args us vs Q E hr he hb hv hs => F.run A outer s H args us vs Q E hr he hb hv (h _ _ _ _ hs)⟩
theorem Env0.in1 {P : Program} {w : World} {K : PySem.W.Frag} {mg : Str → Option Value} {base : Heap} {A : Around} {outer : List Env} {s : Shared} {H : Hp} (e : Env0 P w K mg base A outer s H) :
    Env0 P w K mg base A.in1 outer s H := ⟨e.frames, e.mod, e.bs, e.bsz, e.funs, e.frf, e.hok, e.bare⟩
section
variable {X : Cx} {pins : List (Addr × Obj)} {σ : St} {H : Hp} {s s' : Shared}
theorem Inv.env0 (I : Inv X pins σ H s) : Env0 X.prog X.w X.K X.mg X.base X.A X.stack s H :=
  ⟨I.ok.frames, I.ok.mod, I.bs, Nat.le_trans I.ok.bsz I.sz, I.stack, I.stkFree, I.hok, I.bare⟩
theorem Inv.after {Q : VK} {u : Value} (I : Inv X pins σ H s) (h : CE X.stack X.prog X.w H s Q u s') : EP X pins σ Q u s' := by
  obtain ⟨v, H', os, bare, un, hok, r, q⟩ := h
  obtain ⟨hh, g, d, t, os'⟩ := s'
  obtain rfl : os' = s.os := os
  exact ⟨v, H', I.call (h' := hh) (g' := g) (d' := d) (t' := t) (ch := []) un hok bare (fun b z => absurd z (by simp)), r, q⟩
end
def tCall (sp : Sp) (dvs : List V) (E : XK) (t : TA) : TE := fun σ H Q => t σ H fun vs H1 => sp (vs ++ dvs) H1 Q E
def Binds (K : PySem.W.Frag) (fd : FuncData) (ps : List Str) (ds : List Value) : Prop :=
  ∀ (s : Shared) (us : List Value), K.In s.heap → (us ++ ds).length = ps.length → BindsTo s fd ⟨us, []⟩ (ps.zip (us ++ ds))
theorem Binds.all {K : PySem.W.Frag} {fd : FuncData} {ps : List Str} (h : ∀ us : List Value, us.length = ps.length → bindArgs fd ⟨us, []⟩ = pure (ps.zip us)) : Binds K fd ps [] := fun s us _ hl => by
  rw [List.append_nil] at hl ⊢
  exact .of_eq (h us hl)
def Passes (CX : CXT) (X : Cx) (E : XK) : Prop := ∀ (pins : List (Addr × Obj)) (σ : St) (H : Hp) (s : Shared) (e : Value) (s' : Shared), Inv X pins σ H s → CX X.stack H s E e s' → X.xe e s'
section
variable {X : Cx} {CX : CXT} {k : Nat} {f C : Addr} {fd : FuncData} {ps : List Str} {sp : Sp} {dvs : List V} {ds : List Value} {E : XK} {x m : Str} {p pos apos : Pos} {e o : Expr} {es : List Expr} {ta : TE} {t : TA}
theorem run_fn {pins : List (Addr × Obj)} {σ : St} {H : Hp} {s : Shared} {Q : VK} {us : List Value} {vs : List V} (F : FnOk X.prog X.w X.K X.mg X.base CX k f fd ps sp) (hr : Room k X.A) (hb : Binds X.K fd ps ds) (hd : Vals dvs ds) (hx : Passes CX X E)
    (I : Inv X pins σ H s) (r : Vals vs us) (h : sp (vs ++ dvs) H Q E) : wpAny (model X.prog X.w) X.A (call (.ref f) us) (EP X pins σ Q) X.xe s := by
  have r2 : Vals (vs ++ dvs) (us ++ ds) := r.append hd
  have hl : (us ++ ds).length = ps.length := by rw [← r2.length]; exact F.len _ _ _ _ h
  refine wpAny_call (codeAny_mono (F.run X.A X.stack s H ⟨us, []⟩ (us ++ ds) (vs ++ dvs) Q E hr I.env0 (hb s us I.kIn hl) r2 h) fun r s' hq => ?_)
  cases r with
  | error e => exact hx pins σ H s e s' I hq
  | ok fl =>
    cases fl with
    | ret u => exact I.after hq
    | next => exact False.elim hq
    | brk => exact False.elim hq
    | cont => exact False.elim hq
theorem pe_call (F : FnOk X.prog X.w X.K X.mg X.base CX k f fd ps sp) (hr : Room k X.A) (hg : Gl X x) (hm : X.mg x = some (.ref f)) (hk : PySem.W.keepIn X.K (.ref f) = true) (hb : Binds X.K fd ps ds) (hd : Vals dvs ds) (hx : Passes CX X E)
    (ha : PA X (e :: es) t) (hdb : (x == ("__debug__" : Str)) = false := by decide) (he : starEach (e :: es) X.env = (false, eval e X.env) :: starEach es X.env := by rfl) (hpl : (backTo pos (starEach es X.env)).any (·.1) = false := by rfl) :
    PE X (.Call (.Name x p) (e :: es) [] pos) (tCall sp dvs E t) := by
  intro pins s σ H Q I h
  refine wpAny_Call_Name_kw (ld_glob I hg hm ?_ hdb)
  refine PySem.W.callWith_K (h₀ := X.base) I.ok.mod.kin hk (thn (ha pos pins s σ H _ I h) fun us s1 ⟨vs, H1, I1, r, q⟩ => ⟨I1.kIn, ?_⟩) he hpl
  exact run_fn F hr hb hd hx I1 r q
structure Mk (K : PySem.W.Frag) (C f : Addr) : Prop where
  makes : PySem.W.makesIn K C = true
  init : PySem.W.findIn K (.ref C) "__init__" = some (some (.ref f))
  fn : PySem.W.isFn K (.ref f) = true
  kp : PySem.W.keepIn K (.ref C) = true
end
section
variable {X : Cx} {CX : CXT} {k : Nat} {f C : Addr} {fd : FuncData} {ps ks : List Str} {sp : Sp} {E : XK} {x m : Str} {p pos apos kpos : Pos} {e o : Expr} {es : List Expr} {kws : List Keyword} {te ta : TE} {t tk : TA} {nm : Option Str}
structure KBinds (K : PySem.W.Frag) (fd : FuncData) (ps ks : List Str) (g : List Value → List Value → List Value) (gV : List V → List V → List V) : Prop where
  to : ∀ (s : Shared) (us ws : List Value), K.In s.heap → (g us ws).length = ps.length → BindsTo s fd ⟨us, ks.zip ws⟩ (ps.zip (g us ws))
  rel : ∀ {vs : List V} {us : List Value} {zs : List V} {ws : List Value}, Vals vs us → Vals zs ws → Vals (gV vs zs) (g us ws)
variable {g : List Value → List Value → List Value} {gV : List V → List V → List V}
end
structure FnScope (N P : List Str) (sc : Scope) : Prop where
  kind : sc.kind = .function
  co : sc.isCoroutine = false
  gen : sc.isGenerator = false
  nd : N.Nodup
  pre : N.take P.length = P
  par : ∀ x ∈ P, sc.names.lookup x = some .local ∨ sc.names.lookup x = some .cell
  nofree : ∀ y ∈ sc.names, y.2 ≠ .free
theorem bindL_out {kindOf : Str → Option NameKind} {x : Str} : ∀ {binds : List (Str × Value)} {m : Str → Option Value}, (∀ v, (x, v) ∉ binds) → bindL kindOf binds m x = m x
  | [], _, _ => rfl
  | (n, v) :: r, m, h => by
    unfold bindL
    rw [bindL_out fun w hw => h w (List.mem_cons_of_mem _ hw)]
    split
    · have : x ≠ n := by rintro rfl; exact h v List.mem_cons_self
      simp [this]
    · rfl
theorem bindC_out {kindOf : Str → Option NameKind} {x : Str} : ∀ {binds : List (Str × Value)} {m : Str → Option Value}, (∀ v, (x, v) ∉ binds) → bindC kindOf binds m x = m x
  | [], _, _ => rfl
  | (n, v) :: r, m, h => by
    unfold bindC
    rw [bindC_out fun w hw => h w (List.mem_cons_of_mem _ hw)]
    split
    · rfl
    · have : x ≠ n := by rintro rfl; exact h v List.mem_cons_self
      simp [this]
theorem bindL_get {kindOf : Str → Option NameKind} {x : Str} {v : Value} : ∀ {P : List Str} {vs : List Value} {i : Nat} {m : Str → Option Value}, P.Nodup → P[i]? = some x → vs[i]? = some v → kindOf x = some .local →
    bindL kindOf (P.zip vs) m x = some v
  | [], _, _, _, _, h, _, _ => by simp at h
  | _ :: _, [], _, _, _, _, h, _ => by simp at h
  | p :: P, w :: vs, 0, m, nd, h1, h2, hk => by
    simp at h1 h2; subst h1; subst h2
    show bindL kindOf ((p, w) :: P.zip vs) m p = _
    unfold bindL
    rw [bindL_out fun v hv => (List.nodup_cons.mp nd).1 (List.of_mem_zip hv).1, if_pos hk]
    simp
  | p :: P, w :: vs, i + 1, m, nd, h1, h2, hk => by
    show bindL kindOf ((p, w) :: P.zip vs) m x = _
    unfold bindL
    exact bindL_get (i := i) (List.nodup_cons.mp nd).2 (by simpa using h1) (by simpa using h2) hk
theorem bindC_get {kindOf : Str → Option NameKind} {x : Str} {v : Value} : ∀ {P : List Str} {vs : List Value} {i : Nat} {m : Str → Option Value}, P.Nodup → P[i]? = some x → vs[i]? = some v → kindOf x ≠ some .local →
    bindC kindOf (P.zip vs) m x = some v
  | [], _, _, _, _, h, _, _ => by simp at h
  | _ :: _, [], _, _, _, _, h, _ => by simp at h
  | p :: P, w :: vs, 0, m, nd, h1, h2, hk => by
    simp at h1 h2; subst h1; subst h2
    show bindC kindOf ((p, w) :: P.zip vs) m p = _
    unfold bindC
    rw [bindC_out fun v hv => (List.nodup_cons.mp nd).1 (List.of_mem_zip hv).1, if_neg hk]
    simp
  | p :: P, w :: vs, i + 1, m, nd, h1, h2, hk => by
    show bindC kindOf ((p, w) :: P.zip vs) m x = _
    unfold bindC
    exact bindC_get (i := i) (List.nodup_cons.mp nd).2 (by simpa using h1) (by simpa using h2) hk
def start (N : List Str) (vs : List V) : St := vs.map some ++ List.replicate (N.length - vs.length) none
def cxOf (CX : CXT) (P : Program) (w : World) (K : PySem.W.Frag) (mg : Str → Option Value) (base : Heap) (N : List Str) (qual : Str) (scope : Scope) (f : Addr) (cd : Value) (A : Around) (outer : List Env) (s : Shared) (H : Hp) (E : XK) : Cx where
  prog := P
  w := w
  K := K
  mg := mg
  base := base
  A := A.deeper (envOfC qual scope s.heap.objs.size f cd)
  N := N
  s₀ := s
  H₀ := H
  env := envOfC qual scope s.heap.objs.size f cd
  outer := outer
  stack := envOfC qual scope s.heap.objs.size f cd :: outer
  ex := []
  calm := true
  fn := fun _ => true
  pn := []
  xe := fun e s' => wpAny (model P w) (A.deeper (envOfC qual scope s.heap.objs.size f cd)) (leaving (envOfC qual scope s.heap.objs.size f cd) e) (fun _ s'' => CX outer H s E e s'') (fun e' s'' => CX outer H s E e' s'') s'
theorem cell_has {sc : Scope} {n : Nat} {x : Str} (h : sc.names.lookup x = some .cell) : ∃ c, (cellsFrom n sc.names []).lookup x = some c := by
  have q := PySem.W.cellsFrom_some sc.names n [] (.inl h)
  exact Option.isSome_iff_exists.mp q
theorem inv_start {CX : CXT} {P : Program} {w : World} {K : PySem.W.Frag} {mg : Str → Option Value} {base : Heap} {N ps : List Str} {qual : Str} {scope : Scope} {f : Addr} {cd : Value} {A : Around} {outer : List Env} {s s1 : Shared} {H : Hp} {E : XK} {us : List Value} {vs : List V}
    (S : FnScope N ps scope) (hd : A.handled = none) (e0 : Env0 P w K mg base A outer s H) (hl : vs.length = ps.length) (r : Vals vs us)
    (x : InCallC s s.heap.objs.size (bindL (envOfC qual scope s.heap.objs.size f cd).kindOf (ps.zip us) fun _ => none) (cellsFrom (s.heap.objs.size + 1) scope.names []) (bindC (envOfC qual scope s.heap.objs.size f cd).kindOf (ps.zip us) fun _ => none) s1) :
    Inv (cxOf CX P w K mg base N qual scope f cd A outer s H E) [] (start N vs) H s1 := by
  have hpl : ps.length ≤ N.length := by have := congrArg List.length S.pre; rw [List.length_take] at this; omega
  obtain ⟨h1, tk, rfl, hk⟩ := x.done
  have noA : ∀ b : Addr, b ∉ (cxOf CX P w K mg base N qual scope f cd A outer s H E).ex := fun b z => absurd (show b ∈ ([] : List Addr) from z) (by simp)
  refine ⟨⟨e0.mod, S.kind, rfl, rfl, Nat.le_refl _, fun y z c h1 h2 => ?_, fun y hy => ?_, fun y c _ h => ?_, fun _ => hd, Around.frames_deeper e0.frames, .inr ⟨rfl, rfl⟩, fun b z => absurd z (noA b), e0.bs, e0.bsz, fun b _ _ => noA b, fun b z => absurd z (noA b), e0.funs, e0.frf⟩,
    rfl, e0.bare, Un.kept hk, ⟨_, x.toInCall.ns, fun i y v h1 h2 h3 => ?_⟩, fun y c h => ⟨_, x.cell y c h⟩, e0.hok.fresh (Nat.le_refl _), fun y c h => ?_, fun p hp => absurd (show p ∈ ([] : List (Addr × Obj)) from hp) (by simp), e0.hok.kept hk, ?_⟩
  · exact name_of_addr x.apart (PySem.mem_of_lookup h1) (PySem.mem_of_lookup h2)
  · have hy : scope.names.lookup y = some .cell ∨ scope.names.lookup y = some .free := hy
    rcases hy with hy | hy
    · exact cell_has hy
    · exact absurd rfl (S.nofree _ (PySem.mem_of_lookup hy))
  · exact Nat.le_of_lt (x.above y c (PySem.mem_of_lookup h))
  · have hi : i < vs.length := by
      unfold start at h2
      by_cases hi : i < vs.length
      · exact hi
      · rw [List.getElem?_append_right (by simpa using hi)] at h2
        rw [List.getElem?_replicate] at h2
        split at h2 <;> cases h2
    have ha : vs[i]? = some v := by
      unfold start at h2
      rw [List.getElem?_append_left (by simpa using hi), List.getElem?_map] at h2
      cases e : vs[i]? with
      | none => rw [e] at h2; cases h2
      | some a => rw [e] at h2; cases h2; rfl
    obtain ⟨u, hu, rv⟩ := r.get ha
    have hp : ps[i]? = some y := by
      rw [← S.pre, List.getElem?_take_of_lt (by omega)]; exact h1
    have ndP : ps.Nodup := by rw [← S.pre]; exact S.nd.sublist (List.take_sublist _ _)
    refine ⟨u, rv, ?_⟩
    rcases S.par y (List.mem_of_getElem? hp) with k | k
    · exact .inl ⟨k, bindL_get ndP hp hu k⟩
    · obtain ⟨c, e⟩ := cell_has (n := s.heap.objs.size + 1) k
      refine .inr ⟨.inl k, c, e, ?_⟩
      have q := x.cell y c e
      rw [bindC_get ndP hp hu (by show scope.names.lookup y ≠ _; rw [k]; decide)] at q
      exact q
  · exact e0.hok.fresh (Nat.le_of_lt (x.above y c (PySem.mem_of_lookup h)))
  · unfold start
    show _ = N.length
    rw [List.length_append, List.length_map, List.length_replicate]
    omega
theorem fn_of {CX : CXT} {P : Program} {w : World} {K : PySem.W.Frag} {mg : Str → Option Value} {base : Heap} {k : Nat} {f : Addr} {name qual : Str} {params : Arguments} {body : List Stmt} {scope : Scope} {dV kV doc pm cdv ct oc : Value} {an od : Option Addr}
    {osl : Array (Option Value)} {N ps : List Str} {sp : Sp} (lk : K.lookup f = some ⟨oc, od, .func (PySem.W.fnOf name qual params body scope dV kV doc pm an cdv ct), osl⟩) (hcd : PySem.W.codeIn K cdv qual = true) (S : FnScope N ps scope)
    (len : ∀ vs H Q E, sp vs H Q E → vs.length = ps.length)
    (hbody : ∀ (A : Around) (outer : List Env) (s : Shared) (H : Hp) (vs : List V) (Q : VK) (E : XK), Room k (A.deeper (envOfC qual scope s.heap.objs.size f cdv)) → sp vs H Q E →
      ∃ t, PSs (cxOf CX P w K mg base N qual scope f cdv A outer s H E) body t ∧ t { nx := fun _ H' => Q .non H', rt := Q } (start N vs) H) :
    FnOk P w K mg base CX (k + 1) f (PySem.W.fnOf name qual params body scope dV kV doc pm an cdv ct) ps sp := by
  refine ⟨len, fun A outer s H args us vs Q E hr e0 hb r hsp => ?_⟩
  have hl := len _ _ _ _ hsp
  have KX : K.In s.heap := e0.mod.kin.keeps fun b o e => (e0.bs b o e).1
  have lim : s.heap.NoLimit := e0.mod.nolimit.keeps fun b o e => (e0.bs b o e).1
  have hkind : ∀ y ∈ ps.zip us, scope.names.lookup y.1 = some .local ∨ (scope.names.lookup y.1 = some .cell ∧ ((cellsFrom (s.heap.objs.size + 1) scope.names []).lookup y.1).isSome = true) := fun ⟨n, v⟩ hy => by
    rcases S.par n (List.of_mem_zip hy).1 with q | q
    · exact .inl q
    · exact .inr ⟨q, PySem.W.cellsFrom_some _ _ _ (.inl q)⟩
  refine codeAny_call_function hr.depth (KX _ _ lk) rfl S.co S.gen rfl (PySem.W.codeRec_of KX hcd) (hb _ _ _ _ ?_)
  refine wpAny_newFunctionEnv_cells S.kind hkind fun env he s1 x => ?_
  subst he
  refine ⟨lim.keeps x.toInCall.keep, codeAny_func ?_⟩
  obtain ⟨t, ht, hq⟩ := hbody A outer s H vs Q E (hr.deeper _) hsp
  have I : Inv (cxOf CX P w K mg base N qual scope f cdv A outer s H E) [] (start N vs) H s1 := inv_start S hr.hd e0 hl r x
  refine wpAny_mono (ht [] s1 (start N vs) H _ I hq) (fun fl s' hs => ?_) fun e s' hs => hs
  have fin : ∀ {σ' : St} {H' : Hp} {v : V} {u : Value}, Inv (cxOf CX P w K mg base N qual scope f cdv A outer s H E) [] σ' H' s' → RelV v u → Q v H' → CE outer P w H s Q u s' :=
    fun {σ' H' v u} J rv q => ⟨v, H', J.os, J.bare, J.base, J.hok, rv, q⟩
  cases fl with
  | ret u =>
    obtain ⟨v, σ', H', J, rv, q⟩ := hs
    exact fin J rv q
  | next =>
    obtain ⟨σ', H', J, q⟩ := hs
    exact fin (v := V.non) (u := Value.none) J rfl q
  | brk =>
    obtain ⟨_, _, _, q⟩ := hs
    exact False.elim q
  | cont =>
    obtain ⟨_, _, _, q⟩ := hs
    exact False.elim q
end L2
namespace L2
open PySem PySem.Spec PyProof.Rows
section
variable {X : Cx} {x : Str} {p pos : Pos} {e : Expr} {es : List Expr} {t : TA} {id T : String} {r : List V → Hp → VK → Prop}
def tCB (r : List V → Hp → VK → Prop) (t : TA) : TE := fun σ H Q => t σ H fun vs H1 => r vs H1 Q
theorem pe_callB (hc : CallR X (.builtin id) r) (hg : Gl X x) (hm : X.mg x = none) (hv : bootBuiltins x = some (.builtin id)) (ha : PA X (e :: es) t) (hn : x ≠ "__name__" := by decide) (hdb : (x == ("__debug__" : Str)) = false := by decide)
    (he : starEach (e :: es) X.env = (false, eval e X.env) :: starEach es X.env := by rfl) (hpl : (backTo pos (starEach es X.env)).any (·.1) = false := by rfl) : PE X (.Call (.Name x p) (e :: es) [] pos) (tCB r t) := by
  intro pins s σ H Q I h
  refine wpAny_Call_Name_kw (ld_blt I hg hm hv ?_ hn hdb)
  exact PyProof.Rows.callWith_builtin1 (thn (ha pos pins s σ H _ I h) fun us s1 ⟨vs, H1, I1, r1, q1⟩ => hc pins s1 σ H1 vs us Q I1 r1 q1) he hpl
theorem pe_callTy (hc : CallR X (.type T) r) (hg : Gl X x) (hm : X.mg x = none) (hv : bootBuiltins x = some (.type T)) (ha : PA X (e :: es) t) (hn : x ≠ "__name__" := by decide) (hdb : (x == ("__debug__" : Str)) = false := by decide)
    (he : starEach (e :: es) X.env = (false, eval e X.env) :: starEach es X.env := by rfl) (hpl : (backTo pos (starEach es X.env)).any (·.1) = false := by rfl) : PE X (.Call (.Name x p) (e :: es) [] pos) (tCB r t) := by
  intro pins s σ H Q I h
  refine wpAny_Call_Name_kw (ld_blt I hg hm hv ?_ hn hdb)
  exact PyProof.Rows.callWith_type1 (thn (ha pos pins s σ H _ I h) fun us s1 ⟨vs, H1, I1, r1, q1⟩ => hc pins s1 σ H1 vs us Q I1 r1 q1) he hpl
end
end L2
namespace HT
open PySem PyProof.Rows
section
open PySem.SeqAt
open PySem.AutoSeq1 (wpAny_loadPart')
open PySem.MeetsSeq PySem.MeetsSeq2 PySem.MeetsSeq3
end
section
variable {prog : Program} {w : World} {A : Around} {E : Value → Shared → Prop} {s : Shared}
def sIx (n d : Nat) : Option Int → Nat
  | none => d
  | some v => if v < 0 then (v + (n : Int)).toNat else min v.toNat n
theorem sIx_none (n d : Nat) : sIx n d none = d := rfl
theorem sIx_nat (n d k : Nat) : sIx n d (some (k : Int)) = min k n := by
  show (if (k : Int) < 0 then ((k : Int) + (n : Int)).toNat else min (k : Int).toNat n) = min k n
  rw [if_neg (by omega), Int.toNat_natCast]
end
end HT
namespace L2
open PySem PySem.Spec PyProof.Rows
abbrev TO := St → Hp → (Option Int → Hp → Prop) → Prop
def PO (X : Cx) (e : Option Expr) (t : TO) : Prop :=
  ∀ (pins : List (Addr × Obj)) (s : Shared) (σ : St) (H : Hp) (Q : Option Int → Hp → Prop), Inv X pins σ H s → t σ H Q →
    wpAny (model X.prog X.w) X.A (evalPart e X.env) (fun u s' => ∃ o H', Inv X pins σ H' s' ∧ IsPart u o ∧ Q o H') X.xe s
def tNoPart : TO := fun _ H Q => Q none H
def tPart (t : TE) : TO := fun σ H Q => t σ H fun x H1 => ∃ i, x = .int i ∧ Q (some i) H1
theorem intsAre_of {ns : List Int} : ∀ {us : List Value}, Vals (ns.map V.int) us → IntsAre us ns := by
  induction ns with
  | nil => intro us r; rw [List.map_nil] at r; cases r; exact .nil
  | cons n ns ih =>
    intro us r
    rw [List.map_cons] at r
    cases r with
    | cons r1 r2 =>
      obtain ⟨t, e⟩ := r1
      subst e
      exact .cons n t (ih r2)
section
variable {X : Cx} {e : Expr} {te : TE} {lo hi : Option Expr} {tl th : TO} {pos p2 : Pos}
theorem po_none : PO X none tNoPart := by
  intro pins s σ H Q I h
  rw [evalPart_none]
  exact wpAny_pure ⟨none, H, I, .none, h⟩
theorem po_some (h : PE X e te) : PO X (some e) (tPart te) := by
  intro pins s σ H Q I hw
  rw [evalPart_some]
  refine thn (h pins s σ H _ I hw) fun u s1 ⟨x, H1, I1, r1, q1⟩ => ?_
  obtain ⟨i, rfl, q⟩ := q1
  obtain ⟨t, rfl⟩ := r1
  exact ⟨some i, H1, I1, .int i t, q⟩
def SlR (X : Cx) (r : V → Option Int → Option Int → Hp → VK → Prop) : Prop :=
  ∀ (pins : List (Addr × Obj)) (s : Shared) (σ : St) (H : Hp) (x : V) (v vl vu : Value) (lo hi : Option Int) (sl : Addr) (Q : VK), Inv X pins σ H s → RelV x v → s.heap.IsSliceOf sl vl vu .none → IsPart vl lo → IsPart vu hi → r x lo hi H Q →
    ∃ T id, typeLookup (.type T) "__getitem__" = pure (some (.builtin id)) ∧ s.TypeIs v T ∧ wpAny (model X.prog X.w) X.A (getItem v (.ref sl)) (EP X pins σ Q) X.xe s
theorem SlR.or {r r' : V → Option Int → Option Int → Hp → VK → Prop} (h : SlR X r) (h' : SlR X r') : SlR X (fun x lo hi H Q => r x lo hi H Q ∨ r' x lo hi H Q) := by
  intro pins s σ H x v vl vu lo hi sl Q I rx hs pl pu q
  rcases q with q | q
  · exact h pins s σ H x v vl vu lo hi sl Q I rx hs pl pu q
  · exact h' pins s σ H x v vl vu lo hi sl Q I rx hs pl pu q
def tSl (r : V → Option Int → Option Int → Hp → VK → Prop) (te : TE) (tl th : TO) : TE := fun σ H Q => te σ H fun x H1 => tl σ H1 fun l H2 => th σ H2 fun u H3 => r x l u H3 Q
theorem pe_slice {r : V → Option Int → Option Int → Hp → VK → Prop} (hr : SlR X r) (he : PE X e te) (hl : PO X lo tl) (hu : PO X hi th) : PE X (.Subscript e (.Slice lo hi none p2) pos) (tSl r te tl th) := by
  intro pins s σ H Q I h
  refine Subscript_ (thn (he pins s σ H _ I h) fun v s1 ⟨x, H1, I1, r1, q1⟩ => ?_)
  refine wpAny_Slice (thn (hl pins s1 σ H1 _ I1 q1) fun vl s2 ⟨l, H2, I2, pl, q2⟩ => thn (hu pins s2 σ H2 _ I2 q2) fun vu s3 ⟨u, H3, I3, pu, q3⟩ => ?_)
  rw [evalPart_none]
  refine wpAny_pure ?_
  have I4 : Inv X pins σ H3 { s3 with heap := s3.heap.push { cls := .type "slice", data := .fields #[vl, vu, .none] } } := I3.kept (t' := s3.toks) fun b ob q => Heap.get?_push_of_some _ q
  obtain ⟨T, id, hT, ht, hg⟩ := hr pins { s3 with heap := s3.heap.push { cls := .type "slice", data := .fields #[vl, vu, .none] } } σ H3 x v vl vu l u s3.heap.objs.size Q I4 r1 (Heap.IsSliceOf.new ..) pl pu q3
  show wpAny (model X.prog X.w) X.A (subscriptTail e (.Slice lo hi none p2) v (.ref s3.heap.objs.size)) (EP X pins σ Q) X.xe { s3 with heap := s3.heap.push { cls := .type "slice", data := .fields #[vl, vu, .none] } }
  exact tail_any (ops := [.ref s3.heap.objs.size, v]) ht hT hg (by with_unfolding_all rfl)
def cutV (xs : List V) (lo hi : Option Int) : List V := (xs.drop (HT.sIx xs.length 0 lo)).take (HT.sIx xs.length xs.length hi - HT.sIx xs.length 0 lo)
theorem cutV_length (xs : List V) (lo hi : Option Int) : (cutV xs lo hi).length ≤ xs.length := by
  unfold cutV
  rw [List.length_take, List.length_drop]
  omega
end
end L2
namespace L2
open PySem PySem.Spec PyProof.Rows
def ixN (n : Nat) (i : Int) : Option Nat := if 0 ≤ i then (if i < n then some i.toNat else none) else if -(n : Int) ≤ i then some (i + n).toNat else none
def atI {α : Type} (xs : List α) (i : Int) : Option α := (ixN xs.length i).bind fun j => xs[j]?
theorem ixN_seq {n : Nat} {i : Int} {j : Nat} (h : ixN n i = some j) : seqIndex? i n = some j ∧ j < n ∧ -(n : Int) ≤ i ∧ i < n := by
  unfold ixN at h
  by_cases h0 : 0 ≤ i
  · rw [if_pos h0] at h
    by_cases h1 : i < n
    · rw [if_pos h1] at h
      have e : i.toNat = j := Option.some.inj h
      exact ⟨by rw [seqIndex_of h0 h1, e], by omega, by omega, h1⟩
    · rw [if_neg h1] at h; cases h
  · rw [if_neg h0] at h
    by_cases h1 : -(n : Int) ≤ i
    · rw [if_pos h1] at h
      have e : (i + n).toNat = j := Option.some.inj h
      exact ⟨by rw [seqIndex_neg (by omega) h1, e], by omega, h1, by omega⟩
    · rw [if_neg h1] at h; cases h
theorem atI_get {α : Type} {xs : List α} {i : Int} {v : α} (h : atI xs i = some v) : ∃ j, seqIndex? i xs.length = some j ∧ xs[j]? = some v ∧ j < xs.length ∧ -(xs.length : Int) ≤ i ∧ i < xs.length := by
  unfold atI at h
  cases e : ixN xs.length i with
  | none => rw [e] at h; cases h
  | some j =>
    rw [e] at h
    obtain ⟨h1, h2, h3, h4⟩ := ixN_seq e
    exact ⟨j, h1, h, h2, h3, h4⟩
theorem atI_nat {α : Type} {xs : List α} {j : Nat} {v : α} (h : xs[j]? = some v) : atI xs (j : Int) = some v := by
  have hj : j < xs.length := (List.getElem?_eq_some_iff.mp h).1
  have e : ixN xs.length (j : Int) = some j := by
    unfold ixN
    rw [if_pos (by omega), if_pos (by omega)]; simp
  unfold atI; rw [e]; exact h
theorem atI_last {α : Type} (xs : List α) (v : α) : atI (xs ++ [v]) (-1) = some v := by
  have hl : (xs ++ [v]).length = xs.length + 1 := by simp
  have e : ixN (xs ++ [v]).length (-1) = some xs.length := by
    unfold ixN
    rw [hl, if_neg (by decide), if_pos (by omega)]
    congr 1
    omega
  unfold atI
  rw [e]
  show (xs ++ [v])[xs.length]? = some v
  simp
def PlainIx (b : Expr) : Prop := ∀ o i, subscripted b false o i = operate [o, i] (getItem o i)
def IxR (X : Cx) (r : R2) : Prop :=
  ∀ (value slice : Expr) (pins : List (Addr × Obj)) (s : Shared) (σ : St) (H : Hp) (x y : V) (v u : Value) (Q : VK), Inv X pins σ H s → RelV x v → RelV y u → r x y H Q →
    subscripted slice false v u = operate [v, u] (getItem v u) → wpAny (model X.prog X.w) X.A (subscriptTail value slice v u) (EP X pins σ Q) X.xe s
def MtR (X : Cx) (id : String) (r : V → List V → Hp → VK → Prop) : Prop :=
  ∀ (pins : List (Addr × Obj)) (s : Shared) (σ : St) (H : Hp) (x : V) (xs : List V) (v : Value) (us : List Value) (Q : VK), Inv X pins σ H s → RelV x v → Vals xs us → r x xs H Q →
    wpAny (model X.prog X.w) X.A (call (.builtin id) (v :: us)) (EP X pins σ Q) X.xe s
section
variable {X : Cx} {a b : Expr} {ta tb : TE} {pos : Pos}
theorem IxR.or {r r' : R2} (h : IxR X r) (h' : IxR X r') : IxR X (fun x y H Q => r x y H Q ∨ r' x y H Q) := by
  intro value slice pins s σ H x y v u Q I rx ry q hs
  rcases q with q | q
  · exact h value slice pins s σ H x y v u Q I rx ry q hs
  · exact h' value slice pins s σ H x y v u Q I rx ry q hs
theorem MtR.or {id : String} {r r' : V → List V → Hp → VK → Prop} (h : MtR X id r) (h' : MtR X id r') : MtR X id (fun x xs H Q => r x xs H Q ∨ r' x xs H Q) := by
  intro pins s σ H x xs v us Q I rx rs q
  rcases q with q | q
  · exact h pins s σ H x xs v us Q I rx rs q
  · exact h' pins s σ H x xs v us Q I rx rs q
theorem pe_ix {r : R2} (hr : IxR X r) (ha : PE X a ta) (hb : PE X b tb) (hs : PlainIx b) : PE X (.Subscript a b pos) (tOp r ta tb) := by
  intro pins s σ H Q I h
  exact Subscript_ (binT ha hb I h fun v u s2 x y H2 I2 rx ry q => hr a b pins s2 σ H2 x y v u Q I2 rx ry q (hs _ _))
def rIxL (K : PySem.W.Frag) : R2 := fun x y H Q => ∃ p xs i v, x = .ref p ∧ y = .int i ∧ SqL K H p xs ∧ atI xs i = some v ∧ Q v H
def rIxT (K : PySem.W.Frag) : R2 := fun x y H Q => ∃ p xs i v, x = .ref p ∧ y = .int i ∧ SqT K H p xs ∧ atI xs i = some v ∧ Q v H
def rIxS : R2 := fun x y H Q => ∃ z i c, x = .str z ∧ y = .int i ∧ z.length ≤ sizeLine ∧ atI z.cps.toList i = some c ∧ Q (.str ⟨#[c]⟩) H
theorem ix_list : IxR X (rIxL X.K) := by
  intro value slice pins s σ H x y v u Q I rx ry h hs
  obtain ⟨p, xs, i, z, rfl, rfl, hq, he, q⟩ := h
  cases rx
  obtain ⟨t, rfl⟩ := ry
  obtain ⟨its, r, pl, hz⟩ := I.list hq
  obtain ⟨j, h1, h2, h3, h4, h5⟩ := atI_get he
  obtain ⟨w, ew, rw'⟩ := r.get h2
  have hl := r.length
  have hn := line63
  have fin : EP X pins σ Q w s := ⟨z, H, I, rw', q⟩
  by_cases h0 : 0 ≤ i
  · have hj : i.toNat = j := by
      rw [seqIndex_of h0 h5] at h1
      exact Option.some.inj h1
    exact item_listR pl.isList h0 (by omega) (by rw [hj]; simpa using ew) fin hs
  · have hj : (i + (its.toArray.size : Int)).toNat = j := by
      rw [seqIndex_neg (by omega) h4] at h1
      rw [List.size_toArray, ← hl]
      exact Option.some.inj h1
    exact subscriptTail_builtinR (x := w) pl.isList.typeIs slot_list_getitem.lookup
      (wpAny_getItem_list_neg (Q := fun r s' => r = w ∧ EP X pins σ Q r s') pl.isList (by omega) (by rw [List.size_toArray] <;> omega) (by omega) (by rw [hj]; simpa using ew) ⟨rfl, fin⟩) hs
theorem ix_tup : IxR X (rIxT X.K) := by
  intro value slice pins s σ H x y v u Q I rx ry h hs
  obtain ⟨p, xs, i, z, rfl, rfl, hq, he, q⟩ := h
  cases rx
  obtain ⟨t, rfl⟩ := ry
  obtain ⟨its, r, pl, hz⟩ := I.tuple hq
  obtain ⟨j, h1, h2, h3, h4, h5⟩ := atI_get he
  obtain ⟨w, ew, rw'⟩ := r.get h2
  have hl := r.length
  have hn := line63
  have fin : EP X pins σ Q w s := ⟨z, H, I, rw', q⟩
  exact subscriptTail_builtinR (x := w) pl.typeIs slot_tuple_getitem.lookup
    (getItem_tuple (j := j) (Q := fun r s' => r = w ∧ EP X pins σ Q r s') pl (by omega) (by omega) (by rw [List.size_toArray, ← hl]; exact h1) (by simpa using ew) ⟨rfl, fin⟩) hs
theorem ix_str : IxR X rIxS := by
  intro value slice pins s σ H x y v u Q I rx ry h hs
  obtain ⟨z, i, c, rfl, rfl, hz, he, q⟩ := h
  obtain ⟨t, rfl⟩ := rx
  obtain ⟨t', rfl⟩ := ry
  obtain ⟨j, h1, h2, h3, h4, h5⟩ := atI_get he
  have hl : z.cps.toList.length = z.length := by simp [Str.length]
  rw [hl] at h1 h4 h5
  have hn := line63
  exact tail_any (typeIs_str s z t) slot_str_getitem.lookup (getItem_str (c := c) (by
    have e1 : decide (i < -(2 ^ 63 : Int)) = false := decide_eq_false (by omega)
    have e2 : decide (i ≥ 2 ^ 63) = false := decide_eq_false (by omega)
    rw [e1, e2, Bool.or_false]) (by rw [h1]; simpa using h2) ⟨.str ⟨#[c]⟩, H, I.tok _, ⟨_, rfl⟩, q⟩) hs
theorem mapSeq_set (its : List Value) (n j : Nat) (u : Value) : Obj.mapSeq (·.setIfInBounds j u) { cls := .type "list", data := .seq its.toArray n } = { cls := .type "list", data := .seq (its.set j u).toArray n } := by
  simp [Obj.mapSeq]
theorem Inv.lst {pins : List (Addr × Obj)} {σ : St} {H : Hp} {s : Shared} {p : Addr} {xs : List V} (I : Inv X pins σ H s) (h : H p = some (.lst xs)) :
    ∃ (its : List Value) (n : Nat), Vals xs its ∧ s.heap.get? p = some { cls := .type "list", data := .seq its.toArray n } ∧ xs.length ≤ sizeLine := by
  obtain ⟨z, its, n, r, e⟩ := I.hok p _ h
  exact ⟨its, n, r, e, z⟩
theorem Inv.lstUpd {pins : List (Addr × Obj)} {σ : St} {H : Hp} {s : Shared} {p : Addr} {xs ys : List V} {its its' : List Value} {n n' : Nat} {f : Obj → Obj} (I : Inv X pins σ H s) (h : H p = some (.lst xs))
    (ho : s.heap.get? p = some { cls := .type "list", data := .seq its.toArray n }) (hf : f { cls := .type "list", data := .seq its.toArray n } = { cls := .type "list", data := .seq its'.toArray n' }) (r : Vals ys its') (hz : ys.length ≤ sizeLine) (t : Nat) :
    Inv X pins σ (upd H p (.lst ys)) { s with heap := s.heap.update p f, toks := t } := by
  have e : (s.heap.update p f).get? p = some { cls := .type "list", data := .seq its'.toArray n' } := by
    rw [Heap.get?_update_self f ho (by rw [hf] <;> rfl), hf]
  refine I.write (x := p) (e := p) (by rw [h]; trivial) (.inl rfl) (fun b u hb q => (Heap.get?_update_other _ _ (Ne.symm hb)).trans q) ⟨_, e⟩ ?_
  exact ⟨hz, its', n', r, e⟩
def rSetL : V → V → V → Hp → (Hp → Prop) → Prop := fun o i v H Q => ∃ p xs k j, o = .ref p ∧ i = .int k ∧ H p = some (.lst xs) ∧ ixN xs.length k = some j ∧ Q (upd H p (.lst (xs.set j v)))
theorem set_list : PSet X rSetL := by
  intro pins s σ H o i v ov iv u Q I ro ri rv h
  obtain ⟨p, xs, k, j, rfl, rfl, hp, hj, q⟩ := h
  cases ro
  obtain ⟨t, rfl⟩ := ri
  obtain ⟨its, n, r, ho, hz⟩ := I.lst hp
  obtain ⟨h1, h2, h3, h4⟩ := ixN_seq hj
  have hl := r.length
  have hn := line63
  have I' : Inv X pins σ (upd H p (.lst (xs.set j v))) { s with heap := s.heap.update p (Obj.mapSeq (·.setIfInBounds j u)) } :=
    I.lstUpd hp ho (mapSeq_set its n j u) (r.set rv j) (by rw [List.length_set]; exact hz) s.toks
  by_cases h0 : 0 ≤ k
  · have hk : k.toNat = j := by
      rw [seqIndex_of h0 h4] at h1
      exact Option.some.inj h1
    exact PySem.W.ki_setAt ho h0 (by omega) (by rw [List.size_toArray, ← hl]; exact h4) (by rw [hk]; exact ⟨_, I', q⟩)
  · have hk : (k + (its.toArray.size : Int)).toNat = j := by
      rw [seqIndex_neg (by omega) h3] at h1
      rw [List.size_toArray, ← hl]
      exact Option.some.inj h1
    exact PySem.W.ki_setBack ho (by omega) (by rw [List.size_toArray, ← hl]; exact h3) (by omega) (by rw [hk]; exact ⟨_, I', q⟩)
theorem slice_bounds (lo hi : Option Int) (n : Nat) : (sliceBounds lo hi none n).1 = ((HT.sIx n 0 lo : Nat) : Int) ∧ (sliceBounds lo hi none n).2.1 = ((HT.sIx n n hi : Nat) : Int) ∧ (sliceBounds lo hi none n).2.2 = 1 := by
  refine ⟨?_, ?_, rfl⟩
  · cases lo with
    | none => simp [sliceBounds, HT.sIx]
    | some i =>
      simp only [sliceBounds, HT.sIx, Option.getD_none, show (1 : Int) > 0 by decide, if_true]
      by_cases h : i < 0
      · simp only [h, if_true] <;> omega
      · simp only [h, if_false] <;> omega
  · cases hi with
    | none => simp [sliceBounds, HT.sIx]
    | some i =>
      simp only [sliceBounds, HT.sIx, Option.getD_none, show (1 : Int) > 0 by decide, if_true]
      by_cases h : i < 0
      · simp only [h, if_true] <;> omega
      · simp only [h, if_false] <;> omega
theorem slicePick_cut (its : List Value) (lo hi : Option Int) : slicePick its.toArray lo hi none = ((its.drop (HT.sIx its.length 0 lo)).take (HT.sIx its.length its.length hi - HT.sIx its.length 0 lo)).toArray := by
  obtain ⟨h1, h2, h3⟩ := slice_bounds lo hi its.toArray.size
  unfold slicePick
  rw [h1, h2, h3]
  simp only [sliceRange_one, pick_run, List.size_toArray] <;> rfl
def rSlL (K : PySem.W.Frag) : V → Option Int → Option Int → Hp → VK → Prop := fun x lo hi H Q => ∃ a xs, x = .ref a ∧ SqL K H a xs ∧ ∀ p, H p = none → Q (.ref p) (upd H p (.lst (cutV xs lo hi)))
theorem sl_list : SlR X (rSlL X.K) := by
  intro pins s σ H x v vl vu lo hi sl Q I rx hs pl pu h
  obtain ⟨a, xs, rfl, hx, q⟩ := h
  cases rx
  obtain ⟨its, r, ht, hz⟩ := I.list hx
  have hlen := r.length
  refine ⟨"list", _, slot_list_getitem.lookup, ht.isList.typeIs, ?_⟩
  refine wpAny_getItem_list_slice ht.isList hs pl pu .none (by simp) ?_ (by rw [List.size_toArray] <;> omega)
  rw [slicePick_cut, ← hlen]
  refine ⟨.ref s.heap.objs.size, _, I.laid (t' := s.toks) (o := .lst (cutV xs lo hi)) (fun b ob q => Heap.get?_push_of_some _ q) (Nat.le_refl _) ?_, rfl, q _ (I.hok.fresh (Nat.le_refl _))⟩
  exact ⟨Nat.le_trans (cutV_length xs lo hi) hz, _, 0, (r.drop (HT.sIx xs.length 0 lo)).take (HT.sIx xs.length xs.length hi - HT.sIx xs.length 0 lo), Heap.get?_push_size _ rfl⟩
def flatV : V → Bool
  | .non => true
  | .bl _ => true
  | .int _ => true
  | .str _ => true
  | _ => false
def eqV : V → V → Bool
  | .non, .non => true
  | .bl a, .bl b => a == b
  | .bl a, .int b => (if a then 1 else 0) == b
  | .int a, .bl b => a == (if b then 1 else 0)
  | .int a, .int b => a == b
  | .str a, .str b => a == b
  | _, _ => false
theorem eqAt_V {A : Around} {s : Shared} {y x : V} {u v : Value} (ry : RelV y u) (rx : RelV x v) (fy : flatV y = true) (fx : flatV x = true) : SeqAt.EqAt A s u v (eqV y x) := by
  cases y with
  | non =>
    cases ry
    cases x with
    | non => cases rx; exact SeqAt.EqAt.same _
    | bl b => cases rx; exact SeqAt.EqAt.none_bool b
    | int b => obtain ⟨t, rfl⟩ := rx; exact SeqAt.EqAt.none_int b t
    | str b => obtain ⟨t, rfl⟩ := rx; exact SeqAt.EqAt.none_str b t
    | _ => exact absurd (show false = true from fx) Bool.false_ne_true
  | bl a =>
    cases ry
    cases x with
    | non => cases rx; exact SeqAt.EqAt.bool_none a
    | bl b => cases rx; exact SeqAt.EqAt.bool_bool a b
    | int b => obtain ⟨t, rfl⟩ := rx; exact SeqAt.EqAt.bool_int a b t
    | str b => obtain ⟨t, rfl⟩ := rx; exact SeqAt.EqAt.bool_str a b t
    | _ => exact absurd (show false = true from fx) Bool.false_ne_true
  | int a =>
    obtain ⟨t', rfl⟩ := ry
    cases x with
    | non => cases rx; exact SeqAt.EqAt.int_none a t'
    | bl b => cases rx; exact SeqAt.EqAt.int_bool a t' b
    | int b => obtain ⟨t, rfl⟩ := rx; exact SeqAt.EqAt.int_int a t' b t
    | str b => obtain ⟨t, rfl⟩ := rx; exact SeqAt.EqAt.int_str a t' b t
    | _ => exact absurd (show false = true from fx) Bool.false_ne_true
  | str a =>
    obtain ⟨t', rfl⟩ := ry
    cases x with
    | non => cases rx; exact SeqAt.EqAt.str_none a t'
    | bl b => cases rx; exact SeqAt.EqAt.str_bool a t' b
    | int b => obtain ⟨t, rfl⟩ := rx; exact SeqAt.EqAt.str_int a t' b t
    | str b => obtain ⟨t, rfl⟩ := rx; exact SeqAt.EqAt.str_str a t' b t
    | _ => exact absurd (show false = true from fx) Bool.false_ne_true
  | _ => exact absurd (show false = true from fy) Bool.false_ne_true
theorem call_len_seq : CallR X (.builtin "len") (fun xs H Q => ∃ p ys, xs = [.ref p] ∧ (SqL X.K H p ys ∨ SqT X.K H p ys) ∧ Q (.int ys.length) H) := by
  intro pins s σ H xs us Q I r h
  obtain ⟨p, ys, rfl, hq, q⟩ := h
  obtain ⟨u, rfl, rx⟩ := vals1 r
  cases rx
  have hn := line63
  rcases hq with hq | hq
  · obtain ⟨its, r', pl, hz⟩ := I.list hq
    have hlen := r'.length
    exact Calls.call_len_list pl.isList (by simp only [List.size_toArray] <;> omega) ⟨.int ys.length, H, I.tok _, ⟨s.toks + 1, by rw [List.size_toArray, hlen]⟩, q⟩
  · obtain ⟨its, r', pl, hz⟩ := I.tuple hq
    have hlen := r'.length
    exact len_tuple pl (by simp only [List.size_toArray] <;> omega) ⟨.int ys.length, H, I.tok _, ⟨s.toks + 1, by rw [List.size_toArray, hlen]⟩, q⟩
theorem call_len_str : CallR X (.builtin "len") (fun xs H Q => ∃ z, xs = [.str z] ∧ z.length ≤ sizeLine ∧ Q (.int z.length) H) := by
  intro pins s σ H xs us Q I r h
  obtain ⟨z, rfl, hz, q⟩ := h
  obtain ⟨u, rfl, t, rfl⟩ := vals1 r
  have hn := line63
  exact len_str (by omega) ⟨.int z.length, H, I.tok _, ⟨_, rfl⟩, q⟩
theorem CallR.or {f : Value} {r r' : List V → Hp → VK → Prop} (h : CallR X f r) (h' : CallR X f r') : CallR X f (fun xs H Q => r xs H Q ∨ r' xs H Q) := by
  intro pins s σ H xs us Q I rs q
  rcases q with q | q
  · exact h pins s σ H xs us Q I rs q
  · exact h' pins s σ H xs us Q I rs q
theorem call_list_of : CallR X (.type "list") (fun xs H Q => ∃ p ys, xs = [.ref p] ∧ (SqL X.K H p ys ∨ SqT X.K H p ys) ∧ ∀ l, H l = none → Q (.ref l) (upd H l (.lst ys))) := by
  intro pins s σ H xs us Q I r h
  obtain ⟨p, ys, rfl, hq, q⟩ := h
  obtain ⟨u, rfl, rx⟩ := vals1 r
  cases rx
  have fin : ∀ (its : List Value), Vals ys its → ys.length ≤ sizeLine → ∀ (h' : Heap) (c' : Nat), (∀ b o', s.heap.get? b = some o' → h'.get? b = some o') →
      h'.get? s.heap.objs.size = some { cls := .type "list", dict := none, data := .seq its.toArray c', slots := #[] } → EP X pins σ Q (.ref s.heap.objs.size) { s with heap := h' } := fun its r' hz h' c' kp e =>
    ⟨.ref s.heap.objs.size, _, I.laid (t' := s.toks) kp (Nat.le_refl _) (show ObjOk X.prog X.w _ h' _ (.lst ys) from ⟨hz, its, c', r', e⟩), rfl, q _ (I.hok.fresh (Nat.le_refl _))⟩
  rcases hq with hq | hq
  · obtain ⟨its, r', pl, hz⟩ := I.list hq
    have hlen := r'.length
    obtain ⟨o, ho, hc, n, hd⟩ := pl.isList
    exact call_list_seq p (.inl rfl) ho hc hd (fun h' c' kp e => fin its r' hz h' c' kp e) (by simp only [List.size_toArray] <;> omega)
  · obtain ⟨its, r', pl, hz⟩ := I.tuple hq
    have hlen := r'.length
    obtain ⟨o, ho, hc, n, hd⟩ := pl
    exact call_list_seq p (.inr rfl) ho hc hd (fun h' c' kp e => fin its r' hz h' c' kp e) (by simp only [List.size_toArray] <;> omega)
theorem call_tuple_of : CallR X (.type "tuple") (fun xs H Q => ∃ p ys, xs = [.ref p] ∧ ((SqL X.K H p ys ∧ ∀ l, H l = none → Q (.ref l) (upd H l (.tup ys))) ∨ (SqT X.K H p ys ∧ Q (.ref p) H))) := by
  intro pins s σ H xs us Q I r h
  obtain ⟨p, ys, rfl, h⟩ := h
  obtain ⟨u, rfl, rx⟩ := vals1 r
  cases rx
  rcases h with ⟨hq, q⟩ | ⟨hq, q⟩
  · obtain ⟨its, r', pl, hz⟩ := I.list hq
    have hlen := r'.length
    refine call_tuple_list pl.isList (fun h' kp => ?_) (by simp only [List.size_toArray] <;> omega)
    have I1 : Inv X pins σ H { s with heap := h' } := I.kept (t' := s.toks) kp
    have I2 : Inv X pins σ (upd H h'.objs.size (.tup ys)) { s with heap := h'.push { cls := .type "tuple", data := .seq its.toArray } } :=
      I1.laid (t' := s.toks) (fun b o e => Heap.get?_push_of_some _ e) (Nat.le_refl _) (show ObjOk X.prog X.w _ _ _ (.tup ys) from ⟨hz, its, r', IsTup.new _ _, _, Heap.get?_push_size _ rfl, rfl⟩)
    exact ⟨.ref h'.objs.size, _, I2, rfl, q _ (I1.hok.fresh (Nat.le_refl _))⟩
  · obtain ⟨its, r', pl, hz⟩ := I.tuple hq
    exact call_tuple_same pl ⟨.ref p, H, I, rfl, q⟩
def tyV (K : PySem.W.Frag) (T : String) (x : V) (H : Hp) : Prop := match x with
  | .str _ => T = "str"
  | .int _ => T = "int"
  | .ref p => (T = "list" ∧ ∃ xs, SqL K H p xs) ∨ (T = "tuple" ∧ ∃ o, K.lookup p = some o ∧ o.cls = .type "tuple" ∧ o.dict = none) ∨
      (T = "dict" ∧ ((∃ kvs, H p = some (.dK kvs)) ∨ ∃ kvs, H p = some (.dT kvs))) ∨ (T = "set" ∧ ∃ S n, H p = some (.set S n))
  | _ => False
theorem tyV_is {pins : List (Addr × Obj)} {σ : St} {H : Hp} {s : Shared} {T : String} {x : V} {v : Value} (I : Inv X pins σ H s) (r : RelV x v) (ty : tyV X.K T x H) :
    s.TypeIs v T ∧ ∀ a, v = .ref a → ∃ ob, s.heap.get? a = some ob ∧ ob.dict = none := by
  cases x with
  | str z =>
    obtain ⟨t, rfl⟩ := r
    cases (show T = "str" from ty)
    exact ⟨typeIs_str s z t, fun _ e => nomatch e⟩
  | int i =>
    obtain ⟨t, rfl⟩ := r
    cases (show T = "int" from ty)
    exact ⟨typeIs_int s i t, fun _ e => nomatch e⟩
  | ref p =>
    cases r
    rcases ty with ⟨rfl, xs, hq⟩ | ⟨rfl, o, hk, hc, hd⟩ | ⟨rfl, hk⟩ | ⟨rfl, S, n, hk⟩
    · obtain ⟨its, _, pl, _⟩ := I.list hq
      refine ⟨pl.isList.typeIs, fun a e => ?_⟩
      cases e
      obtain ⟨o, n, e, c, hd, _⟩ := pl
      exact ⟨o, e, hd⟩
    · refine ⟨⟨o, I.kIn p o hk, hc⟩, fun a e => ?_⟩
      cases e
      exact ⟨o, I.kIn _ o hk, hd⟩
    · have z : ∃ o, s.heap.get? p = some o ∧ o.ExactDict := by
        rcases hk with ⟨kvs, hk⟩ | ⟨kvs, hk⟩
        · obtain ⟨_, _, _, _, o, _, _, e, ex, _⟩ := I.hok p _ hk
          exact ⟨o, e, ex⟩
        · obtain ⟨_, _, _, _, o, _, _, e, ex, _⟩ := I.hok p _ hk
          exact ⟨o, e, ex⟩
      obtain ⟨o, e, ex⟩ := z
      refine ⟨⟨o, e, ex.1⟩, fun a e2 => ?_⟩
      cases e2
      exact ⟨o, e, ex.2.1⟩
    · obtain ⟨o, _, _, _, e, ex, _⟩ := I.hok p _ hk
      refine ⟨⟨o, e, ex.1⟩, fun a e2 => ?_⟩
      cases e2
      exact ⟨o, e, ex.2.1⟩
  | _ => exact False.elim ty
def tBM (K : PySem.W.Frag) (T : String) (r : V → List V → Hp → VK → Prop) (to : TE) (t : TA) : TE := fun σ H Q => to σ H fun x H1 => tyV K T x H1 ∧ t σ H1 fun xs H2 => r x xs H2 Q
variable {o e : Expr} {es : List Expr} {to : TE} {t : TA} {name : Str} {apos cpos : Pos} {T id : String} {r : V → List V → Hp → VK → Prop}
theorem pe_bm (pa : PlainAttrs T) (slot : Slot T name id) (hty : typeOf (.builtin id) = pure (.type "method_descriptor")) (hm : MtR X id r) (ho : PE X o to) (ha : PA X (e :: es) t)
    (hbase : attributeBase o name X.env (eval o X.env) = eval o X.env := by rfl)
    (hfew : ((backTo cpos (starEach (e :: es) X.env)).all (fun x => !x.1) && (backToKw cpos (keywordEach [] X.env)).all (fun x => x.1.isSome)
      && decide ((e :: es).length + ([] : List Keyword).length + (if ([] : List Keyword).isEmpty then 0 else 1) < 30)) = true := by rfl)
    (hline : (apos.endLine == cpos.line) = true := by rfl) (hs : starEach (e :: es) X.env = (false, eval e X.env) :: starEach es X.env := by rfl) (hplain : (backTo cpos (starEach es X.env)).any (·.1) = false := by rfl) :
    PE X (.Call (.Attribute o name apos) (e :: es) [] cpos) (tBM X.K T r to t) := by
  intro pins s σ H Q I h
  refine wpAny_Call_method_late hbase hfew hline rfl (thn (ho pins s σ H _ I h) fun v s1 ⟨x, H1, I1, r1, ty, q1⟩ => ?_)
  obtain ⟨h1, h2⟩ := tyV_is I1 r1 ty
  refine ⟨T, id, pa, slot, hty, h1, h2, ?_⟩
  have hA := ha cpos pins s1 σ H1 _ I1 q1
  rw [hs] at hA ⊢
  refine Calls.callWith_builtin (by show (false || (backTo cpos (starEach es X.env)).any (·.1)) = false; rw [hplain] <;> rfl) (Calls.evalArgs_plain ?_)
  exact thn hA fun us s2 ⟨vs, H2, I2, r2, q2⟩ => hm pins s2 σ H2 x vs v us Q I2 r1 r2 q2
/- xs.append(e), list.index on a module's tuple .. are MtR facts of 06m -/
end
end L2
namespace L2
open PySem PySem.Spec PyProof.Rows
def MtM (X : Cx) (id : String) (r : V → List V → Hp → VK → Prop) : Prop :=
  ∀ (pins : List (Addr × Obj)) (s : Shared) (σ : St) (H : Hp) (x : V) (xs : List V) (v : Value) (us : List Value) (Q : VK), Inv X pins σ H s → RelV x v → Vals xs us → r x xs H Q →
    wpAny (model X.prog X.w) X.A (call (.builtin id) (v :: us)) (EP X pins σ Q) X.xe s
theorem Vals.one : ∀ {x : V} {us : List Value}, Vals [x] us → ∃ u, us = [u] ∧ RelV x u
  | _, _, .cons r .nil => ⟨_, rfl, r⟩
theorem Vals.two : ∀ {x y : V} {us : List Value}, Vals [x, y] us → ∃ u v, us = [u, v] ∧ RelV x u ∧ RelV y v
  | _, _, _, .cons r (.cons q .nil) => ⟨_, _, rfl, r, q⟩
theorem Vals.zero : ∀ {us : List Value}, Vals [] us → us = []
  | _, .nil => rfl
theorem Vals.eraseIdx : ∀ {xs : List V} {us : List Value} (i : Nat), Vals xs us → Vals (xs.eraseIdx i) (us.eraseIdx i)
  | _, _, _, .nil => .nil
  | _, _, 0, .cons _ t => t
  | _, _, i + 1, .cons r t => .cons r (Vals.eraseIdx i t)
theorem Vals.reverse {xs : List V} {us : List Value} (h : Vals xs us) : Vals xs.reverse us.reverse := by
  induction h with
  | nil => exact .nil
  | cons r t ih => rw [List.reverse_cons, List.reverse_cons]; exact Vals.append ih (.cons r .nil)
theorem Vals.rep {xs : List V} {us : List Value} (h : Vals xs us) : ∀ k : Nat, Vals (List.replicate k xs).flatten (List.replicate k us).flatten
  | 0 => .nil
  | k + 1 => by
    rw [List.replicate_succ, List.replicate_succ, List.flatten_cons, List.flatten_cons]
    exact Vals.append h (Vals.rep h k)
theorem len_erase {α : Type} : ∀ (l : List α) (i : Nat), (l.eraseIdx i).length ≤ l.length
  | [], _ => Nat.le_refl _
  | _ :: _, 0 => Nat.le_succ _
  | _ :: r, i + 1 => Nat.succ_le_succ (len_erase r i)
theorem foldl_rep (its : List Value) : ∀ (k : Nat) (acc : List Value),
    List.foldl (fun x1 x2 => x1 ++ x2) acc.toArray (List.replicate k its.toArray) = (acc ++ (List.replicate k its).flatten).toArray
  | 0, acc => by simp
  | k + 1, acc => by
    have e : acc.toArray ++ its.toArray = (acc ++ its).toArray := by simp
    have e2 : (acc ++ its) ++ (List.replicate k its).flatten = acc ++ (List.replicate (k + 1) its).flatten := by
      rw [List.replicate_succ, List.flatten_cons, List.append_assoc]
    rw [← e2, ← foldl_rep its k (acc ++ its), ← e, List.replicate_succ, List.foldl_cons]
section
variable {X : Cx} {pins : List (Addr × Obj)} {σ : St} {H : Hp} {s : Shared} {l b : Addr} {xs ys zs : List V}
theorem Inv.lset {its its' : List Value} {n : Nat} {f : Array Value → Array Value} {t' : Nat} (I : Inv X pins σ H s) (hH : H l = some (.lst xs))
    (e : s.heap.get? l = some { cls := .type "list", data := .seq its.toArray n }) (hf : f its.toArray = its'.toArray) (hv : Vals ys its') (hz : ys.length ≤ sizeLine) :
    Inv X pins σ (upd H l (.lst ys)) { s with heap := s.heap.update l (Obj.mapSeq f), toks := t' } := by
  have q := PySem.IsL.update e f
  rw [hf] at q
  refine I.write (x := l) (e := l) (by rw [hH]; exact trivial) (.inl rfl) (fun b' u hb hu => (Heap.get?_update_other s.heap (Obj.mapSeq f) (Ne.symm hb)).trans hu) ⟨_, q⟩ ?_
  exact ⟨hz, its', _, hv, q⟩
theorem Inv.lnew {its : List Value} {t' : Nat} (I : Inv X pins σ H s) (hv : Vals ys its) (hz : ys.length ≤ sizeLine) :
    Inv X pins σ (upd H s.heap.objs.size (.lst ys)) { s with heap := s.heap.push { cls := .type "list", data := .seq its.toArray }, toks := t' } :=
  I.laid (fun _ _ q => Heap.get?_push_of_some _ q) (Nat.le_refl _) ⟨hz, its, 0, hv, Heap.get?_push_size _ rfl⟩
theorem Inv.fresh (I : Inv X pins σ H s) : H s.heap.objs.size = none := I.hok.fresh (Nat.le_refl _)
theorem Inv.lstM (I : Inv X pins σ H s) (hH : H l = some (.lst xs)) : xs.length ≤ sizeLine ∧ ∃ (its : List Value) (n : Nat), Vals xs its ∧ xs.length = its.length ∧ s.heap.get? l = some { cls := .type "list", data := .seq its.toArray n } := by
  obtain ⟨z, its, n, r, e⟩ := I.hok l _ hH
  exact ⟨z, its, n, r, r.length, e⟩
theorem notLongL {n : Nat} (h : n ≤ sizeLine) : Builtin.List.listTooLong n = false := by
  unfold Builtin.List.listTooLong
  exact decide_eq_false (by omega)
end
section
variable {X : Cx}
def rAppend : V → List V → Hp → VK → Prop := fun x vs H Q => ∃ l xs y, x = .ref l ∧ vs = [y] ∧ H l = some (.lst xs) ∧ xs.length < sizeLine ∧ Q .non (upd H l (.lst (xs ++ [y])))
theorem mt_append : MtM X "list.append" rAppend := by
  intro pins s σ H x vs v us Q I rx rv h
  obtain ⟨l, xs, y, rfl, rfl, hH, hz, q⟩ := h
  cases rx
  obtain ⟨u, rfl, ru⟩ := rv.one
  obtain ⟨z, its, n, r, hl, e⟩ := I.lstM hH
  refine call_meets F.slot_list_append ⟨_, e, rfl⟩ F.entry_list_append (F.args_list_append_2 _ _) (PySem.list_append l its.toArray n u (by rw [List.size_toArray]; omega)) ⟨e, ?_⟩
  refine ⟨.non, _, I.lset (its' := its ++ [u]) hH e (by simp) (r.append (.cons ru .nil)) ?_, rfl, q⟩
  rw [List.length_append, List.length_singleton]
  omega
def rPopAt : V → List V → Hp → VK → Prop := fun x vs H Q => ∃ l xs i k y, x = .ref l ∧ vs = [.int i] ∧ H l = some (.lst xs) ∧ -(2 ^ 63) ≤ i ∧ i < 2 ^ 63 ∧ seqIndex? i xs.length = some k ∧ xs[k]? = some y ∧ Q y (upd H l (.lst (xs.eraseIdx k)))
theorem mt_popAt : MtM X "list.pop" rPopAt := by
  intro pins s σ H x vs v us Q I rx rv h
  obtain ⟨l, xs, i, k, y, rfl, rfl, hH, h1, h2, hk, hy, q⟩ := h
  cases rx
  obtain ⟨u, rfl, ru⟩ := rv.one
  obtain ⟨t, rfl⟩ := ru
  obtain ⟨z, its, n, r, hl, e⟩ := I.lstM hH
  obtain ⟨w, hw, rw'⟩ := r.get hy
  refine call_meets F.slot_list_pop ⟨_, e, rfl⟩ F.entry_list_pop (F.args_list_pop_2 _ _)
    (MeetsSeq.list_pop_at l its.toArray n i t k w (fitsIndex_both h1 h2) (by rw [List.size_toArray, ← hl]; exact hk) (by rw [← Array.getElem?_toList]; exact hw) (by rw [List.size_toArray]; omega)) ⟨e, ?_⟩
  refine ⟨y, _, I.lset (its' := its.eraseIdx k) hH e ?_ (r.eraseIdx k) ?_, rw', q⟩
  · show its.toArray.eraseIdxIfInBounds k = (its.eraseIdx k).toArray
    rw [List.eraseIdxIfInBounds_toArray]
  · have := len_erase xs k
    omega
def rCat : R2 := fun x y H Q => ∃ l b xs zs, x = .ref l ∧ y = .ref b ∧ H l = some (.lst xs) ∧ H b = some (.lst zs) ∧ xs.length + zs.length ≤ sizeLine ∧ ∀ p, H p = none → Q (.ref p) (upd H p (.lst (xs ++ zs)))
theorem op_cat : OpR X (binaryOp .Add) rCat := by
  intro pins s σ H x y v u Q I rx ry h
  obtain ⟨l, b, xs, zs, rfl, rfl, hH, hB, hz, q⟩ := h
  cases rx
  cases ry
  obtain ⟨z, its, n, r, hl, e⟩ := I.lstM hH
  obtain ⟨z2, its2, n2, r2, hl2, e2⟩ := I.lstM hB
  refine PySem.P.add_list e e2 ?_ (by rw [List.size_toArray, List.size_toArray]; omega)
  have ea : its.toArray ++ its2.toArray = (its ++ its2).toArray := by simp
  rw [ea]
  exact ⟨.ref _, _, I.lnew (t' := s.toks) (r.append r2) (by rw [List.length_append]; omega), rfl, q _ I.fresh⟩
def rRep : R2 := fun x y H Q => ∃ l k xs, x = .ref l ∧ y = .int k ∧ H l = some (.lst xs) ∧ -(2 ^ 63) ≤ k ∧ k < 2 ^ 63 ∧ xs.length * k.toNat ≤ sizeLine ∧
  ∀ p, H p = none → Q (.ref p) (upd H p (.lst (List.replicate k.toNat xs).flatten))
theorem len_rep {α : Type} (xs : List α) (k : Nat) : (List.replicate k xs).flatten.length = k * xs.length := by
  induction k with
  | zero => simp
  | succ k ih => rw [List.replicate_succ, List.flatten_cons, List.length_append, ih, Nat.succ_mul, Nat.add_comm]
theorem op_rep : OpR X (binaryOp .Mult) rRep := by
  intro pins s σ H x y v u Q I rx ry h
  obtain ⟨l, k, xs, rfl, rfl, hH, h1, h2, hz, q⟩ := h
  cases rx
  obtain ⟨t, rfl⟩ := ry
  obtain ⟨z, its, n, r, hl, e⟩ := I.lstM hH
  have hlen : its.toArray.size * k.toNat ≤ sizeLine := by rw [List.size_toArray, ← hl]; exact hz
  have hcap : ¬ its.toArray.size * k.toNat > (2 ^ 63 - 1) / 8 := by
    have : (sizeLine : Nat) ≤ (2 ^ 63 - 1) / 8 := by decide
    omega
  have hfit : ¬ (!Builtin.List.listFitsIndex k) = true := by
    rw [fitsIndex_both h1 h2]
    exact Bool.false_ne_true
  have hlong : ¬ Builtin.List.listTooLong (its.toArray.size * k.toNat) = true := by
    rw [notLongL hlen]
    exact Bool.false_ne_true
  have hnew : List.foldl (fun x1 x2 => x1 ++ x2) #[] (List.replicate (if its.toArray.isEmpty = true then 0 else k.toNat) its.toArray) = (List.replicate k.toNat its).flatten.toArray := by
    have f0 : ∀ m : Nat, List.foldl (fun x1 x2 => x1 ++ x2) #[] (List.replicate m its.toArray) = (List.replicate m its).flatten.toArray := fun m => by
      have := foldl_rep its m []
      rw [List.nil_append] at this
      exact this
    rw [f0]
    cases its with
    | nil => simp
    | cons a r' => rw [if_neg (by simp)]
  refine wpAny_binaryOp_repeat_ref (T := "list") (U := "int") (by decide) ⟨_, e, rfl⟩ (fun s' => typeIs_int s' k t) noFill_list_mul F.fills_int_mul F.slot_int_rmul repeat_list F.slot_int_index.lookup
    (call_meets F.slot_int_rmul (typeIs_int s k t) F.entry_int_rmul (F.args_int_rmul_2 _ _) (int___rmul___int_list k t l its.toArray n)
      ⟨e, rfl, ⟨_, e, rfl⟩, call_meets F.slot_list_mul ⟨_, e, rfl⟩ F.entry_list_mul (F.args_list_mul_2 _ _) (AutoListH.list___mul___list_int_3 l its.toArray n k t hfit hcap hlong) ⟨e, ?_⟩⟩)
  rw [hnew]
  exact ⟨.ref _, _, I.lnew (t' := s.toks) (r.rep k.toNat) (by rw [len_rep, Nat.mul_comm]; exact hz), rfl, q _ I.fresh⟩
end
section
variable {prog : Program} {w : World} {A : Around} {E : Value → Shared → Prop} {s : Shared}
set_option maxRecDepth 100000 in
end
section
variable {X : Cx}
end
end L2
namespace L2
open PySem PySem.Spec PyProof.Rows
section
variable {κ : Type} [DecidableEq κ]
def valV (kvs : List (κ × V)) (k : κ) : Option V := (kvs.find? fun kv => decide (kv.1 = k)).map (·.2)
def putK (kvs : List (κ × V)) (k : κ) (v : V) : List (κ × V) :=
  if (kvs.any fun kv => decide (kv.1 = k)) = true then kvs.map (fun kv => if kv.1 = k then (kv.1, v) else kv) else kvs ++ [(k, v)]
def dropK (kvs : List (κ × V)) (k : κ) : List (κ × V) := kvs.filter fun kv => decide (kv.1 ≠ k)
theorem valV_pos {p : κ × V} {r : List (κ × V)} {k : κ} (e : p.1 = k) : valV (p :: r) k = some p.2 := by simp [valV, List.find?_cons, e]
theorem valV_neg {p : κ × V} {r : List (κ × V)} {k : κ} (e : ¬ p.1 = k) : valV (p :: r) k = valV r k := by simp [valV, List.find?_cons, e]
theorem valV_any (k : κ) : ∀ kvs : List (κ × V), (kvs.any fun kv => decide (kv.1 = k)) = (valV kvs k).isSome
  | [] => rfl
  | p :: r => by
    rw [List.any_cons]
    by_cases e : p.1 = k
    · simp only [valV_pos e, decide_eq_true e, Bool.true_or, Option.isSome_some]
    · rw [valV_neg e, decide_eq_false e, Bool.false_or]; exact valV_any k r
theorem length_putK (kvs : List (κ × V)) (k : κ) (v : V) : (putK kvs k v).length ≤ kvs.length + 1 := by
  unfold putK
  split
  · rw [List.length_map]; omega
  · rw [List.length_append, List.length_cons, List.length_nil]; omega
theorem putK_new {kvs : List (κ × V)} {k : κ} (v : V) (h : valV kvs k = none) : putK kvs k v = kvs ++ [(k, v)] := by
  unfold putK
  rw [valV_any, h]
  exact if_neg (by decide)
theorem RelO.isSome_eq {o : Option V} {u : Option Value} (r : RelO o u) : o.isSome = u.isSome := by
  cases o with
  | none => cases u with
    | none => rfl
    | some _ => exact (show False from r).elim
  | some _ => cases u with
    | none => exact (show False from r).elim
    | some _ => rfl
theorem RelO.getD {o : Option V} {u : Option Value} {d : V} {d' : Value} (r : RelO o u) (rd : RelV d d') : RelV (o.getD d) (u.getD d') := by
  cases o with
  | none => cases u with
    | none => exact rd
    | some _ => exact (show False from r).elim
  | some _ => cases u with
    | none => exact (show False from r).elim
    | some _ => exact r
theorem KV.val {kvs : List (κ × V)} {vs : List (κ × Value)} (r : KV kvs vs) (k : κ) : RelO (valV kvs k) (valueAt vs k) := by
  unfold KV at r
  induction r with
  | nil => exact True.intro
  | @cons p q ps qs h t ih =>
    obtain ⟨h1, h2⟩ := h
    by_cases e : p.1 = k
    · have e' : q.1 = k := h1.symm.trans e
      have b : valueAt (q :: qs) k = some q.2 := by simp [valueAt, List.find?_cons, e']
      rw [valV_pos e, b]; exact h2
    · have e' : ¬ q.1 = k := fun z => e (h1.trans z)
      have b : valueAt (q :: qs) k = valueAt qs k := by simp [valueAt, List.find?_cons, e']
      rw [valV_neg e, b]; exact ih
theorem KV.any {kvs : List (κ × V)} {vs : List (κ × Value)} (r : KV kvs vs) (k : κ) : (kvs.any fun kv => decide (kv.1 = k)) = vs.any fun kv => decide (kv.1 = k) := by
  unfold KV at r
  induction r with
  | nil => rfl
  | cons h t ih => rw [List.any_cons, List.any_cons, ih, h.1]
theorem KV.repl {kvs : List (κ × V)} {vs : List (κ × Value)} (r : KV kvs vs) (k : κ) {y : V} {u : Value} (ry : RelV y u) :
    KV (kvs.map fun kv => if kv.1 = k then (kv.1, y) else kv) (vs.map fun kv => if kv.1 = k then (kv.1, u) else kv) := by
  unfold KV at r ⊢
  induction r with
  | nil => exact .nil
  | @cons p q ps qs h t ih =>
    rw [List.map_cons, List.map_cons]
    refine .cons ?_ ih
    obtain ⟨h1, h2⟩ := h
    by_cases e : p.1 = k
    · rw [if_pos e, if_pos (h1.symm.trans e)]; exact ⟨h1, ry⟩
    · rw [if_neg e, if_neg (fun z => e (h1.trans z))]; exact ⟨h1, h2⟩
theorem KV.put {kvs : List (κ × V)} {vs : List (κ × Value)} (r : KV kvs vs) (k : κ) {y : V} {u : Value} (ry : RelV y u) : KV (putK kvs k y) (stored vs k u) := by
  unfold putK stored
  rw [r.any k]
  by_cases e : (vs.any fun kv => decide (kv.1 = k)) = true
  · rw [if_pos e, if_pos e]; exact r.repl k ry
  · rw [if_neg e, if_neg e]; exact Paired.snoc r ⟨rfl, ry⟩
theorem KV.drop {kvs : List (κ × V)} {vs : List (κ × Value)} (r : KV kvs vs) (k : κ) : KV (dropK kvs k) (without vs k) := by
  unfold KV at r ⊢
  unfold dropK without
  induction r with
  | nil => exact .nil
  | @cons p q ps qs h t ih =>
    obtain ⟨h1, h2⟩ := h
    rw [List.filter_cons, List.filter_cons]
    by_cases e : p.1 = k
    · have a : ¬ decide (p.1 ≠ k) = true := by simp [e]
      have b : ¬ decide (q.1 ≠ k) = true := by simp [h1.symm.trans e]
      rw [if_neg a, if_neg b]; exact ih
    · have e' : ¬ q.1 = k := fun z => e (h1.trans z)
      have a : decide (p.1 ≠ k) = true := by simp [e]
      have b : decide (q.1 ≠ k) = true := by simp [e']
      rw [if_pos a, if_pos b]; exact .cons ⟨h1, h2⟩ ih
theorem KV.keys {kvs : List (κ × V)} {vs : List (κ × Value)} (r : KV kvs vs) : kvs.map (·.1) = vs.map (·.1) := by
  unfold KV at r
  induction r with
  | nil => rfl
  | cons h t ih => rw [List.map_cons, List.map_cons, ih, h.1]
theorem KV.length {kvs : List (κ × V)} {vs : List (κ × Value)} (r : KV kvs vs) : kvs.length = vs.length := Paired.length r
end
theorem kV_is {P : Program} {w : World} {k : Key} {u : Value} (r : RelV (kV k) u) : (mixKind P w).is k u = true := by
  cases k with
  | inl i => obtain ⟨t, e⟩ := (show ∃ t, u = Value.int i t from r); subst e; exact mixKind_int P w i t
  | inr x => obtain ⟨t, e⟩ := (show ∃ t, u = Value.str x t from r); subst e; exact mixKind_str P w x t
theorem items_are {P : Program} {w : World} : ∀ {ks : List Key} {us : List Value}, Vals (ks.map kV) us → ItemsAre (mixKind P w) ks us
  | [], _, r => by rw [List.map_nil] at r; cases r; exact .nil
  | k :: ks, _, r => by
    rw [List.map_cons] at r
    cases r with
    | cons h t => exact .cons (kV_is h) (items_are t)
abbrev KT (H : Hp) : List (List Key × V) → List (List Key × Addr × Value) → Prop := Paired fun p q => p.1 = q.1 ∧ H q.2.1 = some (.tup (p.1.map kV)) ∧ RelV p.2 q.2.2
theorem KT.val {H : Hp} {kvs : List (List Key × V)} {xs : List (List Key × Addr × Value)} (r : KT H kvs xs) (k : List Key) : RelO (valV kvs k) ((atKey xs k).map (·.2)) := by
  induction r with
  | nil => exact True.intro
  | @cons p q ps qs h t ih =>
    obtain ⟨h1, _, h2⟩ := h
    by_cases e : p.1 = k
    · have e' : q.1 = k := h1.symm.trans e
      have b : atKey (q :: qs) k = some q.2 := by simp [atKey, List.find?_cons, e']
      rw [valV_pos e, b]; exact h2
    · have e' : ¬ q.1 = k := fun z => e (h1.trans z)
      have b : atKey (q :: qs) k = atKey qs k := by simp [atKey, List.find?_cons, e']
      rw [valV_neg e, b]; exact ih
theorem KT.repl {H : Hp} {kvs : List (List Key × V)} {xs : List (List Key × Addr × Value)} (r : KT H kvs xs) (k : List Key) {y : V} {u : Value} (ry : RelV y u) :
    KT H (kvs.map fun kv => if kv.1 = k then (kv.1, y) else kv) (xs.map (putAt k u)) := by
  induction r with
  | nil => exact .nil
  | @cons p q ps qs h t ih =>
    rw [List.map_cons, List.map_cons]
    refine .cons ?_ ih
    obtain ⟨h1, h2, h3⟩ := h
    unfold putAt
    by_cases e : p.1 = k
    · rw [if_pos e, if_pos (h1.symm.trans e)]; exact ⟨h1, h2, ry⟩
    · rw [if_neg e, if_neg (fun z => e (h1.trans z))]; exact ⟨h1, h2, h3⟩
theorem KT.put {H : Hp} {kvs : List (List Key × V)} {xs : List (List Key × Addr × Value)} (r : KT H kvs xs) (k : List Key) {b : Addr} {y : V} {u : Value} (hb : H b = some (.tup (k.map kV))) (ry : RelV y u) :
    KT H (putK kvs k y) (storedH xs k b u) := by
  have e : (kvs.any fun kv => decide (kv.1 = k)) = (atKey xs k).isSome := by
    rw [valV_any, (r.val k).isSome_eq, Option.isSome_map]
  unfold putK storedH
  rw [e]
  by_cases q : (atKey xs k).isSome = true
  · rw [if_pos q, if_pos q]; exact r.repl k ry
  · rw [if_neg q, if_neg q]; exact Paired.snoc r ⟨rfl, hb, ry⟩
theorem KT.keeps {H H' : Hp} {kvs : List (List Key × V)} {xs : List (List Key × Addr × Value)} (r : KT H kvs xs) (ht : ∀ b ys, H b = some (.tup ys) → H' b = some (.tup ys)) : KT H' kvs xs :=
  Paired.mapP r fun _ _ z => ⟨z.1, ht _ _ z.2.1, z.2.2⟩
section
variable {P : Program} {w : World} {H : Hp} {h : Heap} {a : Addr}
theorem rd_of {u : HO} (ok : HOk P w H h) (e : Rd H a u) : ObjOk P w H h a u := e.ok ok
theorem dk_rd {kvs : List (Key × V)} (ok : HOk P w H h) (e : Rd H a (.dK kvs)) : kvs.length ≤ sizeLine ∧ (a == sysModules) = false ∧ ∃ vs, KV kvs vs ∧ h.DictOf (mixKind P w) a vs :=
  show ObjOk P w H h a (.dK kvs) from rd_of ok e
theorem dk_of {kvs : List (Key × V)} (ok : HOk P w H h) (e : H a = some (.dK kvs)) : kvs.length ≤ sizeLine ∧ (a == sysModules) = false ∧ ∃ vs, KV kvs vs ∧ h.DictOf (mixKind P w) a vs := dk_rd ok (.inl e)
theorem key_of {ks : List Key} (ok : HOk P w H h) (e : H a = some (.tup (ks.map kV))) : (tupleKind (mixKind P w)).is h ks a := by
  obtain ⟨_, its, r, ⟨o, h1, h2, n, h3⟩, _⟩ := (show ObjOk P w H h a (.tup (ks.map kV)) from ok a _ e)
  exact ⟨o, its.toArray, n, h1, h2, h3, by simpa using items_are r⟩
theorem dt_rd {kvs : List (List Key × V)} (ok : HOk P w H h) (e : Rd H a (.dT kvs)) : kvs.length ≤ sizeLine ∧ (a == sysModules) = false ∧
    ∃ xs, KT H kvs xs ∧ h.DictOfH (tupleKind (mixKind P w)) a xs := by
  obtain ⟨z, y, xs, r, o, es, ep, h1, h2, h3, h4, h5⟩ := (show ObjOk P w H h a (.dT kvs) from rd_of ok e)
  refine ⟨z, y, xs, r, o, es, ep, h1, h2, h3, h4, fun x hx => ?_, h5⟩
  have all : ∀ {l : List (List Key × V)} {m : List (List Key × Addr × Value)}, KT H l m → ∀ x ∈ m, (tupleKind (mixKind P w)).is h x.1 x.2.1 := by
    intro l m q
    induction q with
    | nil => intro x hx; exact nomatch hx
    | @cons p q ps qs hq t ih =>
      intro x hx
      rcases List.mem_cons.mp hx with e | hx
      · subst e
        exact key_of ok (by rw [← hq.1]; exact hq.2.1)
      · exact ih x hx
  exact all r x hx
theorem dt_of {kvs : List (List Key × V)} (ok : HOk P w H h) (e : H a = some (.dT kvs)) : kvs.length ≤ sizeLine ∧ (a == sysModules) = false ∧
    ∃ xs, KT H kvs xs ∧ h.DictOfH (tupleKind (mixKind P w)) a xs := dt_rd ok (.inl e)
end
def DGet (H : Hp) (a : Addr) (y : V) (r : Option V) : Prop :=
  (∃ kvs k, Rd H a (.dK kvs) ∧ y = kV k ∧ r = valV kvs k) ∨ ∃ kvs k b, Rd H a (.dT kvs) ∧ y = .ref b ∧ H b = some (.tup (k.map kV)) ∧ r = valV kvs k
def DPut (H : Hp) (a : Addr) (y v : V) (H' : Hp) : Prop :=
  (∃ kvs k, H a = some (.dK kvs) ∧ y = kV k ∧ kvs.length < sizeLine ∧ H' = upd H a (.dK (putK kvs k v))) ∨
  ∃ kvs k b, H a = some (.dT kvs) ∧ y = .ref b ∧ H b = some (.tup (k.map kV)) ∧ kvs.length < sizeLine ∧ H' = upd H a (.dT (putK kvs k v))
theorem DGet.k {H : Hp} {a : Addr} {kvs : List (Key × V)} {k : Key} (e : H a = some (.dK kvs)) : DGet H a (kV k) (valV kvs k) := .inl ⟨kvs, k, .inl e, rfl, rfl⟩
theorem DGet.t {H : Hp} {a b : Addr} {kvs : List (List Key × V)} {k : List Key} (e : H a = some (.dT kvs)) (eb : H b = some (.tup (k.map kV))) : DGet H a (.ref b) (valV kvs k) := .inr ⟨kvs, k, b, .inl e, rfl, eb, rfl⟩
theorem DPut.k {H : Hp} {a : Addr} {kvs : List (Key × V)} {k : Key} {v : V} (e : H a = some (.dK kvs)) (hl : kvs.length < sizeLine) : DPut H a (kV k) v (upd H a (.dK (putK kvs k v))) := .inl ⟨kvs, k, e, rfl, hl, rfl⟩
theorem DPut.t {H : Hp} {a b : Addr} {kvs : List (List Key × V)} {k : List Key} {v : V} (e : H a = some (.dT kvs)) (eb : H b = some (.tup (k.map kV))) (hl : kvs.length < sizeLine) :
    DPut H a (.ref b) v (upd H a (.dT (putK kvs k v))) := .inr ⟨kvs, k, b, e, rfl, eb, hl, rfl⟩
section
variable {X : Cx} {pins : List (Addr × Obj)} {σ : St} {H : Hp} {s : Shared} {a : Addr} {y v : V} {u r : Value} {o : Option V} {A : Around} {E : Value → Shared → Prop}
theorem Inv.big (I : Inv X pins σ H s) : sysModules < s.heap.objs.size := by
  have h : mainGlobals < s.heap.objs.size := (I.mod.glob.keeps I.bk).lt
  exact Nat.lt_trans (by decide) h
theorem d_getItem {Q : Value → Shared → Prop} (hu : A.units + 1 < cLine) (I : Inv X pins σ H s) (g : DGet H a y (some v)) (ry : RelV y u) (h : ∀ w' s', Inv X pins σ H s' → RelV v w' → Q w' s') :
    wpAny (model X.prog X.w) A (getItem (.ref a) u) Q E s := by
  rcases g with ⟨kvs, k, e, ey, l⟩ | ⟨kvs, k, b, e, ey, eb, l⟩
  · subst ey
    obtain ⟨z, hd, vs, rel, dd⟩ := dk_rd I.hok e
    obtain ⟨w', hw, rw'⟩ := RelO.some_of (v := v) (o := valueAt vs k) (by rw [l]; exact rel.val k)
    exact wpAny_getItem_of (kV_is ry) dd.mapOf hw (h w' _ (I.tok _) rw')
  · subst ey
    cases (show u = Value.ref b from ry)
    obtain ⟨z, hd, xs, rel, dd⟩ := dt_rd I.hok e
    obtain ⟨w', hw, rw'⟩ := RelO.some_of (v := v) (o := (atKey xs k).map (·.2)) (by rw [l]; exact rel.val k)
    obtain ⟨p, hp, hp2⟩ := Option.map_eq_some_iff.mp hw
    refine wpAny_getItem_heap (tupleKind_room_in1 hu) (key_of I.hok eb) dd hp ?_
    rw [hp2]
    exact h w' _ (I.tok _) rw'
theorem d_write {h' : Heap} {t' : Nat} {ob : HO} (I : Inv X pins σ H s) (mu : Mut (H a)) (hs : Heap.SameBut a s.heap h') (he : ∃ q, h'.get? a = some q) (new : ObjOk X.prog X.w (upd H a ob) h' a ob) :
    Inv X pins σ (upd H a ob) { s with heap := h', toks := t' } :=
  I.write (x := a) (e := a) mu (.inl rfl) (fun b q hb z => (hs.2 b hb).trans z) he new
theorem dk_new {P : Program} {w : World} {H' : Hp} {h' : Heap} {kvs : List (Key × V)} {vs : List (Key × Value)} (z : kvs.length ≤ sizeLine) (hd : (a == sysModules) = false) (rel : KV kvs vs) (dd : h'.DictOf (mixKind P w) a vs) :
    ObjOk P w H' h' a (.dK kvs) := ⟨z, hd, vs, rel, dd⟩
theorem d_setItem {H' : Hp} {Q : Unit → Shared → Prop} (hu : A.units + 1 < cLine) (I : Inv X pins σ H s) (g : DPut H a y v H') (ry : RelV y u) (rv : RelV v r) (h : ∀ s', Inv X pins σ H' s' → Q () s') :
    wpAny (model X.prog X.w) A (setItem (.ref a) u r) Q E s := by
  rcases g with ⟨kvs, k, e, ey, l, eH⟩ | ⟨kvs, k, b, e, ey, eb, l, eH⟩
  · subst ey eH
    obtain ⟨z, hd, vs, rel, dd⟩ := dk_of I.hok e
    have hz : vs.length ≤ sizeLine := by rw [← rel.length]; exact z
    have hl : (putK kvs k v).length ≤ sizeLine := by have := length_putK kvs k v; omega
    refine wpAny_setItem_pairs (hsz := hz) (kV_is ry) dd fun h' dd' hs => h _ ?_
    have he : ∃ q, h'.get? a = some q := let ⟨q, _, _, hq, _⟩ := dd'; ⟨q, hq⟩
    exact d_write I (by rw [e]; exact True.intro) hs he (dk_new hl hd (rel.put k rv) dd')
  · subst ey eH
    cases (show u = Value.ref b from ry)
    obtain ⟨z, hd, xs, rel, dd⟩ := dt_of I.hok e
    have hz : xs.length ≤ sizeLine := by rw [← Paired.length rel]; exact z
    have hl : (putK kvs k v).length ≤ sizeLine := by have := length_putK kvs k v; omega
    refine wpAny_setItem_heap (hsz := hz) (tupleKind_room_in1 hu) (key_of I.hok eb) dd fun h' dd' hs => h _ ?_
    obtain ⟨q, es, ep, hq, h2, h3, h4, _, h5⟩ := dd'
    refine d_write I (by rw [e]; exact True.intro) hs ⟨q, hq⟩ ⟨hl, hd, _, (rel.put k eb rv).keeps fun c ys ec => ?_, q, es, ep, hq, h2, h3, h4, h5⟩
    rw [upd_ne (ne_of ec e (fun z => nomatch z))]
    exact ec
end
section
variable {X : Cx} {pins : List (Addr × Obj)} {σ : St} {H : Hp} {s : Shared} {a : Addr} {kvs : List (Key × V)} {k : Key} {u : Value} {A : Around} {E : Value → Shared → Prop}
end
def NoSl (i : Expr) : Prop := ∀ ov iv, subscripted i false ov iv = operate [ov, iv] (getItem ov iv)
theorem subD_of {prog : Program} {w : World} {A : Around} {E : Value → Shared → Prop} {s : Shared} {env : Env} {value slice : Expr} {pos : Pos} {T id : String} {Q : Value → Shared → Prop}
    (hl : typeLookup (.type T) "__getitem__" = pure (some (.builtin id))) (hs : NoSl slice)
    (h : wpAny (model prog w) A (eval value env) (fun o s₁ => wpAny (model prog w) A (eval slice env) (fun i s₂ => s₂.TypeIs o T ∧ wpAny (model prog w) A (getItem o i) Q E s₂) E s₁) E s) :
    wpAny (model prog w) A (eval (.Subscript value slice pos) env) Q E s := by
  refine Subscript_ (wpAny_mono h (fun o s₁ h₁ => wpAny_mono h₁ (fun i s₂ h₂ => ?_) fun _ _ x => x) fun _ _ x => x)
  obtain ⟨hT, h₂⟩ := h₂
  unfold subscriptTail
  refine wpAny_bind ?_
  rw [getitemInPython_of_ne hT.not_modules]
  refine wpAny_bind (wpAny_specialOf hT hl ?_)
  have fin : wpAny (model prog w) A (subscripted slice false o i) (fun r s₃ => wpAny (model prog w) A (letTemporaryGo value o r >>= fun _ => pure r) Q E s₃) E s₂ := by
    rw [hs o i]
    exact wpAny_operating (wpAny_mono h₂ (fun r s₃ h₃ => wpAny_bind (wpAny_letTemporaryGo (wpAny_pure h₃))) fun _ _ x => x)
  first
    | exact wpAny_pure (wpAny_bind fin)
    | exact wpAny_bind (wpAny_pure (wpAny_bind fin))
    | exact wpAny_bind fin
theorem dict_typeIs {X : Cx} {pins : List (Addr × Obj)} {σ : St} {H : Hp} {s : Shared} {a : Addr} {y : V} {o : Option V} (I : Inv X pins σ H s) (g : DGet H a y o) : s.TypeIs (.ref a) "dict" := by
  rcases g with ⟨kvs, k, e, _, _⟩ | ⟨kvs, k, b, e, _, _, _⟩
  · obtain ⟨_, _, vs, _, dd⟩ := dk_rd I.hok e
    exact dd.typeIs
  · obtain ⟨_, _, xs, _, dd⟩ := dt_rd I.hok e
    exact dd.typeIs
def tDGet (td ty : TE) : TE := fun σ H Q => td σ H fun x H1 => ty σ H1 fun y H2 => ∃ a v, x = .ref a ∧ DGet H2 a y (some v) ∧ Q v H2
def sDPut (td ty tv : TE) : TS := fun D σ H => tv σ H fun v H1 => td σ H1 fun x H2 => ty σ H2 fun y H3 => ∃ a H4, x = .ref a ∧ DPut H3 a y v H4 ∧ D.nx σ H4
section
variable {X : Cx} {o i e value : Expr} {pos pos' tpos : Pos} {td ty tv : TE}
theorem pe_dget (hu : X.A.units + 1 < cLine) (ho : PE X o td) (hi : PE X i ty) (hs : NoSl i) : PE X (.Subscript o i pos) (tDGet td ty) := by
  intro pins s σ H Q I h
  refine subD_of PySem.F.slot_dict_getitem.lookup hs (thn (ho pins s σ H _ I h) fun u s1 ⟨x, H1, I1, rx, q1⟩ => thn (hi pins s1 σ H1 _ I1 q1) fun iv s2 ⟨y, H2, I2, ry, a, v, ex, g, q2⟩ => ?_)
  subst ex
  obtain rfl : u = Value.ref a := rx
  exact ⟨dict_typeIs I2 g, d_getItem hu I2 g ry fun w' s3 I3 rw' => ⟨v, H2, I3, rw', q2⟩⟩
theorem ps_dput (hu : X.A.units + 1 < cLine) (ho : PE X o td) (hi : PE X i ty) (hv : PE X value tv) (hs : swapsWith value (some (.Subscript o i pos')) pos.line X.env = pure false) :
    PS X (.Assign [.Subscript o i pos'] value pos) (sDPut td ty tv) := by
  intro pins s σ H D I h
  refine wpAny_Assign_Subscript (thn (hv pins s σ H _ I h) fun r s1 ⟨v, H1, I1, rv, q1⟩ => thn (ho pins s1 σ H1 _ I1 q1) fun u s2 ⟨x, H2, I2, rx, q2⟩ => thn (hi pins s2 σ H2 _ I2 q2) fun iv s3 ⟨y, H3, I3, ry, a, H4, ex, g, q3⟩ => ?_) hs
  subst ex
  obtain rfl : u = Value.ref a := rx
  exact d_setItem hu I3 g ry rv fun s4 I4 => ⟨σ, H4, I4, q3⟩
end
theorem dk_empty {P : Program} {w : World} {H : Hp} (h : Heap) (hb : sysModules < h.objs.size) : ObjOk P w H (h.push { cls := .type "dict", data := .dict #[] }) h.objs.size (.dK []) :=
  ⟨Nat.zero_le _, beq_eq_false_iff_ne.mpr (Ne.symm (Nat.ne_of_lt hb)), [], .nil, Heap.DictOf.new h⟩
def tDNewK : TE := fun _ H Q => ∀ p, H p = none → Q (.ref p) (upd H p (.dK []))
section
variable {X : Cx} {pos : Pos}
theorem pe_dnewK : PE X (.Dict [] [] pos) tDNewK := fun pins s σ H Q I h =>
  wpAny_Dict_empty ⟨.ref s.heap.objs.size, _, I.laid (a := s.heap.objs.size) (o := .dK []) (t' := s.toks) (fun _ _ q => Heap.get?_push_of_some _ q) (Nat.le_refl _) (dk_empty s.heap I.big), rfl, h _ (I.hok.fresh (Nat.le_refl _))⟩
end
structure M1 (X : Cx) (o : Expr) (m : Str) (apos : Pos) (e : Expr) (cpos : Pos) : Prop where
  base : attributeBase o m X.env (eval o X.env) = eval o X.env
  few : ((backTo cpos (starEach [e] X.env)).all (fun x => !x.1) && (backToKw cpos (keywordEach [] X.env)).all (fun x => x.1.isSome)
    && decide (([e] : List Expr).length + ([] : List Keyword).length + (if ([] : List Keyword).isEmpty then 0 else 1) < 30)) = true
  line : (apos.endLine == cpos.line) = true
  trees : backTo cpos (starEach [e] X.env) = [(false, eval e X.env)]
structure M2 (X : Cx) (o : Expr) (m : Str) (apos : Pos) (e f : Expr) (cpos : Pos) : Prop where
  base : attributeBase o m X.env (eval o X.env) = eval o X.env
  few : ((backTo cpos (starEach [e, f] X.env)).all (fun x => !x.1) && (backToKw cpos (keywordEach [] X.env)).all (fun x => x.1.isSome)
    && decide (([e, f] : List Expr).length + ([] : List Keyword).length + (if ([] : List Keyword).isEmpty then 0 else 1) < 30)) = true
  line : (apos.endLine == cpos.line) = true
  trees : backTo cpos (starEach [e, f] X.env) = [(false, eval e X.env), (false, eval f X.env)]
section
variable {X : Cx} {pins : List (Addr × Obj)} {σ : St} {H : Hp} {s : Shared} {a : Addr} {y d : V} {u r : Value} {o : Option V} {A : Around} {E : Value → Shared → Prop}
end
section
variable {X : Cx} {o e f : Expr} {apos cpos : Pos} {td ty tx : TE}
end
section
variable {X : Cx} {pins : List (Addr × Obj)} {σ : St} {H : Hp} {s : Shared} {a : Addr} {kvs : List (Key × V)} {A : Around} {E : Value → Shared → Prop}
end
section
variable {X : Cx} {pins : List (Addr × Obj)} {σ : St} {H : Hp} {s : Shared} {a : Addr} {y : V} {u : Value} {A : Around} {E : Value → Shared → Prop}
end
end L2
namespace Att
open PySem PySem.W PySem.Calls PyProof.Rows
theorem ints_of_wellAll {P : Params} {h : Heap} : ∀ (ns : List Int) (vs : List Value), WellAll P h vs (ns.map WData.int) → IntsAre vs ns := by
  intro ns
  induction ns with
  | nil =>
    intro vs w
    rw [List.map_nil] at w
    cases w
    exact .nil
  | cons n ns ih =>
    intro vs w
    rw [List.map_cons] at w
    cases w with
    | cons a b =>
      cases a
      exact .cons _ _ (ih _ b)
theorem script_of {l : OpenLaw} {n : Nat} (hn : l.most = some n) {P : Params} {h : Heap} {args : List WData} {vals : List Value}
    (hpre : l.row.toRowW.claim.pre args = true) (hwl : WellAll P h vals args) :
    ∃ a vs ns, vals = [Value.ref a] ∧ args = [WData.list (ns.map WData.int)] ∧ h.get? a = some { cls := .type "list", data := .seq vs.toArray } ∧ IntsAre vs ns ∧ ns.length ≤ n := by
  have hsh : WShape.hasAll [] args [.list .int] = true := (pre_splitW hpre).1
  have hc : l.pre.holds [] { args := args } = true := (pre_splitW hpre).2
  obtain ⟨d, r, rfl, h1, h2⟩ := hasAllW_cons hsh
  obtain rfl := hasAllW_nil h2
  obtain ⟨xs, rfl, h3⟩ := hasW_list h1
  obtain ⟨ns, rfl⟩ := items_int h3
  have hlen : ns.length ≤ n := by
    unfold OpenLaw.pre at hc
    have h4 : (WTm.not (.lt (.lit (.int (n : Int))) (.len (.arg 0)))).holds [] { args := [.list (ns.map .int)] } = true := by
      have h4 := (holds_andW hc).1
      rw [hn] at h4
      exact h4
    have h5 := condW_of h4 (w_not (w_lt w_lit (w_len_list (w_arg rfl))))
    rw [List.length_map] at h5
    refine Nat.le_of_not_lt fun q => ?_
    have q' : (n : Int) < ((ns.length : Nat) : Int) := by omega
    first
      | (rw [decide_eq_true q'] at h5; exact absurd h5 (by decide))
      | (simp at h5; omega)
  cases hwl with
  | cons w1 w2 =>
    cases w2
    cases w1 with
    | list ho hall => exact ⟨_, _, ns, rfl, rfl, ho, ints_of_wellAll ns _ hall, hlen⟩
theorem post_true (l : OpenLaw) (args : List WData) : l.row.toRowW.claim.post args (.bool true) args = true :=
  postW_of (r := l.row.toRowW) (X := (true == true))
    (show WShape.has [] (.bool true) .bool = true by first | rfl | decide | simp [WShape.has, WShape.arms, WShape.armsAll])
    (show (WTm.eq .res (.lit (.bool true))).value [] { args := args, res := some (.bool true), after := args } = some (.bool (true == true)) from w_eq_bool (w_res rfl) w_lit) rfl
theorem attach_call {l : OpenLaw} {n : Nat} {q : Program} {loose : List Str} {XP : (Str → Option Value) → Heap → Prop} {YP : World → Heap → Prop} {d : DefRec}
    (hn : l.most = some n) (hdf : d.params.defaults = [])
    (call : ∀ (w : World) (s₀ s₁ : Shared) (mg mb : Str → Option Value) (fa : Addr) (o : Obj) (pm cd doc : Value) (a : Addr) (vs : List Value) (ns : List Int),
      Ground q loose [] XP w s₀ mg mb s₁.heap → YP w s₁.heap →
      s₁.heap.get? fa = some o → o.data = .func (docDef d.name d.params d.body d.scope pm cd doc) → s₁.heap.CodeRec cd d.name → mg d.name = some (.ref fa) →
      s₁.heap.get? a = some { cls := .type "list", data := .seq vs.toArray } → IntsAre vs ns → ns.length ≤ n → s₁.gens = #[] →
      codeAny (model l.prog w) callerA (.call (.ref fa) ⟨[.ref a], []⟩) (fun r s' => r = .ok (.ret (.bool true)) ∧ OldK s₁.heap s'.heap ∧ s'.os = s₁.os ∧ AllBare s'.gens) s₁) :
    WalkO q loose XP YP l.row.toRowW d [] (fun f vs => PySem.call f vs) := by
  intro w s₀ s₁ mg mb G Y fa o pm cd doc dV kV ho hd hcd hD hmg hg args vals as hpre hlay hrd hwl hlo
  obtain rfl : dV = .none := Dflts.none hD hdf
  obtain rfl : kV = .none := Dflts.noKw hD
  obtain ⟨a, vs, ns, rfl, rfl, hobj, hints, hlen⟩ := script_of hn hpre hwl
  refine enter_call (codeAny_mono (call w s₀ s₁ mg mb fa o pm cd doc a vs ns G Y ho (fd_plain hd) hcd hmg hobj hints hlen hg) fun r s' hq => ?_)
  obtain ⟨rfl, h2, h3, h4⟩ := hq
  exact ⟨.inl ⟨.bool true, .bool true, [], rfl, fun _ => rfl, .bool true, post_true l _, fun _ => ⟨List.Pairwise.nil, fun _ hm => (nomatch hm)⟩⟩, h2, h3, h4⟩
section
variable {prog : Program} {w : World} {A : Around} {E : Value → Shared → Prop} {s : Shared} {K : Frag}
def ledger (h : Heap) (L d : Addr) : List (Addr × Obj) := (List.range h.objs.size).filterMap fun a => if a = L ∨ a = d then none else (h.get? a).map fun o => (a, o)
end
end Att
namespace L2
open PySem PySem.Spec PyProof.Rows
theorem vals_ints : ∀ {vs : List Value} {ns : List Int}, IntsAre vs ns → Vals (ns.map V.int) vs
  | _, _, .nil => .nil
  | _, _, .cons n t h => .cons ⟨t, rfl⟩ (vals_ints h)
def Only (H : Hp) : Prop := ∀ b, H b = none ∨ ∃ o xs, H b = some (.frz o (.lst xs))
theorem law_call {P : Program} {w : World} {K : PySem.W.Frag} {mg mb : Str → Option Value} {CX : CXT} {k : Nat} {fa a : Addr} {fd : FuncData} {x : Str} {sp : Sp} {s₁ : Shared} {vs : List Value} {ns : List Int}
    (KX : K.In s₁.heap) (hns : s₁.heap.Ns mainGlobals mg) (hb : s₁.heap.Ns builtinsNs mb) (hbb : ∀ x : Str, x ≠ "__name__" → mb x = bootBuiltins x) (hlim : s₁.heap.NoLimit) (hg : s₁.gens = #[])
    (ha : s₁.heap.get? a = some { cls := .type "list", data := .seq vs.toArray }) (hi : IntsAre vs ns) (hl : ns.length ≤ sizeLine) (hr : Room k callerA)
    (F : ∀ base : Heap, K.In base → base.Ns mainGlobals mg → FnOk P w K mg base CX k fa fd [x] sp) (hbind : ∀ (s : Shared) (u : Value), BindsTo s fd ⟨[u], []⟩ [(x, u)])
    (hsp : ∀ H : Hp, Only H → SqL K H a (ns.map V.int) → sp [.ref a] H (fun v _ => v = .bl true) fun _ _ _ => False)
    (hCX : ∀ H e s', CX [] H s₁ (fun _ _ _ => False) e s' → False) :
    codeAny (model P w) callerA (.call (.ref fa) ⟨[.ref a], []⟩) (fun r s' => r = .ok (.ret (.bool true)) ∧ OldK s₁.heap s'.heap ∧ s'.os = s₁.os ∧ AllBare s'.gens) s₁ := by
  have rv := vals_ints hi
  have lenV := hi.length
  -- from an abstract heap in which nothing but the script may be tracked
  have core : ∀ H : Hp, Only H → SqL K H a (ns.map V.int) → HOk P w H s₁.heap → (∀ b, H b ≠ none → b = a) → (H a ≠ none → K.lookup a = none) →
      codeAny (model P w) callerA (.call (.ref fa) ⟨[.ref a], []⟩) (fun r s' => r = .ok (.ret (.bool true)) ∧ OldK s₁.heap s'.heap ∧ s'.os = s₁.os ∧ AllBare s'.gens) s₁ := by
    intro H hO hS hok hA hK
    have base_of : ∀ {b : Addr} {o : Obj}, s₁.heap.get? b = some o → H b = none → (hidT s₁.heap H).get? b = some o := fun e n => hidT_get e n
    have noA : ∀ {b : Addr} {o : Obj} {es : Array DictEntry} {ep : Nat}, s₁.heap.get? b = some o → o.data = .dict es ep → H b = none := fun {b o es ep} e d => by
      cases q : H b with
      | none => rfl
      | some u =>
        have e' : b = a := hA b (by rw [q]; simp)
        subst e'
        rw [ha] at e; cases e
        have d' : Data.seq vs.toArray _ = Data.dict es ep := d
        cases d'
    have nsK : ∀ {b : Addr} {m : Str → Option Value}, s₁.heap.Ns b m → (hidT s₁.heap H).Ns b m := fun {b m} ⟨o, es, ep, e, d, r⟩ => ⟨o, es, ep, base_of e (noA e d), d, r⟩
    have hKb : K.In (hidT s₁.heap H) := fun b o e => base_of (KX b o e) (by
      cases q : H b with
      | none => rfl
      | some u =>
        have e' : b = a := hA b (by rw [q]; simp)
        subst e'
        rw [hK (by rw [q]; simp)] at e; cases e)
    have hM : Mod K mg (hidT s₁.heap H) := ⟨hKb, nsK hns, ⟨mb, nsK hb, hbb⟩, let ⟨mc, h1, h2⟩ := hlim; ⟨mc, nsK h1, h2⟩⟩
    have e0 : Env0 P w K mg (hidT s₁.heap H) callerA [] s₁ H := ⟨rfl, hM, fun b o e => of_hidT e, Nat.le_of_eq (hidT_size _ _), trivial, fun b hb => absurd (show b ∈ ([] : List Addr) from hb) (by simp), hok, .of_eq hg⟩
    refine codeAny_mono ((F _ hKb (nsK hns)).run callerA [] s₁ H ⟨[.ref a], []⟩ [.ref a] [.ref a] _ _ hr e0 (hbind s₁ (.ref a)) (.cons rfl .nil) (hsp H hO hS)) fun r s' h => ?_
    cases r with
    | error e => exact (hCX H e s' h).elim
    | ok fl =>
      cases fl with
      | next => exact False.elim h
      | brk => exact False.elim h
      | cont => exact False.elim h
      | ret u =>
        obtain ⟨v, H', os, bare, un, hok', r', q⟩ := h
        have q' : v = .bl true := q
        subst q'
        obtain rfl : u = Value.bool true := r'
        refine ⟨rfl, OldK.of_keep fun b o e => ?_, os, bare⟩
        cases q : H b with
        | none => exact un.keep b o e q (by intro z; exact absurd (show b ∈ ([] : List Addr) from z) (by simp)) (by simp)
        | some u =>
          rcases hO b with z | ⟨ob, xs, z⟩
          · rw [q] at z; cases z
          · have z2 := un.frzs b ob _ z
            obtain ⟨e1, _⟩ := hok b _ z
            obtain ⟨e2, _⟩ := hok' b _ z2
            rw [e] at e1; cases e1
            exact e2
  cases hk : K.lookup a with
  | some o =>
    -- the script is one of the module's own objects
    have e := KX a o hk
    rw [ha] at e
    cases e
    refine core (fun _ => none) (fun _ => .inl rfl) (.inr ⟨_, vs.toArray, _, hk, rfl, rfl, rfl, by rw [List.size_toArray, lenV]; exact hl, by simpa using rv⟩) (fun b u z => by have z' : (none : Option HO) = some u := z; cases z') (fun b z => absurd rfl z) fun z => absurd rfl z
  | none =>
    refine core (fun b => if b = a then some (.frz { cls := .type "list", data := .seq vs.toArray } (.lst (ns.map V.int))) else none) (fun b => ?_) (.inl (.inr ⟨{ cls := .type "list", data := .seq vs.toArray }, if_pos rfl⟩)) (fun b u z => ?_) (fun b z => ?_) fun _ => hk
    · by_cases hb : b = a
      · exact .inr ⟨_, _, if_pos hb⟩
      · exact .inl (if_neg hb)
    · by_cases hb : b = a
      · have z' := (if_pos hb).symm.trans z
        cases z'
        subst hb
        exact ⟨ha, by rw [List.length_map]; exact hl, vs, _, rv, ha⟩
      · have z' := (if_neg hb).symm.trans z
        cases z'
    · by_cases hb : b = a
      · exact hb
      · exact absurd (if_neg hb) z
end L2
namespace L2
open PySem PySem.Spec PyProof.Rows
theorem walk_of {l : PySem.W.OpenLaw} {n k : Nat} {q : Program} {loose : List Str} {XP : (Str → Option Value) → Heap → Prop} {YP : World → Heap → Prop} {d : DefRec} {K : Params → PySem.W.Frag} {CX : World → CXT} {sp : World → Sp} {x : Str}
    (hn : l.most = some n) (hn2 : n ≤ sizeLine) (hdf : d.params.defaults = []) (hr : Room k callerA)
    (hY : ∀ (w : World) (h : Heap), YP w h → (K w.params).In h)
    (F : ∀ (w : World) (mg : Str → Option Value) (fa : Addr) (h : Heap), (K w.params).In h → h.Ns mainGlobals mg → mg d.name = some (.ref fa) →
      ∃ fd : FuncData, (∀ (s : Shared) (u : Value), BindsTo s fd ⟨[u], []⟩ [(x, u)]) ∧
        ∀ base : Heap, (K w.params).In base → base.Ns mainGlobals mg → FnOk l.prog w (K w.params) mg base (CX w) k fa fd [x] (sp w))
    (hsp : ∀ (w : World) (H : Hp) (a : Addr) (ns : List Int), ns.length ≤ n → Only H → SqL (K w.params) H a (ns.map V.int) → sp w [.ref a] H (fun v _ => v = .bl true) fun _ _ _ => False)
    (hCX : ∀ (w : World) (H : Hp) (s : Shared) (e : Value) (s' : Shared), CX w [] H s (fun _ _ _ => False) e s' → False) :
    PySem.W.WalkO q loose XP YP l.row.toRowW d [] (fun f vs => PySem.call f vs) := by
  refine Att.attach_call hn hdf fun w s₀ s₁ mg mb fa o pm cd doc a vs ns G Y ho hd hcd hmg hobj hints hlen hg => ?_
  have KX := hY w _ Y
  obtain ⟨fd, hb, hF⟩ := F w mg fa _ KX G.T.g hmg
  exact law_call KX G.T.g G.T.b G.T.builtins G.T.nolimit hg hobj hints (Nat.le_trans hlen hn2) hr hF hb (fun H hO hS => hsp w H a ns hlen hO hS) fun H e s' => hCX w H s₁ e s'
end L2
namespace L2
open PySem PySem.Spec PyProof.Rows
def defArgs (s : Stmt) : Arguments := match s with
  | .FunctionDef _ a _ _ _ _ _ _ _ _ => a
  | _ => { posonlyargs := [], args := [], vararg := none, kwonlyargs := [], kw_defaults := [], kwarg := none, defaults := [] }
def defBody (s : Stmt) : List Stmt := match s with
  | .FunctionDef _ _ b _ _ _ _ _ _ _ => b
  | _ => []
def defScope (s : Stmt) : Scope := match s with
  | .FunctionDef _ _ _ _ _ _ sc _ _ _ => sc
  | _ => { kind := .function, names := [], isGenerator := false, isCoroutine := false }
abbrev CX0 : CXT := fun _ _ _ _ _ _ => False
abbrev E0 : XK := fun _ _ _ => False
theorem pass0 {X : Cx} : Passes CX0 X E0 := fun _ _ _ _ _ _ _ h => h.elim
structure Fun (K : PySem.W.Frag) (x qual : Str) (st : Stmt) (f : Addr) (fd : FuncData) : Prop where
  ex : ∃ (oc : Value) (od : Option Addr) (kV doc pm : Value) (an : Option Addr) (cdv ct : Value) (osl : Array (Option Value)),
    fd = PySem.W.fnOf x qual (defArgs st) (defBody st) (defScope st) .none kV doc pm an cdv ct ∧ K.lookup f = some ⟨oc, od, .func fd, osl⟩ ∧ PySem.W.codeIn K cdv qual = true
  kp : PySem.W.keepIn K (.ref f) = true
section
variable {P : Program} {w : World} {K : PySem.W.Frag} {mg : Str → Option Value} {base : Heap}
theorem Fun.ok {x qual : Str} {st : Stmt} {f : Addr} {fd : FuncData} {N ps : List Str} {k : Nat} {sp : Sp} (F : Fun K x qual st f fd) (S : FnScope N ps (defScope st)) (len : ∀ vs H Q E, sp vs H Q E → vs.length = ps.length)
    (hbody : ∀ (cdv : Value) (A : Around) (outer : List Env) (s : Shared) (H : Hp) (vs : List V) (Q : VK) (E : XK), Room k (A.deeper (envOfC qual (defScope st) s.heap.objs.size f cdv)) → sp vs H Q E →
      ∃ t, PSs (cxOf CX0 P w K mg base N qual (defScope st) f cdv A outer s H E).nox (defBody st) t ∧ t { nx := fun _ H' => Q .non H', rt := Q } (start N vs) H) : FnOk P w K mg base CX0 (k + 1) f fd ps sp := by
  obtain ⟨oc, od, kV, doc, pm, an, cdv, ct, osl, rfl, lk, hcd⟩ := F.ex
  refine fn_of lk hcd S len fun A outer s H vs Q E hr hsp => ?_
  obtain ⟨t, h, q⟩ := hbody cdv A outer s H vs Q E hr hsp
  exact ⟨t, h.nox, q⟩
theorem Fun.binds {x qual : Str} {st : Stmt} {f : Addr} {fd : FuncData} {ps : List Str} (F : Fun K x qual st f fd)
    (h : ∀ (kV doc pm : Value) (an : Option Addr) (cdv ct : Value) (us : List Value), us.length = ps.length → bindArgs (PySem.W.fnOf x qual (defArgs st) (defBody st) (defScope st) .none kV doc pm an cdv ct) ⟨us, []⟩ = pure (ps.zip us)) : Binds K fd ps [] := by
  obtain ⟨oc, od, kV, doc, pm, an, cdv, ct, osl, rfl, lk, hcd⟩ := F.ex
  exact .all (h kV doc pm an cdv ct)
theorem fun_mk {x qual : Str} {st : Stmt} {f : Addr} {oc : Value} {od an : Option Addr} {osl : Array (Option Value)} {kV doc pm cdv ct : Value} (l : K.lookup f = some ⟨oc, od, .func (PySem.W.fnOf x qual (defArgs st) (defBody st) (defScope st) .none kV doc pm an cdv ct), osl⟩)
    (c : PySem.W.codeIn K cdv qual = true) (k : PySem.W.keepIn K (.ref f) = true) : Fun K x qual st f (PySem.W.fnOf x qual (defArgs st) (defBody st) (defScope st) .none kV doc pm an cdv ct) := ⟨⟨oc, od, kV, doc, pm, an, cdv, ct, osl, rfl, l, c⟩, k⟩
end
theorem hu_of {A : Around} {k : Nat} (hr : Room k A) : A.units + 1 < cLine := Nat.lt_of_le_of_lt (Nat.add_le_add_left (by decide : 1 ≤ 64) _) hr.units
theorem small1000 {n : Nat} (h : n ≤ 1000) : n < sizeLine := Nat.lt_of_le_of_lt h (by decide)
section
variable {X : Cx}
theorem pv (i : Nat) {x : Str} {pos : Pos} (hN : X.N[i]? = some x := by rfl) (hv : Vis X.env.scope x := by first | exact Or.inl rfl | exact Or.inr (Or.inl rfl) | exact Or.inr (Or.inr rfl)) (hd : (x == ("__debug__" : Str)) = false := by decide)
    (hcd : (x == ("__classdict__" : Str)) = false := by decide) : PE X (.Name x pos) (tVar i) := pe_var hN hv hd hcd
end
theorem iteF {A B : Prop} (h : B) : if false = true then A else B := by
  rw [if_neg Bool.false_ne_true]
  exact h
theorem iteT {A B : Prop} (h : A) : if true = true then A else B := by
  rw [if_pos rfl]
  exact h
theorem ite2 {c A B : Prop} [Decidable c] (h1 : c → A) (h2 : ¬ c → B) : if c then A else B := by
  by_cases h : c
  · rw [if_pos h]
    exact h1 h
  · rw [if_neg h]
    exact h2 h
theorem iteNS {c A B : Prop} [Decidable c] (hc : c) (h : B) : if (!decide c) = true then A else B := by
  rw [decide_eq_true hc]
  exact iteF h
def Same (H H' : Hp) : Prop := ∀ b o, H b = some o → H' b = some o
theorem Same.refl (H : Hp) : Same H H := fun _ _ h => h
theorem Same.trans {H H1 H2 : Hp} (a : Same H H1) (b : Same H1 H2) : Same H H2 := fun c o h => b c o (a c o h)
theorem Same.free {H H' : Hp} (e : Same H H') {l : Addr} (h : H' l = Option.none) : H l = Option.none := by
  cases q : H l with
  | none => rfl
  | some o =>
    rw [e l o q] at h
    cases h
theorem Same.seq {K : PySem.W.Frag} {H H' : Hp} {a : Addr} {xs : List V} (e : Same H H') (h : SqL K H a xs) : SqL K H' a xs := by
  rcases h with (h | ⟨o, h⟩) | h
  · exact .inl (.inl (e _ _ h))
  · exact .inl (.inr ⟨o, e _ _ h⟩)
  · exact .inr h
section
variable {X : Cx}
end
section
variable {κ : Type} [DecidableEq κ]
theorem nd_snoc : ∀ {l : List κ} {k : κ}, l.Nodup → ¬ k ∈ l → (l ++ [k]).Nodup
  | [], k, _, _ => by simp
  | a :: r, k, h, hk => by
    obtain ⟨h1, h2⟩ := List.nodup_cons.mp h
    show (a :: (r ++ [k])).Nodup
    refine List.nodup_cons.mpr ⟨fun m => ?_, nd_snoc h2 fun m => hk (List.mem_cons.mpr (Or.inr m))⟩
    rcases List.mem_append.mp m with q | q
    · exact h1 q
    · exact hk (List.mem_cons.mpr (Or.inl (List.mem_singleton.mp q).symm))
end
end L2
namespace L2
open PySem PySem.Spec PyProof.Rows
theorem closure_go {env : Env} (f : Str × NameKind → List (Str × Addr) → Sem (ForInStep (List (Str × Addr))))
    (hf : ∀ name kind cs, f (name, kind) cs = if kind == .free then (do let a ← cellOf env name; pure (.yield ((name, a) :: cs))) else pure (.yield cs)) :
    ∀ (names : List (Str × NameKind)) (acc : List (Str × Addr)), (∀ p ∈ names, p.2 = .free → ∃ c, env.cells.lookup p.1 = some c) →
      (∀ x c, acc.lookup x = some c → env.cells.lookup x = some c) →
      ∃ cl, (forIn names acc f : Sem _) = pure cl ∧ (∀ x c, cl.lookup x = some c → env.cells.lookup x = some c) ∧ (∀ p ∈ names, p.2 = .free → (cl.lookup p.1).isSome = true) ∧ (∀ x, (acc.lookup x).isSome = true → (cl.lookup x).isSome = true)
  | [], acc, _, ha => ⟨acc, by rw [List.forIn_nil], ha, (fun _ h => by cases h), fun _ h => h⟩
  | (n, k) :: r, acc, hn, ha => by
    rw [List.forIn_cons, hf]
    by_cases hk : k = .free
    · subst hk
      obtain ⟨c, hc⟩ := hn (n, .free) List.mem_cons_self rfl
      obtain ⟨cl, e, h1, h2, h3⟩ := closure_go f hf r ((n, c) :: acc) (fun p hp => hn p (List.mem_cons_of_mem _ hp)) (fun x d hx => by
        rw [List.lookup_cons] at hx
        cases hb : x == n with
        | true => rw [hb] at hx; cases hx; rw [beq_iff_eq.mp hb]; exact hc
        | false => rw [hb] at hx; exact ha x d hx)
      refine ⟨cl, ?_, h1, fun p hp hpf => ?_, fun x hx => h3 x ?_⟩
      · have ec : cellOf env n = pure c := by unfold cellOf; rw [hc]
        rw [if_pos (by rfl), ec]
        simpa using e
      · rcases List.mem_cons.mp hp with z | z
        · subst z; exact h3 n (by rw [List.lookup_cons]; simp)
        · exact h2 p z hpf
      · rw [List.lookup_cons]
        cases hb : x == n with
        | true => rfl
        | false => exact hx
    · obtain ⟨cl, e, h1, h2, h3⟩ := closure_go f hf r acc (fun p hp => hn p (List.mem_cons_of_mem _ hp)) ha
      refine ⟨cl, ?_, h1, fun p hp hpf => ?_, h3⟩
      · have hb : (k == NameKind.free) = false := by simpa using hk
        rw [hb]
        simpa using e
      · rcases List.mem_cons.mp hp with z | z
        · subst z; exact absurd hpf hk
        · exact h2 p z hpf
theorem closure_ok {env : Env} {scope : Scope} (h : ∀ p ∈ scope.names, p.2 = .free → ∃ c, env.cells.lookup p.1 = some c) :
    ∃ cl, closureFor scope env = pure cl ∧ (∀ x c, cl.lookup x = some c → env.cells.lookup x = some c) ∧ (∀ p ∈ scope.names, p.2 = .free → (cl.lookup p.1).isSome = true) := by
  unfold closureFor
  obtain ⟨cl, e, h1, h2, _⟩ := closure_go (env := env) (fun x r => match x, r with
    | (name, kind), cs => if kind == .free then (do let a ← cellOf env name; pure (.yield ((name, a) :: cs))) else pure (.yield cs)) (fun _ _ _ => rfl) scope.names [] h (fun _ _ z => nomatch z)
  refine ⟨cl, ?_, h1, h2⟩
  have e' := congrArg (fun t : Sem (List (Str × Addr)) => t >>= fun cs => pure cs) e
  first
    | simpa using e'
    | (simp only [pure_bind, bind_pure] at e' ⊢; exact e')
theorem cells_inj : ∀ (names : List (Str × NameKind)) (n : Nat) (acc : List (Str × Addr)), (∀ (x y : Str) (c : Nat), acc.lookup x = some c → acc.lookup y = some c → x = y) → (∀ (x : Str) (c : Nat), acc.lookup x = some c → c < n) →
    (∀ (x y : Str) (c : Nat), (cellsFrom n names acc).lookup x = some c → (cellsFrom n names acc).lookup y = some c → x = y) ∧ (∀ (x : Str) (c : Nat), (cellsFrom n names acc).lookup x = some c → acc.lookup x = some c ∨ n ≤ c)
  | [], n, acc, h, hl => ⟨h, fun _ _ z => .inl z⟩
  | (nm, k) :: r, n, acc, h, hl => by
    unfold cellsFrom
    split
    · have lt : ∀ (x : Str) (c : Nat), List.lookup x ((nm, n) :: acc) = some c → (x = nm ∧ c = n) ∨ (x ≠ nm ∧ acc.lookup x = some c) := fun x c e => by
        rw [List.lookup_cons] at e
        cases hb : x == nm with
        | true => rw [hb] at e; cases e; exact .inl ⟨beq_iff_eq.mp hb, rfl⟩
        | false => rw [hb] at e; exact .inr ⟨by simpa using hb, e⟩
      obtain ⟨a, b⟩ := cells_inj r (n + 1) ((nm, n) :: acc) (fun x y c e1 e2 => by
        rcases lt x c e1 with ⟨z1, z2⟩ | ⟨z1, z2⟩ <;> rcases lt y c e2 with ⟨w1, w2⟩ | ⟨w1, w2⟩
        · rw [z1, w1]
        · have := hl y c w2; omega
        · have := hl x c z2; omega
        · exact h x y c z2 w2) (fun x c e => by
        rcases lt x c e with ⟨z1, z2⟩ | ⟨z1, z2⟩
        · omega
        · have := hl x c z2; omega)
      refine ⟨a, fun x c e => ?_⟩
      rcases b x c e with z | z
      · rcases lt x c z with ⟨z1, z2⟩ | ⟨z1, z2⟩
        · exact .inr (by omega)
        · exact .inl z2
      · exact .inr (by omega)
    · exact cells_inj r n acc h hl
theorem cells_out {x : Str} : ∀ (names : List (Str × NameKind)) (n : Nat) (acc : List (Str × Addr)), (∀ p ∈ names, p.1 = x → p.2 ≠ .cell) → (cellsFrom n names acc).lookup x = acc.lookup x
  | [], _, _, _ => rfl
  | (nm, k) :: r, n, acc, h => by
    unfold cellsFrom
    split
    · rename_i hk
      have hk' : k = .cell := by simpa using hk
      have ne : x ≠ nm := fun e => h (nm, k) List.mem_cons_self e.symm hk'
      rw [cells_out r (n + 1) ((nm, n) :: acc) fun p hp => h p (List.mem_cons_of_mem _ hp), List.lookup_cons]
      have : (x == nm) = false := by simpa using ne
      rw [this]
    · exact cells_out r n acc fun p hp => h p (List.mem_cons_of_mem _ hp)
theorem own_keep {x : Str} {c : Nat} : ∀ (names : List (Str × NameKind)) (n : Nat) (acc : List (Str × Addr)) (d : Nat), acc.lookup x = some d → d ≤ n → (cellsFrom n names acc).lookup x = some c → d ≤ c
  | [], _, _, _, h, _, e => by
    have e' : _ = some c := e
    unfold cellsFrom at e'
    rw [h] at e'; cases e'; exact Nat.le_refl _
  | (nm, k) :: r, n, acc, d, h, hd, e => by
    unfold cellsFrom at e
    split at e
    · cases hb : x == nm with
      | true =>
        have := own_keep r (n + 1) ((nm, n) :: acc) n (by rw [List.lookup_cons, hb]) (Nat.le_succ _) e
        omega
      | false => exact own_keep r (n + 1) ((nm, n) :: acc) d (by rw [List.lookup_cons, hb]; exact h) (Nat.le_succ_of_le hd) e
    · exact own_keep r n acc d h hd e
theorem own_new {x : Str} {c : Nat} : ∀ (names : List (Str × NameKind)) (n : Nat) (acc : List (Str × Addr)), (∀ (y : Str) (d : Nat), acc.lookup y = some d → d < n) → names.lookup x = some .cell → (cellsFrom n names acc).lookup x = some c → n ≤ c
  | [], _, _, _, h, _ => by cases h
  | (nm, k) :: r, n, acc, ha, h, e => by
    rw [List.lookup_cons] at h
    unfold cellsFrom at e
    cases hb : x == nm with
    | true =>
      rw [hb] at h
      cases h
      rw [if_pos (by rfl)] at e
      by_cases hr : r.lookup x = some .cell
      · have := own_new r (n + 1) ((nm, n) :: acc) (fun y d z => by
          rw [List.lookup_cons] at z
          cases hy : y == nm with
          | true => rw [hy] at z; cases z; omega
          | false => rw [hy] at z; have := ha y d z; omega) hr e
        omega
      · exact own_keep r (n + 1) ((nm, n) :: acc) n (by rw [List.lookup_cons, hb]) (Nat.le_succ _) e
    | false =>
      rw [hb] at h
      split at e
      · have := own_new r (n + 1) ((nm, n) :: acc) (fun y d z => by
          rw [List.lookup_cons] at z
          cases hy : y == nm with
          | true => rw [hy] at z; cases z; omega
          | false => rw [hy] at z; have := ha y d z; omega) h e
        omega
      · exact own_new r n acc ha h e
theorem cells_are : ∀ (names : List (Str × NameKind)) (h : Heap) (acc : List (Str × Addr)) (x : Str) (c : Addr), (∀ x c, acc.lookup x = some c → ∃ v, h.IsCell c v) → (cellsFrom h.objs.size names acc).lookup x = some c → ∃ v, (pushCells h names).IsCell c v
  | [], h, acc, x, c, ha, e => ha x c e
  | (nm, k) :: r, h, acc, x, c, ha, e => by
    unfold cellsFrom at e
    unfold pushCells
    split at e
    · rename_i hk
      rw [if_pos hk]
      refine cells_are r (h.push { cls := .type "cell", data := .cell none }) ((nm, h.objs.size) :: acc) x c (fun y d z => ?_) (by rw [Heap.size_push]; exact e)
      rw [List.lookup_cons] at z
      cases hb : y == nm with
      | true => rw [hb] at z; cases z; exact ⟨none, _, Heap.get?_push_size _ rfl, rfl⟩
      | false =>
        rw [hb] at z
        obtain ⟨v, q⟩ := ha y d z
        exact ⟨v, q.keeps fun b o e => Heap.get?_push_of_some _ e⟩
    · rename_i hk
      rw [if_neg hk]
      exact cells_are r h acc x c ha e
end L2
namespace L2
open PySem PySem.Spec PyProof.Rows
section
variable {prog : Program} {w : World} {A : Around} {E : Value → Shared → Prop} {R : Result → Shared → Prop} {s : Shared}
theorem compLoop_go {elt target iter : Expr} {ifs : List Expr} {scope : Scope} {pos : Pos} {it acc : Value} {env : Env} (I : Nat → Shared → Prop)
    (turn : ∀ n s, I n s → wpAny (model prog w) A (pyNext it) (fun r s₁ => match r with
      | none => R (.ok .next) s₁
      | some v => wpAny (model prog w) A (letOwnedTupleGo target it v) (fun _ s₁ => wpAny (model prog w) A (assign target env v) (fun _ s₂ =>
          wpAny (model prog w) A (forIn ifs true fun c r => if r = true then do let ok ← isTrue c env (eval c env); pure (ForInStep.yield ok) else pure (ForInStep.yield r)) (fun ok s₃ =>
            if ok = true then wpAny (model prog w) A (eval elt env) (fun x s₄ =>
              wpAny (model prog w) A (call (.builtin "list.append") [acc, x]) (fun _ s₅ => ∃ m, m < n ∧ I m s₅) (fun _ _ => False) s₄) (fun _ _ => False) s₃
            else ∃ m, m < n ∧ I m s₃) (fun _ _ => False) s₂) (fun _ _ => False) s₁) (fun _ _ => False) s₁) (fun _ _ => False) s)
    (n : Nat) (h : I n s) :
    codeAny (model prog w) A (.compLoop (.ListComp elt [⟨target, iter, ifs, 0⟩] scope pos) 0 it acc env) R s := by
  refine codeAny_loop rfl I (fun n s hI => ?_) n h
  show wpAny _ A ((compTurn (.ListComp elt [⟨target, iter, ifs, 0⟩] scope pos) 0 it acc env).onRaise (fun x => do noteFrame x env; theTreesLotGoes x)) _ _ s
  refine wpAny_noted ?_
  rw [compTurn_list]
  refine wpAny_bind (wpAny_standAt (wpAny_bind (wpAny_mono (turn n s hI) (fun r s₁ h₁ => ?_) fun _ _ h' => h'.elim)))
  cases r with
  | none => exact wpAny_pure h₁
  | some v =>
    refine wpAny_bind (wpAny_mono h₁ (fun _ s₁ h₁ => ?_) fun _ _ h' => h'.elim)
    refine wpAny_bind (wpAny_mono h₁ (fun _ s₂ h₂ => wpAny_bind (wpAny_mono h₂ (fun ok s₃ h₃ => ?_) fun _ _ h' => h'.elim)) fun _ _ h' => h'.elim)
    cases ok with
    | false => exact wpAny_pure ⟨rfl, h₃⟩
    | true =>
      exact wpAny_bind (wpAny_bind (wpAny_mono h₃ (fun x s₄ h₄ => wpAny_bind (wpAny_mono h₄ (fun _ s₅ h₅ => wpAny_pure (wpAny_pure ⟨rfl, h₅⟩)) fun _ _ h' => h'.elim)) fun _ _ h' => h'.elim))
end
abbrev compCx (X : Cx) (scope : Scope) (N' : List Str) (cells : List (Str × Addr)) (C : Addr) (s₀ : Shared) (H₀ : Hp) (ex : List Addr) (pn : List (Addr × Obj)) : Cx where
  prog := X.prog
  w := X.w
  K := X.K
  mg := X.mg
  base := X.base
  A := X.A
  N := N'
  s₀ := s₀
  H₀ := H₀
  env := { scope := relabel scope X.env, locals := C, globals := X.env.globals, cells := cells, qual := X.env.qual, func := none, code := X.env.code, frame := X.env.frame, builtins := X.env.builtins }
  outer := X.stack
  stack := X.stack
  ex := ex
  fn := fun x => scope.names.lookup x == some .cell
  calm := X.calm
  pn := pn
  xe := fun _ _ => False
def cst (ix : List (Option Nat)) (σ : St) : St := ix.map fun o => o.bind fun j => (σ[j]?).bind id
def compChk (X : Cx) (scope : Scope) (N' : List Str) (ix : List (Option Nat)) : Bool :=
  scope.names.all (fun p => scope.names.lookup p.1 == some p.2) &&
  scope.names.all (fun p => !(p.2 == .free) || X.env.scope.names.lookup p.1 == some .cell || X.env.scope.names.lookup p.1 == some .free) &&
  ix.length == N'.length &&
  (N'.zip ix).all (fun p => match p.2 with | none => true | some j => X.N[j]? == some p.1 && scope.names.lookup p.1 == some .free) && scope.kind == .function
def PTs (X : Cx) (ifs : List Expr) (t : TT) : Prop :=
  ∀ (pins : List (Addr × Obj)) (s : Shared) (σ : St) (H : Hp) (Q : Bool → Hp → Prop), Inv X pins σ H s → t σ H Q →
    wpAny (model X.prog X.w) X.A (forIn ifs true fun c r => if r = true then do let ok ← isTrue c X.env (eval c X.env); pure (ForInStep.yield ok) else pure (ForInStep.yield r)) (TP X pins σ Q) X.xe s
def tAll : TT := fun _ H Q => Q true H
theorem pts_nil {X : Cx} : PTs X [] tAll := fun _ _ _ H _ I h => wpAny_tests_nil ⟨H, I, h⟩
def tComp (ix : List (Option Nat)) (wi : TI) (g : TG) (tc : TT) (te : TE) : TE := fun σ H Q => wi σ H fun J H1 => ∃ W : Nat → Nat → List V → St → Hp → Prop, (∃ m, W 0 m [] (cst ix σ) H1) ∧ ∀ i m ys τ H, W i m ys τ H →
  (J.stop i H ∧ ∀ D, H D = none → Q (.ref D) (upd H D (.lst ys))) ∨
  (J.go i H ∧ ys.length < sizeLine ∧ ∃ N : List V → St → Hp → Prop, (∀ ys' τ' H', N ys' τ' H' → ∃ m', m' < m ∧ W (i + 1) m' ys' τ' H') ∧
    ∀ x H', J.yld i H x H' → g x τ H' fun τ2 H2 => tc τ2 H2 fun b H3 => if b = true then te τ2 H3 (fun y H4 => N (ys ++ [y]) τ2 H4) else N ys τ2 H3)
def rlF (env : Env) (p : Str × NameKind) : Str × NameKind := if (p.2 == NameKind.free && env.scope.kind == .function && env.kindOf p.1 == some .cell) = true then (p.1, NameKind.cell) else (p.1, p.2)
theorem rlF_key (env : Env) (p : Str × NameKind) : (rlF env p).1 = p.1 := by unfold rlF; split <;> rfl
theorem lookup_key {f : Str × NameKind → Str × NameKind} (hf : ∀ p, (f p).1 = p.1) (x : Str) : ∀ names : List (Str × NameKind), (names.map f).lookup x = (names.lookup x).map fun k => (f (x, k)).2
  | [] => rfl
  | (n, k) :: r => by
    rw [List.map_cons]
    obtain ⟨a, b, e⟩ : ∃ a b, f (n, k) = (a, b) := ⟨_, _, rfl⟩
    have ha : a = n := by have := hf (n, k); rw [e] at this; exact this
    subst ha
    rw [e, List.lookup_cons, List.lookup_cons, lookup_key hf x r]
    cases hb : x == a with
    | true =>
      have : x = a := beq_iff_eq.mp hb
      subst this
      show some b = some (f (x, k)).2
      rw [e]
    | false => rfl
theorem relabel_lookup (scope : Scope) (env : Env) (x : Str) : (relabel scope env).names.lookup x = (scope.names.lookup x).map fun k => (rlF env (x, k)).2 := lookup_key (rlF_key env) x scope.names
theorem relabel_look {scope : Scope} {env : Env} {x : Str} (h : scope.names.lookup x = some .free) : (relabel scope env).names.lookup x = some .cell ∨ (relabel scope env).names.lookup x = some .free := by
  rw [relabel_lookup, h]
  show some (rlF env (x, .free)).2 = _ ∨ some (rlF env (x, .free)).2 = _
  unfold rlF
  by_cases hc : ((x, NameKind.free).snd == NameKind.free && env.scope.kind == ScopeKind.function && env.kindOf (x, NameKind.free).fst == some NameKind.cell) = true
  · rw [if_pos hc]; exact .inl rfl
  · rw [if_neg hc]; exact .inr rfl
theorem relabel_back {scope : Scope} {env : Env} {x : Str} (h : (relabel scope env).names.lookup x = some .cell ∨ (relabel scope env).names.lookup x = some .free) : scope.names.lookup x = some .cell ∨ scope.names.lookup x = some .free := by
  rw [relabel_lookup] at h
  cases e : scope.names.lookup x with
  | none => rw [e] at h; rcases h with h | h <;> cases h
  | some k =>
    rw [e] at h
    have h' : (rlF env (x, k)).2 = .cell ∨ (rlF env (x, k)).2 = .free := by
      rcases h with h | h
      · exact .inl (Option.some.inj h)
      · exact .inr (Option.some.inj h)
    unfold rlF at h'
    split at h'
    · rename_i hc
      have : k = .free := by
        have := (Bool.and_eq_true_iff.mp (Bool.and_eq_true_iff.mp hc).1).1
        simpa using this
      exact .inr (by rw [this])
    · rcases h' with z | z
      · have z' : k = .cell := z
        exact .inl (by rw [z'])
      · have z' : k = .free := z
        exact .inr (by rw [z'])
end L2
namespace L2
open PySem PySem.Spec PyProof.Rows
abbrev lobj (its : List Value) (n : Nat) : Obj := { cls := .type "list", data := .seq its.toArray n }
section
variable {X : Cx} {pins : List (Addr × Obj)} {σ : St} {H : Hp} {s : Shared}
theorem HOk.add {P : Program} {w : World} {h : Heap} {D : Addr} {o : HO} (x : HOk P w H h) (hn : H D = none) (new : ObjOk P w (upd H D o) h D o) : HOk P w (upd H D o) h := fun b u e => by
  by_cases hb : b = D
  · subst hb; rw [upd_same] at e; cases e; exact new
  · rw [upd_ne hb] at e
    exact (x b u e).stay (fun c v _ q => q) (fun c q => by rw [upd_ne (ne_of_none q hn)]; exact q) fun c xs q => by rw [upd_ne (ne_of_none q hn)]; exact q
theorem HOk.but {P : Program} {w : World} {h h' : Heap} {C : Addr} (x : HOk P w H h) (hn : H C = none) (sb : Heap.SameBut C h h') : HOk P w H h' := fun b u e => by
  refine (x b u e).stay (fun c v hc q => (sb.2 c ?_).trans q) (fun _ q => q) fun _ _ q => q
  rintro rfl
  rcases hc with rfl | hc
  · rw [hn] at e; cases e
  · rw [hn] at hc; cases hc
end
theorem comp_inv {X : Cx} {pins : List (Addr × Obj)} {σ : St} {H2 : Hp} {s2 : Shared} {scope : Scope} {N' : List Str} {ix : List (Option Nat)} {cl : List (Str × Addr)} {fp : List Addr}
    (c1 : ∀ p ∈ scope.names, scope.names.lookup p.1 = some p.2) (c3 : ix.length = N'.length)
    (c2 : ∀ p ∈ scope.names, p.2 = .free → X.env.scope.names.lookup p.1 = some .cell ∨ X.env.scope.names.lookup p.1 = some .free)
    (c4 : ∀ (i : Nat) (x : Str) (j : Nat), N'[i]? = some x → ix[i]? = some (some j) → X.N[j]? = some x ∧ scope.names.lookup x = some .free) (ck : scope.kind = .function)
    (cl1 : ∀ x c, cl.lookup x = some c → X.env.cells.lookup x = some c) (cl2 : ∀ p ∈ scope.names, p.2 = .free → (cl.lookup p.1).isSome = true)
    (I2 : Inv X pins σ H2 s2) (f2 : ∀ b ∈ fp, FpOk X pins H2 b) (o2 : ∀ b ∈ fp, ∃ o, s2.heap.get? b = some o ∧ ∀ v, o.data ≠ .cell v) :
    Inv (compCx X scope N' (cellsFrom (s2.heap.objs.size + 2) scope.names cl) (s2.heap.objs.size + 1) s2 H2 fp []) [(s2.heap.objs.size, lobj [] 0)] (cst ix σ) H2
      { s2 with heap := pushCells ((s2.heap.push (lobj [] 0)).push { cls := .type "dict", data := .dict #[] }) scope.names } := by
  have sz3 : (s2.heap.push (lobj [] 0)).objs.size = s2.heap.objs.size + 1 := Heap.size_push ..
  have sz4 : ((s2.heap.push (lobj [] 0)).push { cls := .type "dict", data := .dict #[] }).objs.size = s2.heap.objs.size + 2 := by rw [Heap.size_push, sz3]
  have keep : ∀ b o, s2.heap.get? b = some o → (pushCells ((s2.heap.push (lobj [] 0)).push { cls := .type "dict", data := .dict #[] }) scope.names).get? b = some o := fun b o e =>
    pushCells_keeps _ _ b o (Heap.get?_push_of_some _ (Heap.get?_push_of_some _ e))
  have cllt : ∀ (x : Str) (c : Nat), cl.lookup x = some c → c < s2.heap.objs.size := fun x c e => by
    obtain ⟨v, q⟩ := I2.cell x c (cl1 x c e)
    exact q.lt
  obtain ⟨ci, cc⟩ := cells_inj scope.names (s2.heap.objs.size + 2) cl (fun x y c e1 e2 => I2.ok.inj x y c (cl1 x c e1) (cl1 y c e2)) (fun x c e => by have := cllt x c e; omega)
  have cell : ∀ x c, (cellsFrom (s2.heap.objs.size + 2) scope.names cl).lookup x = some c → ∃ v, (pushCells ((s2.heap.push (lobj [] 0)).push { cls := .type "dict", data := .dict #[] }) scope.names).IsCell c v := fun x c e => by
    refine cells_are scope.names _ cl x c (fun y d z => ?_) (by rw [sz4]; exact e)
    obtain ⟨v, q⟩ := I2.cell y d (cl1 y d z)
    exact ⟨v, q.keeps fun b o e => Heap.get?_push_of_some _ (Heap.get?_push_of_some _ e)⟩
  have lt2 : ∀ (b : Nat), b ∈ fp → b < s2.heap.objs.size := fun b hb => by
    obtain ⟨o, e, _⟩ := o2 b hb
    exact Heap.lt_size e
  refine ⟨⟨I2.ok.mod, ck, I2.ok.glob, I2.ok.blt, Nat.le_succ _, ci, fun x hx => ?_, fun x c hf e => ?_, I2.ok.hd, I2.ok.frames, .inl rfl, fun b hb => ⟨?_, fun x c e => ?_⟩, I2.bs, Nat.le_trans I2.ok.bsz I2.sz, fun b o e hb => ?_, fun b hb z => ?_, I2.stack, I2.stkFree⟩,
    rfl, I2.bare, Un.kept keep, ⟨fun _ => none, ?_, fun i x v e1 e2 e3 => ?_⟩, cell, ?_, fun x c e => ?_, fun p hp => ?_, I2.hok.kept keep, ?_⟩
  · -- has
    have hx' := relabel_back (scope := scope) (env := X.env) (x := x) hx
    rcases hx' with z | z
    · exact Option.isSome_iff_exists.mp (PySem.W.cellsFrom_some scope.names _ cl (.inl z))
    · exact Option.isSome_iff_exists.mp (PySem.W.cellsFrom_some scope.names _ cl (.inr (cl2 (x, .free) (PySem.mem_of_lookup z) rfl)))
  · -- cab
    have hf' : scope.names.lookup x = some .cell := by simpa using hf
    have := own_new scope.names (s2.heap.objs.size + 2) cl (fun x c e => by have := cllt x c e; omega) hf' e
    show s2.heap.objs.size ≤ c
    omega
  · -- ex: not the frame
    exact Nat.ne_of_lt (Nat.lt_succ_of_lt (lt2 b hb))
  · -- ex: no cell
    rcases cc x c e with z | z
    · exact (f2 b hb).2.2.2.2.1 x c (cl1 x c z)
    · exact Nat.ne_of_gt (Nat.lt_of_lt_of_le (lt2 b hb) (Nat.le_trans (Nat.le_add_right _ 2) z))
  · -- base objects are not iterators
    rcases (f2 b hb).2.2.2.1 with z | z
    · exact I2.ok.noex b o e z
    · exact absurd (Nat.lt_of_lt_of_le (Nat.lt_of_lt_of_le (Heap.lt_size e) I2.ok.bsz) z) (Nat.lt_irrefl _)
  · rcases List.mem_cons.mp (I2.stkSub b z) with q | q
    · exact (f2 b hb).2.1 q
    · exact (f2 b hb).2.2.1 q
  · -- the new frame
    have := Heap.Ns.new (s2.heap.push (lobj [] 0)) (.type "dict")
    rw [sz3] at this
    exact this.keeps (pushCells_keeps _ _)
  · -- what is seen
    unfold cst at e2
    rw [List.getElem?_map] at e2
    cases ej : ix[i]? with
    | none => rw [ej] at e2; cases e2
    | some o =>
      rw [ej] at e2
      cases o with
      | none => cases e2
      | some j =>
        obtain ⟨n1, n2⟩ := c4 i x j e1 ej
        have e2' : ((σ[j]?).bind id) = some v := Option.some.inj e2
        have eσ : σ[j]? = some (some v) := by
          cases q : σ[j]? with
          | none => rw [q] at e2'; cases e2'
          | some q' => rw [q] at e2'; cases q' with
            | none => cases e2'
            | some q'' => cases e2'; rfl
        have hv : Vis X.env.scope x := by
          rcases c2 (x, .free) (PySem.mem_of_lookup n2) rfl with z | z
          · exact .inr (.inl z)
          · exact .inr (.inr z)
        obtain ⟨m, hn, hl⟩ := I2.loc
        obtain ⟨u, ru, lk⟩ := hl j x v n1 eσ hv
        refine ⟨u, ru, .inr ⟨relabel_look (scope := scope) (env := X.env) n2, ?_⟩⟩
        rcases lk with ⟨z, _⟩ | ⟨_, c, ec, q⟩
        · exfalso
          rcases c2 (x, .free) (PySem.mem_of_lookup n2) rfl with z' | z' <;> (have z2 : X.env.scope.names.lookup x = some .local := z; rw [z2] at z'; cases z')
        · refine ⟨c, ?_, q.keeps keep⟩
          show (cellsFrom (s2.heap.objs.size + 2) scope.names cl).lookup x = some c
          rw [cells_out scope.names _ cl fun p hp e hpc => by
            have q1 := c1 p hp
            rw [e, n2, hpc] at q1
            cases q1]
          obtain ⟨d, ed⟩ := Option.isSome_iff_exists.mp (cl2 (x, .free) (PySem.mem_of_lookup n2) rfl)
          have := cl1 x d ed
          rw [ec] at this
          cases this
          exact ed
  · exact I2.hok.fresh (Nat.le_succ _)
  · rcases cc x c e with z | z
    · exact I2.freeC x c (cl1 x c z)
    · exact I2.hok.fresh (by omega)
  · have e : p = (s2.heap.objs.size, lobj [] 0) := by simpa using hp
    subst e
    refine ⟨pushCells_keeps _ _ _ _ (Heap.get?_push_of_some _ (Heap.get?_push_size _ rfl)), I2.hok.fresh (Nat.le_refl _), Nat.ne_of_lt (Nat.lt_succ_self _), fun z => ?_, fun v z => by cases z⟩
    rcases List.mem_cons.mp (I2.stkSub _ z) with q | q
    · have := I2.lt; exact absurd (q ▸ this) (Nat.lt_irrefl _)
    · exact I2.nofs (Nat.le_refl _) q
  · show (cst ix σ).length = N'.length
    unfold cst
    rw [List.length_map, c3]
end L2
namespace L2
open PySem PySem.Spec PyProof.Rows
theorem comp_end {X : Cx} {pins pins' : List (Addr × Obj)} {σ τ : St} {H2 H' : Hp} {s2 s' : Shared} {scope : Scope} {N' : List Str} {cells : List (Str × Addr)} {fp : List Addr} {C D : Addr} {ys : List V} {its : List Value} {k : Nat} {h' : Heap}
    (I2 : Inv X pins σ H2 s2) (f2 : ∀ b ∈ fp, FpOk X pins H2 b) (I' : Inv (compCx X scope N' cells C s2 H2 fp []) pins' τ H' s') (hC : s2.heap.objs.size ≤ C) (hD : s2.heap.objs.size ≤ D) (hDC : D ≠ C)
    (hn : H' D = none) (e : s'.heap.get? D = some (lobj its k)) (hv : Vals ys its) (hz : ys.length ≤ sizeLine) (sb : Heap.SameBut C s'.heap h') : Inv X pins σ (upd H' D (.lst ys)) { s' with heap := h' } := by
  have ne : ∀ b o, s2.heap.get? b = some o → b ≠ C ∧ b ≠ D := fun b o q => by
    have := Heap.lt_size q
    exact ⟨Nat.ne_of_lt (Nat.lt_of_lt_of_le this hC), Nat.ne_of_lt (Nat.lt_of_lt_of_le this hD)⟩
  have ok1 : HOk X.prog X.w H' h' := HOk.but I'.hok I'.free sb
  have eD : h'.get? D = some (lobj its k) := (sb.2 D hDC).trans e
  have U := I'.base
  refine I2.call' (s' := { s' with heap := h' }) (ch := fp) I'.os ⟨fun b o q n hb hx => ?_, fun b o q n hb hx => ?_, fun b o q n hx => ?_, fun b o q hx => ?_, fun b xs q => ?_, fun b o u q => ?_, fun b ps q => ?_⟩ (HOk.add ok1 hn ⟨hz, its, k, hv, eD⟩) I'.bare fun b hb => ?_
  · exact (sb.2 b (ne b o q).1).trans (U.keep b o q n hb hx)
  · obtain ⟨sl, z⟩ := U.slot b o q n hb hx
    exact ⟨sl, (sb.2 b (ne b o q).1).trans z⟩
  · rw [upd_ne (ne b o q).2]; exact U.free b o q n hx
  · obtain ⟨o', z⟩ := U.there b o q hx
    exact ⟨o', (sb.2 b (ne b o q).1).trans z⟩
  · have z := U.tups b xs q
    rw [upd_ne (ne_of_none z hn)]; exact z
  · have z := U.frzs b o u q
    rw [upd_ne (ne_of_none z hn)]; exact z
  · obtain ⟨more, z⟩ := U.tbls b ps q
    exact ⟨more, by rw [upd_ne (ne_of_none z hn)]; exact z⟩
  · obtain ⟨_, a1, _, a2, a3, a4⟩ := f2 b hb
    exact ⟨a2, a1, a3, a4⟩
theorem append_un {X : Cx} {τ : St} {H' : Hp} {s : Shared} {D : Addr} {its : List Value} {k : Nat} {u : Value} {E : Value → Shared → Prop} {Q : Value → Shared → Prop} (hz : its.length < sizeLine) (e : s.heap.get? D = some (lobj its k))
    (h : ∀ h' k', h'.get? D = some (lobj (its ++ [u]) k') → (∀ b o, b ≠ D → s.heap.get? b = some o → h'.get? b = some o) → Q .none { s with heap := h' }) :
    wpAny (model X.prog X.w) X.A (call (.builtin "list.append") [.ref D, u]) Q E s := by
  refine call_meets F.slot_list_append ⟨_, e, rfl⟩ F.entry_list_append (F.args_list_append_2 _ _) (PySem.list_append D its.toArray k u (by rw [List.size_toArray]; omega)) ⟨e, ?_⟩
  have q := PySem.IsL.update e (·.push u)
  have e2 : (its ++ [u]).toArray = its.toArray.push u := by simp
  refine h _ _ (by show _ = some ({ cls := .type "list", data := .seq (its ++ [u]).toArray _ } : Obj); rw [e2]; exact q) fun b o hb eb => (Heap.get?_update_other s.heap _ (Ne.symm hb)).trans eb
theorem pe_comp {X : Cx} {tg iter elt : Expr} {ifs : List Expr} {scope : Scope} {pos : Pos} {N' : List Str} {ix : List (Option Nat)} {wi : TI} {g : TG} {tc : TT} {te : TE}
    (hc : X.calm = true) (chk : compChk X scope N' ix = true) (hi : PI X tg iter wi)
    (hg : ∀ cells C s₀ H₀ ex pn, PG (compCx X scope N' cells C s₀ H₀ ex pn) tg g)
    (ht : ∀ cells C s₀ H₀ ex pn, PTs (compCx X scope N' cells C s₀ H₀ ex pn) ifs tc)
    (he : ∀ cells C s₀ H₀ ex pn, PE (compCx X scope N' cells C s₀ H₀ ex pn) elt te)
    (hs : ∀ x, foldedSetIterable iter X.env x = pure x := by intro _; rfl) :
    PE X (.ListComp elt [⟨tg, iter, ifs, 0⟩] scope pos) (tComp ix wi g tc te) := by
  intro pins s σ H Q I h
  unfold compChk at chk
  obtain ⟨chk, k5⟩ := Bool.and_eq_true_iff.mp chk
  obtain ⟨chk, k4⟩ := Bool.and_eq_true_iff.mp chk
  obtain ⟨chk, k3⟩ := Bool.and_eq_true_iff.mp chk
  obtain ⟨k1, k2⟩ := Bool.and_eq_true_iff.mp chk
  have c1 : ∀ p ∈ scope.names, scope.names.lookup p.1 = some p.2 := fun p hp => by simpa using List.all_eq_true.mp k1 p hp
  have c2 : ∀ p ∈ scope.names, p.2 = .free → X.env.scope.names.lookup p.1 = some .cell ∨ X.env.scope.names.lookup p.1 = some .free := fun p hp hf => by
    have := List.all_eq_true.mp k2 p hp
    rw [hf] at this
    simpa using this
  have c3 : ix.length = N'.length := by simpa using k3
  have ck : scope.kind = .function := by simpa using k5
  have c4 : ∀ (i : Nat) (x : Str) (j : Nat), N'[i]? = some x → ix[i]? = some (some j) → X.N[j]? = some x ∧ scope.names.lookup x = some .free := fun i x j e1 e2 => by
    have m : (x, some j) ∈ N'.zip ix := by
      refine List.mem_of_getElem? (i := i) ?_
      rw [List.getElem?_zip_eq_some]
      exact ⟨e1, e2⟩
    have := List.all_eq_true.mp k4 _ m
    have := Bool.and_eq_true_iff.mp this
    exact ⟨by simpa using this.1, by simpa using this.2⟩
  obtain ⟨cl, ecl, cl1, cl2⟩ := closure_ok (env := X.env) (scope := scope) (fun p hp hf => I.ok.has p.1 (c2 p hp hf))
  rw [eval_ListComp]
  refine wpAny_comprehension_free (use := none) rfl hs ecl ck (fun y hy hl => by rw [c1 y hy, hl]) (thn (hi pins s σ H _ I h) fun v s1 h1 => thn h1 fun itv s2 h2 => ?_)
  obtain ⟨it, fp, tn, J, H2, e, I2, T, st2, f2, W, ⟨m0, w0⟩, turn⟩ := h2
  subst e
  have I5 := comp_inv (N' := N') (ix := ix) (fp := fp) c1 c3 c2 c4 ck cl1 cl2 I2 f2 (T.obj _ _ st2)
  refine wpAny_newObj_type ?_
  unfold newFunctionEnv
  refine wpAny_bind (wpAny_alloc ?_)
  refine wpAny_bind (wpAny_layCells _ (fun name kind cells => by cases hkc : kind == NameKind.cell <;> simp [hkc]) _ _ _ _ ?_)
  refine wpAny_bind ?_
  rw [List.forIn_nil]
  refine wpAny_pure (wpAny_pure ?_)
  have sz3 : (s2.heap.push (lobj [] 0)).objs.size = s2.heap.objs.size + 1 := Heap.size_push ..
  have sz4 : ((s2.heap.push (lobj [] 0)).push { cls := .type "dict", data := .dict #[] }).objs.size = s2.heap.objs.size + 2 := by rw [Heap.size_push, sz3]
  show codeAny (model X.prog X.w) X.A (.compStart (.ListComp elt [⟨tg, iter, ifs, 0⟩] scope pos) 0 (.ref it) (.ref s2.heap.objs.size)
    (compCx X scope N' (cellsFrom ((s2.heap.push (lobj [] 0)).push { cls := .type "dict", data := .dict #[] }).objs.size scope.names cl) (s2.heap.push (lobj [] 0)).objs.size s2 H2 fp []).env)
    (compPost (model X.prog X.w) X.A X.xe none (EP X pins σ Q) (.ref s2.heap.objs.size) (s2.heap.push (lobj [] 0)).objs.size)
    { s2 with heap := pushCells ((s2.heap.push (lobj [] 0)).push { cls := .type "dict", data := .dict #[] }) scope.names }
  rw [sz4, sz3]
  generalize hcells : cellsFrom (s2.heap.objs.size + 2) scope.names cl = cells at I5 ⊢
  have keep5 : ∀ b o, s2.heap.get? b = some o → (pushCells ((s2.heap.push (lobj [] 0)).push { cls := .type "dict", data := .dict #[] }) scope.names).get? b = some o := fun b o e =>
    pushCells_keeps _ _ b o (Heap.get?_push_of_some _ (Heap.get?_push_of_some _ e))
  generalize hh5 : ({ s2 with heap := pushCells ((s2.heap.push (lobj [] 0)).push { cls := .type "dict", data := .dict #[] }) scope.names } : Shared) = s5 at I5 ⊢
  have keep5 : ∀ b o, s2.heap.get? b = some o → s5.heap.get? b = some o := by rw [← hh5]; exact keep5
  have st5 : tn 0 s5.heap := T.keep _ _ _ st2 fun b hb o e => keep5 b o e
  have lt2 : ∀ (b : Nat), b ∈ fp → b < s2.heap.objs.size := fun b hb => by
    obtain ⟨o, e, _⟩ := T.obj _ _ st2 b hb
    exact Heap.lt_size e
  -- the iterator within the block
  have stat : ∀ {H' : Hp} {o : Obj}, (∀ b ∈ fp, H' b = none) → ∀ b ∈ fp, FpOk (compCx X scope N' cells (s2.heap.objs.size + 1) s2 H2 fp []) [(s2.heap.objs.size, o)] H' b := fun {H' o} hn b hb =>
    ⟨hn b hb, (I5.ok.exf b hb).1, I5.ok.exfs b hb, .inl hb, (I5.ok.exf b hb).2, fun p hp => by
      have e : p = (s2.heap.objs.size, o) := by simpa using hp
      subst e
      exact Nat.ne_of_gt (lt2 b hb)⟩
  have loop : codeAny (model X.prog X.w) X.A (.compLoop (.ListComp elt [⟨tg, iter, ifs, 0⟩] scope pos) 0 (.ref it) (.ref s2.heap.objs.size)
      (compCx X scope N' cells (s2.heap.objs.size + 1) s2 H2 fp []).env) (compPost (model X.prog X.w) X.A X.xe none (EP X pins σ Q) (.ref s2.heap.objs.size) (s2.heap.objs.size + 1)) s5 := by
    refine compLoop_go (fun n s' => ∃ i ys τ H' its k, Inv (compCx X scope N' cells (s2.heap.objs.size + 1) s2 H2 fp []) [(s2.heap.objs.size, lobj its k)] τ H' s' ∧ tn i s'.heap ∧ (∀ b ∈ fp, H' b = none) ∧ Vals ys its ∧ ys.length ≤ sizeLine ∧ W i n ys τ H') ?_ m0
      ⟨0, [], _, H2, [], 0, I5, st5, fun b hb => (f2 b hb).1, .nil, Nat.zero_le _, w0⟩
    rintro n s3 ⟨i, ys, τ, H3, its, k, I3, st3, fr3, hv3, hz3, w3⟩
    rcases turn i n ys τ H3 w3 with ⟨stop, qn⟩ | ⟨go, hlen, N, hN, step⟩
    · refine thn (T.done (compCx X scope N' cells (s2.heap.objs.size + 1) s2 H2 fp []) rfl rfl rfl hc i _ s3 τ H3 (fun _ _ => False) I3 (stat fr3) st3 stop) fun r s4 ⟨hr, I4⟩ => ?_
      subst hr
      obtain ⟨m, hn, _⟩ := id I4.loc
      obtain ⟨eD, nD, _, _, _⟩ := I4.pin (s2.heap.objs.size, lobj its k) (by simp)
      refine ⟨m, hn, fun h' sb => ⟨.ref s2.heap.objs.size, upd H3 s2.heap.objs.size (.lst ys), ?_, rfl, qn _ nD⟩⟩
      exact comp_end I2 f2 I4 (Nat.le_succ _) (Nat.le_refl _) (Nat.ne_of_lt (Nat.lt_succ_self _)) nD eD hv3 hz3 sb
    · refine thn (T.item (compCx X scope N' cells (s2.heap.objs.size + 1) s2 H2 fp []) rfl rfl rfl hc i _ s3 τ H3 (fun _ _ => False) I3 (stat fr3) st3 go) fun r s4 ⟨u, hr, h4⟩ => ?_
      subst hr
      refine thn h4 fun _ s5' ⟨x, H5, I5', r5, y5, st5', fr5⟩ => ?_
      have I6 := I5'.pinned (stat fr5) (T.obj _ _ st5')
      refine thn (hg cells _ s2 H2 fp [] _ s5' τ H5 x u _ I6 r5 (step x H5 y5)) fun _ s6 ⟨τ6, H6, I7, q6⟩ => ?_
      refine thn (ht cells _ s2 H2 fp [] _ s6 τ6 H6 _ I7 q6) fun ok s7 ⟨H7, I8, q7⟩ => ?_
      have fin : ∀ {s8 : Shared} {H8 : Hp} {its' : List Value} {k' : Nat} {ys' : List V}, Inv (compCx X scope N' cells (s2.heap.objs.size + 1) s2 H2 fp []) ([(s2.heap.objs.size, lobj its' k')] ++ pinsAt fp s5'.heap) τ6 H8 s8 → Vals ys' its' → ys'.length ≤ sizeLine → N ys' τ6 H8 →
          ∃ m, m < n ∧ ∃ i ys τ H' its k, Inv (compCx X scope N' cells (s2.heap.objs.size + 1) s2 H2 fp []) [(s2.heap.objs.size, lobj its k)] τ H' s8 ∧ tn i s8.heap ∧ (∀ b ∈ fp, H' b = none) ∧ Vals ys its ∧ ys.length ≤ sizeLine ∧ W i m ys τ H' := fun {s8 H8 its' k' ys'} I9 hv hz n9 => by
        obtain ⟨m', hm, w9⟩ := hN ys' τ6 H8 n9
        refine ⟨m', hm, i + 1, ys', τ6, H8, its', k', I9.unpinned, T.keep _ _ _ st5' fun b hb o e => (I9.pin (b, o) (List.mem_append_right _ (List.mem_append_right _ (mem_pinsAt hb e)))).1, fun b hb => ?_, hv, hz, w9⟩
        obtain ⟨o, e, d⟩ := T.obj _ _ st5' b hb
        exact (I9.pin (b, o) (List.mem_append_right _ (List.mem_append_right _ (mem_pinsAt hb e)))).2.1
      cases ok with
      | false => exact fin I8 hv3 hz3 q7
      | true =>
        refine thn (he cells _ s2 H2 fp [] _ s7 τ6 H7 _ I8 q7) fun y s8 ⟨v8, H8, I9, r8, q8⟩ => ?_
        obtain ⟨eD, nD, dL, dF, _⟩ := I9.pin (s2.heap.objs.size, lobj its k) (by simp)
        have hl := hv3.length
        refine append_un (X := X) (τ := τ) (H' := H8) (by omega) eD fun h' k' eD' kp => ?_
        -- the pin on the list is let go, the list turns, and is pinned anew
        have hx : ∀ p ∈ pinsAt fp s5'.heap, p.1 ≠ s2.heap.objs.size := fun p hp => by
          have := lt2 p.1 (of_pinsAt hp).1
          exact Nat.ne_of_lt this
        have J1 : Inv (compCx X scope N' cells (s2.heap.objs.size + 1) s2 H2 fp []) (pinsAt fp s5'.heap) τ6 H8 s8 := I9.pins_of fun p hp => I9.pin p (List.mem_append_right _ (List.mem_append_right _ hp))
        have J2 : Inv (compCx X scope N' cells (s2.heap.objs.size + 1) s2 H2 fp []) (pinsAt fp s5'.heap) τ6 H8 { s8 with heap := h' } := J1.turned (t' := s8.toks) (it := s2.heap.objs.size) kp nD dL (.inr (Nat.le_refl _)) (fun x c e z => by
          obtain ⟨v, o, ho, hd⟩ := J1.cell x c e
          rw [z, eD] at ho
          cases ho
          cases hd) fun p hp => hx p (by simpa using hp)
        have J3 : Inv (compCx X scope N' cells (s2.heap.objs.size + 1) s2 H2 fp []) ([(s2.heap.objs.size, lobj (its ++ [y]) k')] ++ pinsAt fp s5'.heap) τ6 H8 { s8 with heap := h' } := J2.pins_of fun p hp => by
          rcases List.mem_append.mp hp with z | z
          · have e : p = (s2.heap.objs.size, lobj (its ++ [y]) k') := by simpa using z
            subst e
            exact ⟨eD', nD, dL, dF, fun v z => by cases z⟩
          · exact J2.pin p (List.mem_append_right _ z)
        exact fin J3 (hv3.append (.cons r8 .nil)) (by rw [List.length_append, List.length_singleton]; omega) q8
  exact codeAny_compStart_list loop (T.self X.A 0 s5 _ _ st5 loop)
end L2
namespace L2
open PySem PySem.Spec PyProof.Rows
structure Sure (J : It) (xs : List V) (ok : Hp → Prop) : Prop where
  go : ∀ i H, i < xs.length → ok H → J.go i H
  yld : ∀ i H x H', i < xs.length → ok H → J.yld i H x H' → H' = H ∧ xs[i]? = some x
  stop : ∀ H, ok H → J.stop xs.length H
theorem sure_list {K : PySem.W.Frag} {a : Addr} {xs : List V} : Sure (Itl K a) xs (fun H => SqL K H a xs) where
  go := fun i H hi h => ⟨xs, xs[i], h, by simp [hi]⟩
  yld := fun i H x H' _ h y => ⟨y.1, y.2 xs h⟩
  stop := fun H h => ⟨xs, h, Nat.le_refl _⟩
theorem sure_tup {K : PySem.W.Frag} {a : Addr} {xs : List V} : Sure (Itt K a) xs (fun H => SqT K H a xs) where
  go := fun i H hi h => ⟨xs, xs[i], h, by simp [hi]⟩
  yld := fun i H x H' _ h y => ⟨y.1, y.2 xs h⟩
  stop := fun H h => ⟨xs, h, Nat.le_refl _⟩
def rngV (lo : Int) (n : Nat) : List V := (List.range n).map fun (k : Nat) => V.int (lo + k)
theorem rngV_length (lo : Int) (n : Nat) : (rngV lo n).length = n := by unfold rngV; simp
theorem sure_range {lo : Int} {n : Nat} : Sure (Itr lo n) (rngV lo n) (fun _ => True) where
  go := fun i H hi h => by rw [rngV_length] at hi; exact hi
  yld := fun i H x H' hi h y => ⟨y.1, by
    obtain ⟨_, rfl⟩ := y
    rw [rngV_length] at hi
    unfold rngV
    rw [List.getElem?_map, List.getElem?_range hi]
    rfl⟩
  stop := fun H h => by rw [rngV_length]; exact Nat.le_refl n
def sign (c : Nat) : V := .str ⟨#[c]⟩
def Its (x : Str) : It := ⟨fun i _ => i < x.cps.size, fun i H v H' => H' = H ∧ ∃ c, x.cps[i]? = some c ∧ v = sign c, fun i _ => i = x.cps.size⟩
theorem sure_str {x : Str} : Sure (Its x) (x.cps.toList.map sign) (fun _ => True) where
  go := fun i H hi h => by
    rw [List.length_map] at hi
    exact hi
  yld := fun i H v H' _ h y => ⟨y.1, by
    obtain ⟨_, c, e, rfl⟩ := y
    rw [List.getElem?_map, Array.getElem?_toList, e]
    rfl⟩
  stop := fun H h => by
    rw [List.length_map]
    rfl
theorem str_walks {P : Program} {w : World} (it : Addr) (x : Str) (t : Tok) {A : Around} (hA : A.handled = none) : Walks P w A it [it] [it] x.cps.size (SignAt x) (fun i h => h.IsStrIter it (strIterType x) x t i) := by
  unfold strIterType
  split
  · exact Walks.strAscii hA it x t
  · exact Walks.strWide hA it x t
theorem str_self {P : Program} {w : World} {it : Addr} {x : Str} {t : Tok} {A : Around} {i : Nat} {s : Shared} {Q : Value → Shared → Prop} {E : Value → Shared → Prop} (st : s.heap.IsStrIter it (strIterType x) x t i) (h : Q (.ref it) s) : wpAny (model P w) A (pyIter (.ref it)) Q E s := by
  unfold strIterType at st
  split at st
  · exact wpAny_pyIter_striter_ascii st h
  · exact wpAny_pyIter_striter_wide st h
theorem str_not (x : Str) : ["enumerate", "zip", "dict_itemiterator", "dict_reverseitemiterator", "odict_iterator", "itertools.zip_longest", "itertools.pairwise"].contains (strIterType x) = false := by
  unfold strIterType
  split <;> decide
theorem turn_str {P : Program} {w : World} {K : PySem.W.Frag} {tg : Expr} (it : Addr) (x : Str) (t : Tok) : Turn P w K tg (Its x) [it] it (fun i h => h.IsStrIter it (strIterType x) x t i) where
  mem := by simp
  obj := fun i h st b hb => by
    have e : b = it := by simpa using hb
    subst e
    obtain ⟨o, e, c, d⟩ := st
    exact ⟨o, e, fun v z => by rw [d] at z; cases z⟩
  keep := fun i h h' st k => by
    obtain ⟨o, e, r⟩ := st
    exact ⟨o, k it (by simp) o e, r⟩
  item := by
    intro X hP hw hK hc i pins s σ H E I hf st hg
    subst hP hw hK
    obtain ⟨f0, f1, f2, f3, f4, f5⟩ := hf it (by simp)
    refine (str_walks it x t (I.ok.hd hc)).item i s _ _ hg st fun v h' tk hv st' kk => ?_
    obtain ⟨c, u, hcc, rfl⟩ := hv
    have I1 : Inv X pins σ H { s with heap := h', toks := tk } := I.turned (fun b o hb e => kk b o (by simpa using hb) e) f0 f1 f3 f4 f5
    obtain ⟨o, e, cc, d⟩ := id st'
    exact ⟨_, rfl, go_of (s := { s with heap := h', toks := tk }) e cc d (str_not x) ⟨sign c, H, I1, ⟨u, rfl⟩, ⟨rfl, c, hcc, rfl⟩, st', fun b hb => (hf b hb).1⟩⟩
  done := by
    intro X hP hw hK hc i pins s σ H E I hf st hg
    subst hP hw hK
    obtain ⟨f0, f1, f2, f3, f4, f5⟩ := hf it (by simp)
    have e : i = x.cps.size := hg
    subst e
    exact (str_walks it x t (I.ok.hd hc)).done s _ _ st fun h' tk kk => ⟨rfl, I.turned (fun b o hb e => kk b o (by simpa using hb) e) f0 f1 f3 f4 f5⟩
  self := fun _ _ _ _ _ st h => str_self st h
def iStr (tl : TE) : TI := fun σ H R => tl σ H fun x H1 => ∃ z, x = .str z ∧ R (Its z) H1
theorem pi_str {X : Cx} {tg l : Expr} {tl : TE} (hl : PE X l tl) : PI X tg l (iStr tl) := by
  intro pins s σ H R I h
  refine thn (hl pins s σ H _ I h) fun v s1 ⟨x, H1, I1, r1, q1⟩ => ?_
  obtain ⟨z, e, q⟩ := q1
  subst e
  obtain ⟨t, rfl⟩ := r1
  refine wpAny_pyIter_strU ?_
  refine ⟨s1.heap.objs.size, [s1.heap.objs.size], _, _, H1, rfl, I1.kept (t' := s1.toks) fun b o e => Heap.get?_push_of_some _ e, turn_str _ z t, ⟨_, Heap.get?_push_size _ rfl, rfl, rfl⟩, fun b hb => ?_, q⟩
  have e : b = s1.heap.objs.size := by simpa using hb
  subst e
  exact I1.fpOk (Nat.le_refl _) (I1.hok.fresh (Nat.le_refl _))
theorem for_by {J : It} {xs : List V} {ok : Hp → Prop} {g : TG} {tb : TS} {D : Ends} {σ : St} {H : Hp} (S : Sure J xs ok) (Pv : Nat → St → Hp → Prop) (h0 : Pv 0 σ H) (hl : ∀ i σ H, i ≤ xs.length → Pv i σ H → ok H)
    (hs : ∀ i x σ H, xs[i]? = some x → Pv i σ H → g x σ H fun σ2 H2 => tb { D with nx := Pv (i + 1), ct := Pv (i + 1), bk := D.nx } σ2 H2) (hd : ∀ σ H, Pv xs.length σ H → D.nx σ H) :
    ∃ W : Nat → Nat → St → Hp → Prop, (∃ m, W 0 m σ H) ∧ ∀ i m σ H, W i m σ H →
      (J.stop i H ∧ D.nx σ H) ∨ (J.go i H ∧ ∃ N : St → Hp → Prop, (∀ σ' H', N σ' H' → ∃ m', m' < m ∧ W (i + 1) m' σ' H') ∧ ∀ x H', J.yld i H x H' → g x σ H' fun σ2 H2 => tb { D with nx := N, ct := N, bk := D.nx } σ2 H2) := by
  refine ⟨fun i m σ H => m = xs.length - i ∧ i ≤ xs.length ∧ Pv i σ H, ⟨xs.length, by simp, Nat.zero_le _, h0⟩, ?_⟩
  rintro i m σ H ⟨rfl, hi, p⟩
  have q := hl i σ H hi p
  by_cases hlt : i < xs.length
  · refine .inr ⟨S.go i H hlt q, Pv (i + 1), fun σ' H' p' => ⟨xs.length - (i + 1), by omega, rfl, hlt, p'⟩, fun x H' y => ?_⟩
    obtain ⟨e, y'⟩ := S.yld i H x H' hlt q y
    subst e
    exact hs i x σ _ y' p
  · have e : i = xs.length := by omega
    subst e
    exact .inl ⟨S.stop H q, hd σ H p⟩
theorem comp_by {J : It} {xs : List V} {ok : Hp → Prop} {g : TG} {tc : TT} {te : TE} {Q : VK} {τ0 : St} {H : Hp} (S : Sure J xs ok) (hz : xs.length ≤ 10000) (Pv : Nat → List V → St → Hp → Prop) (h0 : Pv 0 [] τ0 H)
    (hl : ∀ i ys τ H, i ≤ xs.length → Pv i ys τ H → ok H ∧ ys.length ≤ i)
    (hs : ∀ i x ys τ H, xs[i]? = some x → Pv i ys τ H → g x τ H fun τ2 H2 => tc τ2 H2 fun b H3 => if b = true then te τ2 H3 (fun y H4 => Pv (i + 1) (ys ++ [y]) τ2 H4) else Pv (i + 1) ys τ2 H3)
    (hd : ∀ ys τ H D, Pv xs.length ys τ H → H D = none → Q (.ref D) (upd H D (.lst ys))) :
    ∃ W : Nat → Nat → List V → St → Hp → Prop, (∃ m, W 0 m [] τ0 H) ∧ ∀ i m ys τ H, W i m ys τ H →
      (J.stop i H ∧ ∀ D, H D = none → Q (.ref D) (upd H D (.lst ys))) ∨
      (J.go i H ∧ ys.length < sizeLine ∧ ∃ N : List V → St → Hp → Prop, (∀ ys' τ' H', N ys' τ' H' → ∃ m', m' < m ∧ W (i + 1) m' ys' τ' H') ∧
        ∀ x H', J.yld i H x H' → g x τ H' fun τ2 H2 => tc τ2 H2 fun b H3 => if b = true then te τ2 H3 (fun y H4 => N (ys ++ [y]) τ2 H4) else N ys τ2 H3) := by
  refine ⟨fun i m ys τ H => m = xs.length - i ∧ i ≤ xs.length ∧ Pv i ys τ H, ⟨xs.length, by simp, Nat.zero_le _, h0⟩, ?_⟩
  rintro i m ys τ H ⟨rfl, hi, p⟩
  obtain ⟨q, hy⟩ := hl i ys τ H hi p
  by_cases hlt : i < xs.length
  · refine .inr ⟨S.go i H hlt q, Nat.lt_of_lt_of_le (show ys.length < 10000 by omega) (by decide), Pv (i + 1), fun ys' τ' H' p' => ⟨xs.length - (i + 1), by omega, rfl, hlt, p'⟩, fun x H' y => ?_⟩
    obtain ⟨e, y'⟩ := S.yld i H x H' hlt q y
    subst e
    exact hs i x ys τ _ y' p
  · have e : i = xs.length := by omega
    subst e
    exact .inl ⟨S.stop H q, fun D hD => hd ys τ H D p hD⟩
end L2
namespace L2
open PySem PySem.Spec PyProof.Rows
theorem Inv.newTup {X : Cx} {pins : List (Addr × Obj)} {σ : St} {H : Hp} {s : Shared} {ch : List Addr} {T : Addr} {xs : List V} {its : List Value} {h' : Heap} {t' : Nat} (I : Inv X pins σ H s) (hch : ∀ b ∈ ch, FpOk X pins H b)
    (k : ∀ b o, b ∉ ch → s.heap.get? b = some o → h'.get? b = some o) (hT : s.heap.objs.size ≤ T) (hv : Vals xs its) (ht : IsTup h' T its.toArray ∧ Bare h' T) (hz : xs.length ≤ sizeLine) :
    Inv X pins σ (upd H T (.tup xs)) { s with heap := h', toks := t' } := by
  have neT : ∀ b o, s.heap.get? b = some o → b ≠ T := fun b o e => Nat.ne_of_lt (Nat.lt_of_lt_of_le (Heap.lt_size e) hT)
  have neH : ∀ b u, H b = some u → b ≠ T := fun b u e => Nat.ne_of_lt (Nat.lt_of_lt_of_le (I.hok.lt e) hT)
  have nch : ∀ b u, H b = some u → b ∉ ch := fun b u e hb => by rw [(hch b hb).1] at e; cases e
  refine I.step (g' := s.gens) (d' := s.drawn) (ch := ch) (fun b hb => ?_) (fun b o _ _ hc e _ => k b o hc e) (fun b o _ _ hc e _ => ⟨o.slots, k b o hc e⟩) (fun b o _ e n => ?_) (fun b o hc e => ⟨o, k b o hc e⟩)
    (fun b ys e => ?_) (fun b o u e => ?_) (fun b ps e => ⟨#[], ?_⟩) (fun m hm => ?_) (fun b u e => ?_) I.bare
  · obtain ⟨_, a1, _, a2, a3, a4⟩ := hch b hb
    exact ⟨a2, a1, a3, a4⟩
  · rw [upd_ne (neT b o e)]; exact n
  · rw [upd_ne (neH b _ e)]; exact e
  · rw [upd_ne (neH b _ e)]; exact e
  · rw [upd_ne (neH b _ e), e]; simp
  · obtain ⟨o, es, ep, ho, r⟩ := hm
    exact ⟨o, es, ep, k _ o (fun z => (hch _ z).2.1 rfl) ho, r⟩
  · by_cases hb : b = T
    · subst hb
      rw [upd_same] at e
      cases e
      exact ⟨hz, its, hv, ht⟩
    · rw [upd_ne hb] at e
      refine (I.hok b u e).stay (fun c v hc q => k c v ?_ q) (fun c q => by rw [upd_ne (neH c _ q)]; exact q) fun c ys q => by rw [upd_ne (neH c _ q)]; exact q
      rcases hc with z | z
      · rw [z]; exact nch b u e
      · exact nch c _ z
def ItP (go : Nat → Hp → Prop) (stop : Nat → Hp → Prop) (at_ : Nat → Hp → List V → Prop) : It := ⟨go, fun i H v H' => ∃ T ys, H T = none ∧ v = .ref T ∧ at_ i H ys ∧ H' = upd H T (.tup ys), stop⟩
def Ite (K : PySem.W.Frag) (l : Addr) : It := ItP (fun i H => ∃ xs x, SqL K H l xs ∧ xs[i]? = some x) (fun i H => ∃ xs, SqL K H l xs ∧ xs.length = i) (fun i H ys => ∃ x, (∀ xs, SqL K H l xs → xs[i]? = some x) ∧ ys = [.int i, x])
structure Sure2 (J : It) (xs : List (List V)) (ok : Hp → Prop) : Prop where
  go : ∀ i H, i < xs.length → ok H → J.go i H
  yld : ∀ i H x H', i < xs.length → ok H → J.yld i H x H' → ∃ T ys, H T = none ∧ x = .ref T ∧ H' = upd H T (.tup ys) ∧ xs[i]? = some ys
  stop : ∀ H, ok H → J.stop xs.length H
theorem sure_enum {K : PySem.W.Frag} {l : Addr} {xs : List V} : Sure2 (Ite K l) (xs.zipIdx.map fun p => [.int (p.2 : Nat), p.1]) (fun H => SqL K H l xs) where
  go := fun i H hi h => by
    have hi' : i < xs.length := by simpa using hi
    exact ⟨xs, xs[i], h, by simp [hi']⟩
  yld := fun i H v H' hi h y => by
    obtain ⟨T, ys, hT, rfl, ⟨x, hx, rfl⟩, rfl⟩ := y
    exact ⟨T, _, hT, rfl, rfl, by rw [List.getElem?_map, List.getElem?_zipIdx, hx xs h]; simp⟩
  stop := fun H h => ⟨xs, h, by simp⟩
theorem for_by2 {J : It} {xs : List (List V)} {ok : Hp → Prop} {g : TG} {tb : TS} {D : Ends} {σ : St} {H : Hp} (S : Sure2 J xs ok) (Pv : Nat → St → Hp → Prop) (h0 : Pv 0 σ H) (hl : ∀ i σ H, i ≤ xs.length → Pv i σ H → ok H)
    (hs : ∀ i ys σ H T, xs[i]? = some ys → Pv i σ H → H T = none → g (.ref T) σ (upd H T (.tup ys)) fun σ2 H2 => tb { D with nx := Pv (i + 1), ct := Pv (i + 1), bk := D.nx } σ2 H2) (hd : ∀ σ H, Pv xs.length σ H → D.nx σ H) :
    ∃ W : Nat → Nat → St → Hp → Prop, (∃ m, W 0 m σ H) ∧ ∀ i m σ H, W i m σ H →
      (J.stop i H ∧ D.nx σ H) ∨ (J.go i H ∧ ∃ N : St → Hp → Prop, (∀ σ' H', N σ' H' → ∃ m', m' < m ∧ W (i + 1) m' σ' H') ∧ ∀ x H', J.yld i H x H' → g x σ H' fun σ2 H2 => tb { D with nx := N, ct := N, bk := D.nx } σ2 H2) := by
  refine ⟨fun i m σ H => m = xs.length - i ∧ i ≤ xs.length ∧ Pv i σ H, ⟨xs.length, by simp, Nat.zero_le _, h0⟩, ?_⟩
  rintro i m σ H ⟨rfl, hi, p⟩
  have q := hl i σ H hi p
  by_cases hlt : i < xs.length
  · refine .inr ⟨S.go i H hlt q, Pv (i + 1), fun σ' H' p' => ⟨xs.length - (i + 1), by omega, rfl, hlt, p'⟩, fun x H' y => ?_⟩
    obtain ⟨T, ys, hT, rfl, rfl, y'⟩ := S.yld i H x H' hlt q y
    exact hs i ys σ H T y' p hT
  · have e : i = xs.length := by omega
    subst e
    exact .inl ⟨S.stop H q, hd σ H p⟩
theorem enum_itemB {P : Program} {w : World} {A : Around} (e it l : Addr) (hei : e ≠ it) (hle : l ≠ e) (hli : l ≠ it) (its : Array Value) (i : Nat) (s : Shared) (Q : Option Value → Shared → Prop) (E : Value → Shared → Prop) (hi : i < its.size)
    (st : (∃ old, IsEnum s.heap e it i old) ∧ s.heap.IsListIter it l i ∧ s.heap.IsList l its)
    (q : ∀ T vals h' tk, (∃ t x, its[i]? = some x ∧ vals = #[.int i t, x]) → s.heap.objs.size ≤ T → h'.IsTuple T vals ∧ Bare h' T →
      ((∃ x, IsEnumOut h' e it ((i : Int) + 1) x T) ∧ h'.IsListIter it l (i + 1) ∧ h'.IsList l its ∧ T ≠ e ∧ T ≠ it) → (∀ b o, b ∉ [e, it] → s.heap.get? b = some o → h'.get? b = some o) → Q (some (.ref T)) { s with heap := h', toks := tk }) :
    wpAny (model P w) A (pyNext (.ref e)) Q E s := by
  obtain ⟨⟨old, st1⟩, st2, st3⟩ := st
  have hu : its[i]? = some its[i] := Array.getElem?_eq_getElem hi
  refine wpAny_pyNext_enum_item st1 st2 st3 hu hei fun g y1 y2 y3 y4 y5 => ?_
  have n1 : e < s.heap.objs.size := Heap.lt_size st1
  have n2 : it < s.heap.objs.size := by
    obtain ⟨_, z, _⟩ := st2
    exact Heap.lt_size z
  refine q s.heap.objs.size #[.int i s.toks, its[i]] g (s.toks + 1) ⟨_, _, hu, rfl⟩ (Nat.le_refl _) ⟨⟨_, y3, rfl, _, rfl⟩, _, y3, rfl⟩ ⟨⟨_, y1⟩, y2, st3.at fun o z => y5 l o hle hli z, Nat.ne_of_gt n1, Nat.ne_of_gt n2⟩ fun b o nb z => y5 b o (fun c => nb ?_) (fun c => nb ?_) z
  · rw [c]; exact List.mem_cons_self
  · rw [c]; exact List.mem_cons_of_mem _ List.mem_cons_self
theorem turn_enum {P : Program} {w : World} {K : PySem.W.Frag} {elts : List Expr} {k : Nat} {pos : Pos} (l e it : Addr) (hei : e ≠ it) : Turn P w K (.Tuple elts k pos) (Ite K l) [e, it] e (fun i h => (∃ old, IsEnum h e it i old) ∧ h.IsListIter it l i) where
  mem := by simp
  obj := fun i h st b hb => by
    obtain ⟨⟨old, he⟩, o, ho, c, d⟩ := st
    rcases List.mem_cons.mp hb with z | z
    · subst z; exact ⟨_, he, fun v z => by cases z⟩
    · have z : b = it := by simpa using z
      subst z
      exact ⟨o, ho, fun v z => by rw [d] at z; cases z⟩
  keep := fun i h h' st kk => by
    obtain ⟨⟨old, he⟩, hit⟩ := st
    exact ⟨⟨old, kk e (by simp) _ he⟩, hit.at fun o x => kk it (by simp) o x⟩
  item := by
    intro X hP hw hK hc i pins s σ H E I hf st hg
    subst hP hw hK
    obtain ⟨xs, x, hq, hx⟩ := hg
    obtain ⟨its, rv, p, hz⟩ := I.list hq
    obtain ⟨u, hu, ru⟩ := rv.get hx
    obtain ⟨st1, st2⟩ := st
    have hll : ∃ o, s.heap.get? l = some o := let ⟨o, ho, _⟩ := p.isList; ⟨o, ho⟩
    have hle : l ≠ e := fun z => by
      obtain ⟨old, he⟩ := st1
      obtain ⟨o, ho, hc, _⟩ := p.isList
      rw [z, he] at ho; cases ho; exact absurd (Value.type.inj hc) (by decide)
    have hli : l ≠ it := fun z => by
      obtain ⟨o', ho', hc', _⟩ := st2
      obtain ⟨o, ho, hc, _⟩ := p.isList
      rw [z, ho'] at ho; cases ho; rw [hc'] at hc; exact absurd (Value.type.inj hc) (by decide)
    have W := WalksT.enumerate (prog := X.prog) (w := X.w) (I.ok.hd hc) e it l hei hle hli its.toArray
    refine enum_itemB e it l hei hle hli its.toArray i s _ _ (by have := (List.getElem?_eq_some_iff.mp hu).1; simpa using this) ⟨st1, st2, p.isList⟩ fun T vals h' tk hP hT hTu hM kk => ?_
    obtain ⟨t, x', hx', rfl⟩ := hP
    refine ⟨_, rfl, ?_⟩
    refine W.go elts k pos i T { s with heap := h', toks := tk } _ _ hM fun h2 st' kk2 => ?_
    have eu : x' = u := by
      have : its[i]? = some x' := by simpa using hx'
      rw [hu] at this; exact (Option.some.inj this).symm
    subst eu
    have nT : T ∉ [e, it] := W.apart i T h' hM
    refine ⟨.ref T, upd H T (.tup [.int i, x]), I.newTup (ch := [e, it]) (its := [.int i t, x']) hf (fun b o hb eb => kk2 b o hb (kk b o hb eb)) hT (.cons ⟨t, rfl⟩ (.cons ru .nil)) ?_ (by show 2 ≤ sizeLine; decide), rfl,
      ⟨T, _, I.hok.fresh hT, rfl, ⟨x, fun ys hy => by rw [I.list_inj hy hq]; exact hx, rfl⟩, rfl⟩, ⟨by simpa using st'.1, st'.2.1⟩, fun b hb => ?_⟩
    · obtain ⟨⟨o, ho, r⟩, o', ho', r'⟩ := hTu
      exact ⟨⟨o, kk2 T o nT ho, r⟩, o', kk2 T o' nT ho', r'⟩
    · have nb : b ≠ T := fun z => nT (by rw [← z]; exact hb)
      rw [upd_ne nb]; exact (hf b hb).1
  done := by
    intro X hP hw hK hc i pins s σ H E I hf st hg
    subst hP hw hK
    obtain ⟨xs, hq, hx⟩ := hg
    obtain ⟨its, rv, p, hz⟩ := I.list hq
    obtain ⟨⟨old, he⟩, st2⟩ := st
    have hl := rv.length
    refine wpAny_pyNext_enum_end (I.ok.hd hc) he st2 p.isList (by simp; omega) fun h' kk => ⟨rfl, ?_⟩
    obtain ⟨f0, f1, f2, f3, f4, f5⟩ := hf it (by simp)
    exact I.turned (t' := s.toks) (fun b o hb e => kk b o hb e) f0 f1 f3 f4 f5
  self := fun _ _ _ _ _ st h => by
    obtain ⟨⟨old, he⟩, _⟩ := st
    exact wpAny_pyIter_enum he h
def iEnum (K : PySem.W.Frag) (ta : TA) : TI := fun σ H R => ta σ H fun vs H1 => ∃ a, vs = [.ref a] ∧ (∃ xs, SqL K H1 a xs) ∧ R (Ite K a) H1
theorem pi_enum {X : Cx} {l : Expr} {ta : TA} {elts : List Expr} {k : Nat} {tp p pos : Pos} (hg : Gl X "enumerate") (hm : X.mg "enumerate" = none) (hl : PA X [l] ta) (hs : starEach [l] X.env = [(false, eval l X.env)] := by rfl) :
    PI X (.Tuple elts k tp) (.Call (.Name "enumerate" p) [l] [] pos) (iEnum X.K ta) := by
  intro pins s σ H R I h
  refine Call_ (ld_blt I hg hm (by first | exact boot_enumerate | decide +kernel) (PyProof.Rows.callWith_type1 (thn (hl pos pins s σ H _ I h) fun us s1 ⟨vs, H1, I1, r1, q1⟩ => ?_) hs rfl))
  obtain ⟨a, e, ⟨xs, hq⟩, q⟩ := q1
  subst e
  cases r1 with
  | cons r rr =>
    cases rr
    cases r
    obtain ⟨its, rv, p, hz⟩ := I1.list hq
    refine call_enumerate_list p.isList fun h' he hi hsz kk => ?_
    have I2 : Inv X pins σ H1 { s1 with heap := h' } := I1.kept (t' := s1.toks) kk
    refine wpAny_pyIter_enum (s := { s1 with heap := h' }) he ?_
    refine ⟨s1.heap.objs.size + 1, [s1.heap.objs.size + 1, s1.heap.objs.size], _, _, H1, rfl, I2, turn_enum a _ _ (Nat.succ_ne_self _), ⟨⟨_, he⟩, hi⟩, fun b hb => ?_, q⟩
    have : s1.heap.objs.size ≤ b := by
      rcases List.mem_cons.mp hb with z | z
      · rw [z]; exact Nat.le_succ _
      · have z : b = s1.heap.objs.size := by simpa using z
        rw [z]; exact Nat.le_refl _
    exact I1.fpOk this (I1.hok.fresh this)
theorem comp_all {J : It} {xs : List V} {ok : Hp → Prop} {g : TG} {te : TE} {Q : VK} {τ0 : St} {H : Hp} (S : Sure J xs ok) (hz : xs.length ≤ 10000) (Pv : Nat → List V → St → Hp → Prop) (h0 : Pv 0 [] τ0 H)
    (hl : ∀ i ys τ H, i ≤ xs.length → Pv i ys τ H → ok H ∧ ys.length ≤ i)
    (hs : ∀ i x ys τ H, xs[i]? = some x → Pv i ys τ H → g x τ H fun τ2 H2 => te τ2 H2 (fun y H4 => Pv (i + 1) (ys ++ [y]) τ2 H4))
    (hd : ∀ ys τ H D, Pv xs.length ys τ H → H D = none → Q (.ref D) (upd H D (.lst ys))) :
    ∃ W : Nat → Nat → List V → St → Hp → Prop, (∃ m, W 0 m [] τ0 H) ∧ ∀ i m ys τ H, W i m ys τ H →
      (J.stop i H ∧ ∀ D, H D = none → Q (.ref D) (upd H D (.lst ys))) ∨
      (J.go i H ∧ ys.length < sizeLine ∧ ∃ N : List V → St → Hp → Prop, (∀ ys' τ' H', N ys' τ' H' → ∃ m', m' < m ∧ W (i + 1) m' ys' τ' H') ∧
        ∀ x H', J.yld i H x H' → g x τ H' fun τ2 H2 => tAll τ2 H2 fun b H3 => if b = true then te τ2 H3 (fun y H4 => N (ys ++ [y]) τ2 H4) else N ys τ2 H3) :=
  comp_by S hz Pv h0 hl (fun i x ys τ H e p => by
    have := hs i x ys τ H e p
    have e2 : (fun (τ2 : St) (H2 : Hp) => tAll τ2 H2 fun b H3 => if b = true then te τ2 H3 (fun y H4 => Pv (i + 1) (ys ++ [y]) τ2 H4) else Pv (i + 1) ys τ2 H3) = fun τ2 H2 => te τ2 H2 (fun y H4 => Pv (i + 1) (ys ++ [y]) τ2 H4) := by
      funext τ2 H2
      unfold tAll
      exact if_pos rfl
    rw [e2]
    exact this) hd
end L2
namespace L2
open PySem PySem.Spec PyProof.Rows
section
variable {X : Cx}
theorem strsAre_of : ∀ {ss : List Str} {us : List Value}, Vals (ss.map V.str) us → StrsAre us ss
  | [], _, r => by cases r; exact .nil
  | x :: ss, _, r => by
    cases r with
    | cons h r =>
      obtain ⟨t, rfl⟩ := h
      exact .cons x t (strsAre_of r)
theorem vals_strs : ∀ {ss : List Str} {us : List Value}, StrsAre us ss → Vals (ss.map V.str) us
  | _, _, .nil => .nil
  | _, _, .cons y t r => .cons ⟨t, rfl⟩ (vals_strs r)
theorem vals_by : ∀ {xs : List V} {us : List Value}, xs.length = us.length → (∀ (i : Nat) x u, xs[i]? = some x → us[i]? = some u → RelV x u) → Vals xs us
  | [], [], _, _ => .nil
  | [], _ :: _, h, _ => by cases h
  | _ :: _, [], h, _ => by cases h
  | x :: xs, u :: us, h, k => .cons (k 0 x u rfl rfl) (vals_by (Nat.succ.inj h) fun i y v e1 e2 => k (i + 1) y v e1 e2)
theorem kv_at : ∀ {kvs : List (Key × V)} {vs : List (Key × Value)} {i : Nat} {k : Key} {x : Value}, KV kvs vs → vs[i]? = some (k, x) → ∃ k' v', kvs[i]? = some (k', v') ∧ k' = k
  | [], [], i, _, _, _, e => by cases i <;> cases e
  | p :: kvs, q :: vs, 0, k, x, h, e => by
    cases h with
    | cons h1 h2 =>
      have e' : q = (k, x) := Option.some.inj e
      subst e'
      exact ⟨p.1, p.2, rfl, h1.1⟩
  | p :: kvs, q :: vs, i + 1, k, x, h, e => by
    cases h with
    | cons h1 h2 => exact kv_at (i := i) h2 e
theorem ObjOk.there {P : Program} {w : World} {H : Hp} {h : Heap} {a : Addr} {o : HO} (x : ObjOk P w H h a o) : ∃ ob, h.get? a = some ob := by
  cases o with
  | lst xs => obtain ⟨_, _, _, _, e⟩ := x; exact ⟨_, e⟩
  | tup xs => obtain ⟨_, _, _, ⟨ob, e, _⟩, _⟩ := x; exact ⟨_, e⟩
  | dK kvs => obtain ⟨_, _, _, _, ob, _, _, e, _⟩ := x; exact ⟨_, e⟩
  | dT kvs => obtain ⟨_, _, _, _, ob, _, _, e, _⟩ := x; exact ⟨_, e⟩
  | set S n => obtain ⟨ob, _, _, _, e, _⟩ := x; exact ⟨_, e⟩
  | ins C dx fs => obtain ⟨_, _, _, e, _⟩ := x; exact ⟨_, e⟩
  | own _ => exact x
  | xd fs => obtain ⟨mA, ⟨ob, _, _, e, _⟩, _⟩ := x; exact ⟨_, e⟩
  | rng lo hi => obtain ⟨_, _, _, e⟩ := x; exact ⟨_, e⟩
  | frz ob u => exact ⟨_, x.1⟩
  | tbl ps => exact ⟨_, x⟩
  | met f y => exact ⟨_, x⟩
  | ext φ => exact x.2.1
theorem Inv.laid2 {pins : List (Addr × Obj)} {σ : St} {H : Hp} {s : Shared} {h' : Heap} {a : Addr} {o : HO} {t' : Nat} (I : Inv X pins σ H s) (k : ∀ b u, s.heap.get? b = some u → h'.get? b = some u ∧ b ≠ a) (hn : H a = none)
    (new : ObjOk X.prog X.w (upd H a o) h' a o) : Inv X pins σ (upd H a o) { s with heap := h', toks := t' } :=
  I.un ⟨fun b o e _ _ _ => (k b o e).1, fun b o e _ _ _ => ⟨o.slots, (k b o e).1⟩, fun b o e n _ => by rw [upd_ne (k b o e).2]; exact n, fun b o e _ => ⟨o, (k b o e).1⟩, fun b xs e => by rw [upd_ne (ne_of_none e hn)]; exact e,
    fun b o u e => by rw [upd_ne (ne_of_none e hn)]; exact e, fun b ps e => ⟨#[], by rw [upd_ne (ne_of_none e hn), e]; simp⟩⟩ (HOk.add (I.hok.kept fun b u e => (k b u e).1) hn new)
def rJoin (K : PySem.W.Frag) : V → List V → Hp → VK → Prop := fun x vs H Q => ∃ sep l ss, x = .str sep ∧ vs = [.ref l] ∧ SqL K H l (ss.map V.str) ∧ (ss.map (·.length)).sum + ss.length * sep.length ≤ 16777216 ∧ Q (.str (Txt.join sep ss)) H
theorem mt_join : MtR X "str.join" (rJoin X.K) := by
  intro pins s σ H x vs v us Q I rx rv h
  obtain ⟨sep, l, ss, rfl, rfl, hq, hz, q⟩ := h
  obtain ⟨t, rfl⟩ := rx
  obtain ⟨u, rfl, ru⟩ := vals1 rv
  cases ru
  obtain ⟨its, r', pl, _⟩ := I.list hq
  refine join_list pl.isList (by simpa using strsAre_of r') hz fun t' k => ⟨.str _, H, I.tok _, ⟨t', rfl⟩, q⟩
theorem call_list_text (hc : X.calm = true) : CallR X (.type "list") (fun xs H Q => ∃ z : Str, xs = [.str z] ∧ z.cps.size ≤ 10000 ∧ ∀ l, H l = none → Q (.ref l) (upd H l (.lst (z.cps.toList.map sign)))) := by
  intro pins s σ H xs us Q I r h
  obtain ⟨z, rfl, hz, q⟩ := h
  obtain ⟨u, rfl, t, rfl⟩ := vals1 r
  refine call_list_str (I.ok.hd hc) z t (fun h' tk acc' c' hk hS hacc => ?_) (Nat.le_trans hz (by decide))
  have hv : Vals (z.cps.toList.map sign) acc'.toList := by
    have hl : acc'.toList.length = z.cps.size := by rw [Array.length_toList]; exact hacc.1
    refine vals_by (by rw [List.length_map, Array.length_toList, hl]) fun i x u e1 e2 => ?_
    obtain ⟨c, t', e3, rfl⟩ := hacc.2 i u (by rw [← Array.getElem?_toList]; exact e2)
    rw [List.getElem?_map, Array.getElem?_toList, e3] at e1
    cases e1
    exact ⟨t', rfl⟩
  exact ⟨.ref s.heap.objs.size, _, I.laid hk (Nat.le_refl _) (show ObjOk X.prog X.w _ h' _ (.lst _) from ⟨by rw [List.length_map, Array.length_toList]; exact Nat.le_trans hz (by decide), acc'.toList, c', hv, by simpa using hS⟩), rfl, q _ (I.hok.fresh (Nat.le_refl _))⟩
theorem call_sum (hc : X.calm = true) : CallR X (.builtin "sum") (fun xs H Q => ∃ (l : Addr) (ns : List Int), xs = [.ref l] ∧ SqL X.K H l (ns.map V.int) ∧ Q (.int ns.sum) H) := by
  intro pins s σ H xs us Q I r h
  obtain ⟨l, ns, rfl, hq, q⟩ := h
  obtain ⟨u, rfl, ru⟩ := vals1 r
  cases ru
  obtain ⟨its, r', pl, _⟩ := I.list hq
  obtain ⟨m, F⟩ := I.fr
  have hi := intsAre_of r'
  obtain ⟨xs, e⟩ := hi.allInts.items
  have hl : s.heap.IsList l (intItems xs) := by rw [← e]; exact pl.isList
  refine sum_intListG (I.ok.hd hc) hl fun h' tk t' hk => ?_
  have es : preSum (numAt xs) xs.size = ns.sum := by
    have := hi.numsOf
    rw [show its = (intItems xs).toList by rw [← e]] at this
    rw [nums_intItems] at this
    rw [preSum_eq, List.take_of_length_le (by simp), this]
  rw [es]
  exact ⟨.int _, H, I.kept hk, ⟨t', rfl⟩, q⟩
theorem call_isinst : CallR X (.builtin "isinstance") (fun xs H Q => ∃ x T t b, xs = [x, .ty T] ∧ TyOf X.K H x t ∧ PySem.W.kitOne X.K t (.type T) = some b ∧ Q (.bl b) H) := by
  intro pins s σ H xs us Q I r h
  obtain ⟨x, T, t, b, rfl, ty, e, q⟩ := h
  obtain ⟨u, v, rfl, ru, rv⟩ := vals2 r
  cases (show v = Value.type T from rv)
  exact isinst_ok I ru ty e fun tk => ⟨.bl b, H, I.tok _, rfl, q⟩
theorem call_sorted_dict (hc : X.calm = true) : CallR X (.builtin "sorted") (fun xs H Q => ∃ (d : Addr) (kvs : List (Key × V)) (ss : List Str), xs = [.ref d] ∧ H d = some (.dK kvs) ∧ kvs.map (·.1) = ss.map Sum.inr ∧ kvs.length < 64 ∧
    ∀ l ss', H l = none → ss'.Perm ss → sortedS ss' = true → Q (.ref l) (upd H l (.lst (ss'.map V.str)))) := by
  intro pins s σ H xs us Q I r h
  obtain ⟨d, kvs, ss, rfl, hd, hk, h64, q⟩ := h
  obtain ⟨u, rfl, ru⟩ := vals1 r
  cases ru
  obtain ⟨hz, lo, vs, hkv, hD⟩ := (show ObjOk X.prog X.w H s.heap d (.dK kvs) from I.hok d _ hd)
  obtain ⟨ep, hat⟩ := hD.dictAt
  have hvl : vs.length = kvs.length := (Paired.length hkv).symm
  refine Calls.call_function_entry kind_sorted plain_sorted entry_sorted (args_sorted1 _) ?_
  unfold Builtin.«sorted»
  refine wpAny_bind (m := checkCount "sorted" 1 1 _) (wpAny_pure ?_)
  refine wpAny_bind (PySem.W.kdu_collect (A := X.A.in1) (PySem.W.kdl_dict (knd := mixKind X.prog X.w) (kvs := vs) (ep := ep) lo) (I.ok.hd hc) hat (by rw [hvl]; exact hz) fun h' tk acc hkp hacc => ?_)
  have hal : acc.toList.length = vs.length := by rw [Array.length_toList]; exact hacc.1
  have hS : StrsAre acc.toList ss := by
    have hsl : ss.length = kvs.length := by have := congrArg List.length hk; simpa using this.symm
    refine strsAre_of (vals_by (by rw [List.length_map, hal, hvl, hsl]) fun i x u e1 e2 => ?_)
    obtain ⟨k, x', e3, hkk⟩ := hacc.2 i u (by rw [← Array.getElem?_toList]; exact e2)
    obtain ⟨k', v', e4, e5⟩ := kv_at hkv e3
    have e6 : (kvs.map (·.1))[i]? = some k := by rw [List.getElem?_map, e4]; exact congrArg some e5
    rw [hk, List.getElem?_map] at e6
    rw [List.getElem?_map] at e1
    cases e7 : ss[i]? with
    | none => rw [e7] at e1; cases e1
    | some z =>
      rw [e7] at e1 e6
      cases e1
      have e8 : Sum.inr z = k := Option.some.inj e6
      subst e8
      rcases keyIs_shape (show keyIs (Sum.inr z) u = true from hkk) with ⟨_, _, q1, _⟩ | ⟨y, t, q1, q2⟩
      · cases q1
      · cases q1
        exact ⟨t, q2⟩
  refine wpAny_bind (wpAny_newList ?_ (by rw [hal, hvl]; exact hz))
  have hoL : (h'.push { cls := .type "list", data := .seq acc.toList.toArray }).get? h'.objs.size = some (seqObj "list" acc.toList.toArray 0) := Heap.get?_push_size _ rfl
  refine wpAny_bind (wpAny_holding (wpAny_call_entry slot_list_sort ⟨_, hoL, rfl⟩ entry_list_sort (list_sort_treeK strKind_oneLt hoL hS.keysOf (fun v₁ v₂ rest e => keyKind_strs (by rw [← e]; exact hS)) (by rw [hal, hvl]; exact h64) fun st' a1 a2 => ⟨_, rfl, ?_⟩) (args_list_sort _)))
  obtain ⟨ss', b1, b2, b3⟩ := sorted_out_str hS a1 a2
  refine wpAny_pure ⟨_, rfl, ?_⟩
  have keep : ∀ b o, s.heap.get? b = some o → (sortedHeap (h'.push { cls := .type "list", data := .seq acc.toList.toArray }) h'.objs.size acc.toList ((arrOf st').map (·.2))).get? b = some o ∧ b ≠ h'.objs.size := fun b o e => by
    have e1 := hkp b o e
    have lt := Heap.lt_size e1
    refine ⟨?_, Nat.ne_of_lt lt⟩
    rw [sortedHeap_old (Nat.ne_of_lt lt) (by rw [Heap.size_push]; exact Nat.lt_succ_of_lt lt)]
    exact Heap.get?_push_of_some _ e1
  have hn : H h'.objs.size = none := by
    cases e : H h'.objs.size with
    | none => rfl
    | some o =>
      obtain ⟨ob, e1⟩ := (I.hok _ _ e).there
      exact absurd (Heap.lt_size (hkp _ _ e1)) (Nat.lt_irrefl _)
  obtain ⟨n', hat'⟩ : ∃ n', (sortedHeap (h'.push { cls := .type "list", data := .seq acc.toList.toArray }) h'.objs.size acc.toList ((arrOf st').map (·.2))).get? h'.objs.size = some (seqObj "list" ((arrOf st').map (·.2)) n') := sortedHeap_at hoL
  have hsl : ss'.length ≤ sizeLine := by
    have h1 := b2.length_eq
    have h2 : ss.length = kvs.length := by have := congrArg List.length hk; simpa using this.symm
    rw [h1, h2]; exact hz
  refine ⟨.ref h'.objs.size, upd H h'.objs.size (.lst (ss'.map V.str)), ?_, rfl, q _ _ hn b2 b3⟩
  have J := Inv.laid2 (X := X) (t' := tk) (o := .lst (ss'.map V.str)) I keep hn ⟨by rw [List.length_map]; exact hsl, ((arrOf st').map (·.2)).toList, n', vals_strs b1, by rw [hat']⟩
  exact J
end
end L2
namespace L2
open PySem PySem.Spec PyProof.Rows
end L2
namespace L2
open PySem PySem.Spec PyProof.Rows
end L2
namespace L2
open PySem PySem.Spec PyProof.Rows
theorem comp_allR {J : It} {xs : List V} {ok : Hp → Prop} {g : TG} {te : TE} {R : Addr → List V → Hp → Prop} {τ0 : St} {H : Hp} (S : Sure J xs ok) (hz : xs.length ≤ 10000) (Pv : Nat → List V → St → Hp → Prop) (h0 : Pv 0 [] τ0 H)
    (hl : ∀ i ys τ H, i ≤ xs.length → Pv i ys τ H → ok H ∧ ys.length ≤ i)
    (hs : ∀ i x ys τ H, xs[i]? = some x → Pv i ys τ H → g x τ H fun τ2 H2 => te τ2 H2 (fun y H4 => Pv (i + 1) (ys ++ [y]) τ2 H4))
    (hd : ∀ ys τ H D, Pv xs.length ys τ H → H D = none → R D ys H) :
    ∃ W : Nat → Nat → List V → St → Hp → Prop, (∃ m, W 0 m [] τ0 H) ∧ ∀ i m ys τ H, W i m ys τ H →
      (J.stop i H ∧ ∀ D, H D = none → R D ys H) ∨
      (J.go i H ∧ ys.length < sizeLine ∧ ∃ N : List V → St → Hp → Prop, (∀ ys' τ' H', N ys' τ' H' → ∃ m', m' < m ∧ W (i + 1) m' ys' τ' H') ∧
        ∀ x H', J.yld i H x H' → g x τ H' fun τ2 H2 => tAll τ2 H2 fun b H3 => if b = true then te τ2 H3 (fun y H4 => N (ys ++ [y]) τ2 H4) else N ys τ2 H3) := by
  refine ⟨fun i m ys τ H => m = xs.length - i ∧ i ≤ xs.length ∧ Pv i ys τ H, ⟨xs.length, by simp, Nat.zero_le _, h0⟩, ?_⟩
  rintro i m ys τ H ⟨rfl, hi, p⟩
  obtain ⟨q, hy⟩ := hl i ys τ H hi p
  by_cases hlt : i < xs.length
  · refine .inr ⟨S.go i H hlt q, Nat.lt_of_lt_of_le (show ys.length < 10000 by omega) (by decide), Pv (i + 1), fun ys' τ' H' p' => ⟨xs.length - (i + 1), by omega, rfl, hlt, p'⟩, fun x H' y => ?_⟩
    obtain ⟨e, y'⟩ := S.yld i H x H' hlt q y
    subst e
    have e2 : (fun (τ2 : St) (H2 : Hp) => tAll τ2 H2 fun b H3 => if b = true then te τ2 H3 (fun y H4 => Pv (i + 1) (ys ++ [y]) τ2 H4) else Pv (i + 1) ys τ2 H3) = fun τ2 H2 => te τ2 H2 (fun y H4 => Pv (i + 1) (ys ++ [y]) τ2 H4) := by
      funext τ2 H2
      unfold tAll
      exact if_pos rfl
    rw [e2]
    exact hs i x ys τ _ y' p
  · have e : i = xs.length := by omega
    subst e
    exact .inl ⟨S.stop H q, fun D hD => hd ys τ H D p hD⟩
end L2
namespace L2
open PySem PySem.Spec PyProof.Rows
section
variable {X : Cx} (K : PySem.W.Frag)
theorem pi_listK {tg l : Expr} {tl : TE} (hl : PE X l tl) (hK : X.K = K := by rfl) : PI X tg l (iList K tl) := by subst hK; exact pi_list hl
theorem pi_tupK {tg l : Expr} {tl : TE} (hl : PE X l tl) (hK : X.K = K := by rfl) : PI X tg l (iTup K tl) := by subst hK; exact pi_tup hl
theorem ix_listK (hK : X.K = K := by rfl) : IxR X (rIxL K) := by subst hK; exact ix_list
theorem ix_tupK (hK : X.K = K := by rfl) : IxR X (rIxT K) := by subst hK; exact ix_tup
theorem sl_listK (hK : X.K = K := by rfl) : SlR X (rSlL K) := by subst hK; exact sl_list
def rLen (K : PySem.W.Frag) : List V → Hp → VK → Prop := fun xs H Q => ∃ p ys, xs = [.ref p] ∧ (SqL K H p ys ∨ SqT K H p ys) ∧ Q (.int ys.length) H
theorem call_lenK (hK : X.K = K := by rfl) : CallR X (.builtin "len") (rLen K) := by subst hK; exact call_len_seq
def rSum (K : PySem.W.Frag) : List V → Hp → VK → Prop := fun xs H Q => ∃ (l : Addr) (ns : List Int), xs = [.ref l] ∧ SqL K H l (ns.map V.int) ∧ Q (.int ns.sum) H
theorem call_sumK2 (hc : X.calm = true) (hK : X.K = K := by rfl) : CallR X (.builtin "sum") (rSum K) := by subst hK; exact call_sum hc
def rIsi (K : PySem.W.Frag) : List V → Hp → VK → Prop := fun xs H Q => ∃ x T t b, xs = [x, .ty T] ∧ TyOf K H x t ∧ PySem.W.kitOne K t (.type T) = some b ∧ Q (.bl b) H
theorem call_isinstK (hK : X.K = K := by rfl) : CallR X (.builtin "isinstance") (rIsi K) := by subst hK; exact call_isinst
def rListOf (K : PySem.W.Frag) : List V → Hp → VK → Prop := fun xs H Q => ∃ p ys, xs = [.ref p] ∧ (SqL K H p ys ∨ SqT K H p ys) ∧ ∀ l, H l = none → Q (.ref l) (upd H l (.lst ys))
theorem call_list_ofK (hK : X.K = K := by rfl) : CallR X (.type "list") (rListOf K) := by subst hK; exact call_list_of
def rTupOf (K : PySem.W.Frag) : List V → Hp → VK → Prop := fun xs H Q => ∃ p ys, xs = [.ref p] ∧ ((SqL K H p ys ∧ ∀ l, H l = none → Q (.ref l) (upd H l (.tup ys))) ∨ (SqT K H p ys ∧ Q (.ref p) H))
theorem call_tuple_ofK (hK : X.K = K := by rfl) : CallR X (.type "tuple") (rTupOf K) := by subst hK; exact call_tuple_of
theorem pg_tupK {es : List Expr} {k : Nat} {t : TGs} {n : Nat} {pos : Pos} (hc : X.calm = true) (h : PGs X es t) (hn : (assignEach es X.env).length = n := by rfl) (hst : (assignEach es X.env).findIdx? (·.1) = none := by rfl) (hK : X.K = K := by rfl) : PG X (.Tuple es k pos) (gTup K n t) := by
  subst hK; exact pg_tup hc h hn hst
theorem pi_enumK {l : Expr} {ta : TA} {elts : List Expr} {k : Nat} {tp p pos : Pos} (hg : Gl X "enumerate") (hm : X.mg "enumerate" = none) (hl : PA X [l] ta) (hs : starEach [l] X.env = [(false, eval l X.env)] := by rfl) (hK : X.K = K := by rfl) :
    PI X (.Tuple elts k tp) (.Call (.Name "enumerate" p) [l] [] pos) (iEnum K ta) := by
  subst hK; exact pi_enum hg hm hl hs
theorem pe_bmK {o e : Expr} {es : List Expr} {to : TE} {t : TA} {name : Str} {apos cpos : Pos} {T id : String} {r : V → List V → Hp → VK → Prop} (pa : PlainAttrs T) (slot : Slot T name id) (hty : typeOf (.builtin id) = pure (.type "method_descriptor")) (hm : MtR X id r) (ho : PE X o to) (ha : PA X (e :: es) t)
    (hbase : attributeBase o name X.env (eval o X.env) = eval o X.env := by rfl)
    (hfew : ((backTo cpos (starEach (e :: es) X.env)).all (fun x => !x.1) && (backToKw cpos (keywordEach [] X.env)).all (fun x => x.1.isSome) && decide ((e :: es).length + ([] : List Keyword).length + (if ([] : List Keyword).isEmpty then 0 else 1) < 30)) = true := by rfl)
    (hline : (apos.endLine == cpos.line) = true := by rfl) (hs : starEach (e :: es) X.env = (false, eval e X.env) :: starEach es X.env := by rfl) (hplain : (backTo cpos (starEach es X.env)).any (·.1) = false := by rfl) (hK : X.K = K := by rfl) :
    PE X (.Call (.Attribute o name apos) (e :: es) [] cpos) (tBM K T r to t) := by
  subst hK; exact pe_bm pa slot hty hm ho ha hbase hfew hline hs hplain
end
def CDivB (i j : Int) : Prop := 0 < j ∧ j ≤ 100000000000000000000000000000000000000000000000000000000000000000000000000000000
theorem op_fdivB {X : Cx} : OpR X (binaryOp .FloorDiv) (rI CDivB fun i j => .int (i / j)) := opI fun i j _ _ _ _ _ hc q => by
  rw [← Int.fdiv_eq_ediv_of_nonneg i (Int.le_of_lt hc.1)] at q
  refine floordiv_int (by have := hc.1; omega) q (.inl (PyProof.noPylong_of_log2 ?_))
  obtain ⟨h1, h2⟩ := hc
  have h0 : j.natAbs ≠ 0 := by omega
  have h3 : j.natAbs < 2 ^ 300 := Nat.lt_of_le_of_lt (show j.natAbs ≤ 100000000000000000000000000000000000000000000000000000000000000000000000000000000 by omega) (by decide +kernel)
  exact Nat.lt_trans ((Nat.log2_lt h0).mpr h3) (by decide)
end L2
namespace L2
open PySem PySem.Spec PyProof.Rows
theorem noKeys_list : typeLookup (.type "list") "keys" = pure none := by rw [typeLookup_type, builtinLookup_eq_fast]; kernel_rfl
theorem keys_of_list {P : Program} {w : World} {A : Around} {E : Value → Shared → Prop} {s : Shared} {a : Addr} {o : Obj} {xs : Array Value} {k : Nat} {Q : Option Value → Shared → Prop}
    (ho : s.heap.get? a = some o) (hc : o.cls = .type "list") (hs : o.data = .seq xs k) (hd : o.dict = none) (hA : A.handled = none)
    (q : ∀ h' tk, (∀ b u, s.heap.get? b = some u → h'.get? b = some u) → Q none { s with heap := h', toks := tk }) : wpAny (model P w) A (getAttr? (.ref a) "keys") Q E s := by
  obtain ⟨c, dct, dat, sl⟩ := o
  simp only at hc hs hd
  subst hc hs hd
  obtain ⟨hp, g, d, tk, os⟩ := s
  have ty : ∀ tk', (⟨hp, g, d, tk', os⟩ : Shared).TypeIs (.ref a) "list" := fun _ => ⟨_, ho, rfl⟩
  have z1 := sub_AttributeError
  have z3 := F.slot_list_getattribute.lookup
  have z4 := F.slot_list_getattribute.bind (.ref a)
  have z5 := am_list_getattr_none
  unfold getAttr? getAttrBy? getAttrBy
  repeat (any_goals (first | assumption | exact ty _ | ((with_reducible show wpAny _ _ (call (Value.builtin "list.__getattribute__") _ _) _ _ _); refine call_meets F.slot_list_getattribute (ty _) am_entry_list_getattribute (F.args_list_getattribute_2 _ _) (meets_getattribute_miss_list a xs k sl "keys" _ noKeys_list (by decide +kernel) (by decide +kernel)) ⟨ho, hA, fun h' tk' e hx' => ?_⟩) | wp_step))
  obtain ⟨t', u', he⟩ := hx'.there
  have tE : (⟨h', g, d, tk', os⟩ : Shared).TypeIs (.ref e) "AttributeError" := ⟨_, he, rfl⟩
  show wpAny _ _ (getattributeRaised _ _ _ _ _ _ _) _ _ _
  unfold getattributeRaised
  repeat (any_goals (first | assumption | wp_step))
  exact q h' tk' hx'.keeps
theorem dictOf_keep {P : Program} {w : World} {κ : Type} [DecidableEq κ] {knd : KeyKind P w κ} {d : Addr} {kvs : List (κ × Value)} {h h' : Heap} (m : h.DictOf knd d kvs) (e : ∀ o, h.get? d = some o → h'.get? d = some o) : h'.DictOf knd d kvs := by
  obtain ⟨o, es, ep, ho, r⟩ := m
  exact ⟨o, es, ep, e o ho, r⟩
theorem entry_upd_loop : entryFor table "dict.update.loop" = some Builtin.«dict.update.loop» := entryFor_of_tree (by kernel_rfl)
theorem plain_upd_loop : plainId "dict.update.loop" = true := by decide +kernel
theorem upd_loop {P : Program} {w : World} {A : Around} {κ : Type} [DecidableEq κ] {knd : KeyKind P w κ} {it d : Addr} {fp wr : List Addr} {n : Nat} {Pv : Nat → Value → Prop} {St : Nat → Heap → Prop} {R : Result → Shared → Prop}
    (W : Walks P w A.in1 it fp wr n Pv St) (hd : d ∉ fp) (kvs : List (κ × Value)) (hn : kvs.length = n) (nd : (kvs.map (·.1)).Nodup) (ads : Nat → Addr) (hP : ∀ i v, i < n → Pv i v → v = .ref (ads i)) (hw : ∀ i, i < n → ads i ∉ wr ∧ ads i ≠ d) (hz : n ≤ sizeLine) :
    ∀ (m i : Nat) (s : Shared), i + m = n → St i s.heap → s.heap.DictOf knd d (kvs.take i) → (∀ j p, kvs[j]? = some p → ∃ key, knd.is p.1 key = true ∧ IsTup s.heap (ads j) #[key, p.2]) →
      (∀ h' tk, h'.DictOf knd d kvs → (∀ b o, b ∉ wr → b ≠ d → s.heap.get? b = some o → h'.get? b = some o) → R (.ok (.ret .none)) { s with heap := h', toks := tk }) →
      codeAny (model P w) A (.builtin "dict.update.loop" ⟨[.ref d, .ref it, .int i 0, .none], []⟩) R s
  | 0, i, s, hi, st, hD, hT, q => by
    refine codeAny_builtin entry_upd_loop ?_
    rw [Around.under_plainId plain_upd_loop]
    have e : i = n := by omega
    subst e
    unfold Builtin.«dict.update.loop»
    show wpAny _ _ (pyNext (.ref it) >>= _) _ _ _
    refine wpAny_bind (W.done s _ _ st fun h' tk kk => ?_)
    show wpAny _ _ (Builtin.Dict.addKeywords d [] >>= _) _ _ _
    refine wpAny_bind (wpAny_pure (wpAny_pure ?_))
    have hdw : d ∉ wr := fun z => hd (W.sub d z)
    refine q h' tk ?_ fun b o hb _ e => kk b o hb e
    have hD' := dictOf_keep (h' := h') hD fun o e => kk d o hdw e
    rw [← hn, List.take_length] at hD'
    exact hD'
  | m + 1, i, s, hi, st, hD, hT, q => by
    refine codeAny_builtin entry_upd_loop ?_
    rw [Around.under_plainId plain_upd_loop]
    unfold Builtin.«dict.update.loop»
    show wpAny _ _ (pyNext (.ref it) >>= _) _ _ _
    refine wpAny_bind (W.item i s _ _ (by omega) st fun v h' tk hv st' kk => ?_)
    have ev := hP i v (by omega) hv
    subst ev
    have hil : i < kvs.length := by omega
    obtain ⟨key, hk, ht⟩ := hT i kvs[i] (List.getElem?_eq_getElem hil)
    have ht' : IsTup h' (ads i) #[key, kvs[i].2] := by
      obtain ⟨o, ho, r⟩ := ht
      exact ⟨o, kk _ o (hw i (by omega)).1 ho, r⟩
    obtain ⟨o, ho, hoc, no, hod⟩ := id ht'
    have tT : ({ s with heap := h', toks := tk } : Shared).TypeIs (.ref (ads i)) "tuple" := ⟨o, ho, hoc⟩
    refine wpAny_bind (wpAny_holding ?_)
    refine wpAny_bind (wpAny_tryCatch ?_)
    unfold Builtin.Dict.pairItems
    refine wpAny_bind (wpAny_typeOf tT ?_)
    rw [if_pos (by decide)]
    refine wpAny_bind (wpAny_seqItems ho hod (wpAny_pure ?_))
    show wpAny _ _ (holding [key, kvs[i].2] (dictSet d key kvs[i].2)) _ _ _
    have hdw : d ∉ wr := fun z => hd (W.sub d z)
    have hD' := dictOf_keep (h' := h') hD fun o e => kk d o hdw e
    refine wpAny_holding (wpAny_dictSet_pairs (s := { s with heap := h', toks := tk }) hk hD' (fun h2 hD2 hs2 => ?_) (by rw [List.length_take]; omega))
    have en : stored (kvs.take i) kvs[i].1 kvs[i].2 = kvs.take (i + 1) := by
      unfold stored
      rw [if_neg, List.take_add_one, List.getElem?_eq_getElem hil]
      · rfl
      · intro z
        obtain ⟨p, hp, hpe⟩ := List.any_eq_true.mp z
        have hpe' : p.1 = kvs[i].1 := of_decide_eq_true hpe
        have := nd
        rw [← List.take_append_drop i kvs, List.map_append] at this
        obtain ⟨_, _, dis⟩ := List.nodup_append.mp this
        refine dis p.1 (List.mem_map_of_mem hp) kvs[i].1 ?_ hpe'
        rw [List.drop_eq_getElem_cons hil]
        exact List.mem_map_of_mem List.mem_cons_self
    rw [en] at hD2
    refine wpAny_pure ⟨plainId_quiet plain_upd_loop _, ?_⟩
    have st2 : St (i + 1) h2 := W.frame (i + 1) h' h2 st' fun b hb o e => hs2.extBut _ _ (fun z => hd (by rw [← z]; exact hb)) e
    have ei : rawInt ((i : Int) + 1) = .int ((i + 1 : Nat) : Int) 0 := by unfold rawInt; push_cast; rfl
    rw [ei]
    refine upd_loop W hd kvs hn nd ads hP hw hz m (i + 1) { s with heap := h2, toks := tk + 1 } (by omega) st2 hD2 (fun j p hj => ?_) fun h3 tk3 hD3 k3 => q h3 tk3 hD3 fun b o hb hbd e => k3 b o hb hbd (hs2.extBut _ _ hbd (kk b o hb e))
    obtain ⟨key', hk', o', ho', r'⟩ := hT j p hj
    have hj' : j < n := by rw [← hn]; exact (List.getElem?_eq_some_iff.mp hj).1
    exact ⟨key', hk', o', hs2.extBut _ _ (hw j hj').2 (kk _ _ (hw j hj').1 ho'), r'⟩
inductive PairsAt (H : Hp) : List Addr → List (Key × V) → Prop where
  | nil : PairsAt H [] []
  | cons {p : Addr} {ps : List Addr} {k : Key} {v : V} {kvs : List (Key × V)} : H p = some (.tup [kV k, v]) → PairsAt H ps kvs → PairsAt H (p :: ps) ((k, v) :: kvs)
theorem PairsAt.len {H : Hp} : ∀ {ps : List Addr} {kvs : List (Key × V)}, PairsAt H ps kvs → ps.length = kvs.length
  | _, _, .nil => rfl
  | _, _, .cons _ r => congrArg (· + 1) r.len
theorem PairsAt.mem {H : Hp} : ∀ {ps : List Addr} {kvs : List (Key × V)}, PairsAt H ps kvs → ∀ p ∈ ps, ∃ o, H p = some o
  | _, _, .nil, p, h => by simp at h
  | _, _, .cons e r, p, h => by
    rcases List.mem_cons.mp h with z | z
    · rw [z]; exact ⟨_, e⟩
    · exact r.mem p z
theorem PairsAt.real {X : Cx} {pins : List (Addr × Obj)} {σ : St} {H : Hp} {s : Shared} (I : Inv X pins σ H s) : ∀ {ps : List Addr} {kvs : List (Key × V)}, PairsAt H ps kvs →
    ∃ vs : List (Key × Value), KV kvs vs ∧ ∀ (j : Nat) p, vs[j]? = some p → ∃ key, (mixKind X.prog X.w).is p.1 key = true ∧ IsTup s.heap (ps.getD j 0) #[key, p.2]
  | _, _, .nil => ⟨[], .nil, fun j p e => by simp at e⟩
  | _, _, .cons (p := a) (k := k) (v := v) e r => by
    obtain ⟨vs, hv, h⟩ := r.real I
    obtain ⟨its, rv, ht, _⟩ := I.tuple (SqT.of e)
    cases rv with
    | cons r1 rr =>
      rename_i key its1
      cases rr with
      | cons r2 rr2 =>
        rename_i val its2
        cases rr2
        refine ⟨(k, val) :: vs, .cons ⟨rfl, r2⟩ hv, fun j p ep => ?_⟩
        cases j with
        | zero =>
          cases ep
          exact ⟨key, kV_is r1, ht⟩
        | succ j => exact h j p ep
def rDictL (K : PySem.W.Frag) : List V → Hp → VK → Prop := fun xs H Q => ∃ (l : Addr) (ps : List Addr) (kvs : List (Key × V)), xs = [.ref l] ∧ SqL K H l (ps.map V.ref) ∧ PairsAt H ps kvs ∧ (kvs.map (·.1)).Nodup ∧ kvs.length ≤ 1000 ∧
  ∀ d, H d = none → Q (.ref d) (upd H d (.dK kvs))
theorem kv_keys {κ : Type} : ∀ {kvs : List (κ × V)} {vs : List (κ × Value)}, KV kvs vs → vs.map (·.1) = kvs.map (·.1)
  | _, _, .nil => rfl
  | _, _, .cons h r => by
    rw [List.map_cons, List.map_cons, kv_keys r, h.1]
theorem call_dict_list {X : Cx} (hc : X.calm = true) : CallR X (.type "dict") (rDictL X.K) := by
  intro pins s σ H xs us Q I r h
  obtain ⟨l, ps, kvs, rfl, hL, hP, nd, hz, q⟩ := h
  obtain ⟨u, rfl, ru⟩ := vals1 r
  cases ru
  obtain ⟨its, rv, pl, hl⟩ := I.list hL
  obtain ⟨ol, nl, hol, hcl, hdl, hsl⟩ := id pl
  obtain ⟨vs, hv, hT⟩ := hP.real I
  have hA := I.ok.hd hc
  refine callType_codes (Q₁ := fun ob s1 => ob = .ref s.heap.objs.size ∧ s1 = { s with heap := s.heap.push { cls := .type "dict", data := .dict #[] } }) F.kt_called_dict (F.kt_typeCall_dict_1 _) F.entry_dict_init (kt_code_dict_new _ ⟨rfl, rfl⟩) ?_
  rintro ob s1 ⟨rfl, rfl⟩
  have hnew : (s.heap.push { cls := .type "dict", data := .dict #[] }).DictOf (mixKind X.prog X.w) s.heap.objs.size [] := Heap.DictOf.new s.heap
  have hol1 : (s.heap.push { cls := .type "dict", data := .dict #[] }).get? l = some ol := Heap.get?_push_of_some _ hol
  refine ⟨hnew.typeIs, F.args_dict_init_2 _ _, ?_⟩
  unfold Builtin.«dict.__init__» ; unfold Builtin.Dict.selfAndRest
  refine wpAny_bind (wpAny_bind (wpAny_notOrdered_dict hnew.typeIs ?_))
  show wpAny _ _ (pure (s.heap.objs.size, [Value.ref l])) _ _ _
  refine wpAny_pure ?_
  show wpAny _ _ (Builtin.Dict.updateFrom "dict.__init__" s.heap.objs.size (.ref l) [] .none) _ _ _
  unfold Builtin.Dict.updateFrom
  refine wpAny_bind (wpAny_typeOf (T := "list") ⟨ol, hol1, hcl⟩ ?_)
  rw [if_pos (by decide)]
  refine wpAny_bind (keys_of_list (s := { s with heap := s.heap.push { cls := .type "dict", data := .dict #[] } }) hol1 hcl hsl hdl hA fun h1 tk1 k1 => ?_)
  rw [if_pos (by rfl)]
  refine wpAny_bind (wpAny_rule ?_)
  have L1 : h1.IsList l its.toArray := ⟨ol, k1 _ _ hol1, hcl, nl, hsl⟩
  refine wpAny_bind (wpAny_pyIter_list (s := { s with heap := h1, toks := tk1 }) L1 ?_)
  refine wpAny_pure ⟨plainId_quiet plain_upd_loop _, ?_⟩
  have hdlt : s.heap.objs.size < h1.objs.size := Heap.lt_size (k1 _ _ (Heap.get?_push_size _ rfl))
  have llt : l < s.heap.objs.size := Heap.lt_size hol
  have up : ∀ b o, s.heap.get? b = some o → h1.get? b = some o := fun b o e => k1 b o (Heap.get?_push_of_some _ e)
  have lenp : ps.length = its.length := by have := rv.length; rwa [List.length_map] at this
  have lenv : vs.length = kvs.length := (Paired.length hv).symm
  have n1 : l ≠ h1.objs.size := Nat.ne_of_lt (Nat.lt_trans llt hdlt)
  have W := Walks.list (prog := X.prog) (w := X.w) (A := X.A.in1.in1) hA h1.objs.size l n1 its.toArray
  have ei : rawInt 0 = .int ((0 : Nat) : Int) 0 := rfl
  rw [ei]
  have old : ∀ j, j < its.toArray.size → ps.getD j 0 < s.heap.objs.size := fun j hj => by
    have hj' : j < ps.length := by rw [lenp]; simpa using hj
    have hm : ps.getD j 0 ∈ ps := by rw [List.getD_eq_getElem?_getD, List.getElem?_eq_getElem hj']; exact List.getElem_mem hj'
    obtain ⟨o, ho⟩ := hP.mem _ hm
    exact I.hok.lt ho
  refine upd_loop (κ := Key) (knd := mixKind X.prog X.w) (n := its.toArray.size) W (d := s.heap.objs.size) ?_ vs ?_ ?_ (fun j => ps.getD j 0) ?_ ?_ ?_ its.toArray.size 0 _ (Nat.zero_add _) ⟨⟨_, Heap.get?_push_size _ rfl, rfl, rfl⟩, L1.push _⟩ ?_ ?_ ?_
  · intro z
    have z' : s.heap.objs.size = h1.objs.size ∨ s.heap.objs.size = l := by simpa using z
    exact z'.elim (Nat.ne_of_lt hdlt) (Nat.ne_of_gt llt)
  · rw [lenv, ← hP.len, lenp]; simp
  · rw [kv_keys hv]; exact nd
  · intro i v hi e
    have e' : its[i]? = some v := by simpa using e
    have hi' : i < ps.length := by rw [lenp]; simpa using hi
    obtain ⟨u, hu, ru⟩ := rv.get (i := i) (x := V.ref ps[i]) (by rw [List.getElem?_map, List.getElem?_eq_getElem hi']; rfl)
    rw [hu] at e'
    cases e'
    rw [List.getD_eq_getElem?_getD, List.getElem?_eq_getElem hi']
    exact ru
  · intro i hi
    have hlt := old i hi
    refine ⟨fun z => ?_, Nat.ne_of_lt hlt⟩
    have z' : ps.getD i 0 = h1.objs.size := by simpa using z
    exact Nat.ne_of_lt (Nat.lt_trans hlt hdlt) z'
  · have := hP.len
    exact Nat.le_of_lt (small1000 (by simp; omega))
  · rw [List.take_zero]
    exact (dictOf_keep hnew fun o e => k1 _ o e).push _
  · intro j p hj
    obtain ⟨key, hk, o, ho, r⟩ := hT j p hj
    exact ⟨key, hk, o, Heap.get?_push_of_some _ (up _ _ ho), r⟩
  · intro h3 tk3 hD k3
    refine ⟨rfl, .ref s.heap.objs.size, upd H s.heap.objs.size (.dK kvs), I.laid (a := s.heap.objs.size) (o := .dK kvs) (t' := tk3) (fun b o e => ?_) (Nat.le_refl _) ⟨Nat.le_of_lt (small1000 hz), ?_, vs, hv, hD⟩, rfl, q _ (I.hok.fresh (Nat.le_refl _))⟩
    · have hlt := Heap.lt_size e
      refine k3 b o (fun z => ?_) (Nat.ne_of_lt hlt) (Heap.get?_push_of_some _ (up _ _ e))
      have z' : b = h1.objs.size := by simpa using z
      exact Nat.ne_of_lt (Nat.lt_trans hlt hdlt) z'
    · exact beq_eq_false_iff_ne.mpr (Nat.ne_of_gt I.big)
theorem call_dict_pairsK {X : Cx} (K : PySem.W.Frag) (hc : X.calm = true) (hu : X.A.units + 1 < cLine) (hK : X.K = K := by rfl) : CallR X (.type "dict") (rDictL K) := by subst hK; exact call_dict_list hc
end L2
namespace L2
open PySem PySem.Spec PyProof.Rows
end L2
namespace L2
open PySem PySem.Spec PyProof.Rows
section
variable {P : Program} {w : World} {A : Around} {E : Value → Shared → Prop} {s : Shared}
theorem nextOf_tup {it t : Addr} {k : Nat} {xs : Array Value} {x : Value} {Q : Value → Shared → Prop} (hi : IsTupIter s.heap it t k) (ht : IsTup s.heap t xs) (hx : xs[k]? = some x)
    (q : ∀ h', IsTupIter h' it t (k + 1) → Heap.SameBut it s.heap h' → Q x { s with heap := h' }) : wpAny (model P w) A (Builtin.SmallTypes.nextOf (.ref it)) Q E s := by
  obtain ⟨oi, hoi, ci, di⟩ := id hi
  obtain ⟨ot, hot, _, nt, dt⟩ := ht
  unfold Builtin.SmallTypes.nextOf
  refine wpAny_bind (wpAny_callSpecial?_slot (name := Str.ofString "__next__") hi.typeIs slot_tupleiter_next (wpAny_call_entry slot_tupleiter_next hi.typeIs entry_tupleiter_next ?_ (args_tupleiter_next _)))
  show wpAny _ _ (field (.ref it) 0 >>= _) _ _ _
  refine wpAny_bind (wpAny_field hoi di (x := .ref t) rfl ?_)
  show wpAny _ _ (if (Value.ref t == Value.none) = true then _ else _) _ _ _
  rw [if_neg (show ¬ ((Value.ref t == Value.none) = true) by intro z; cases z)]
  show wpAny _ _ (field (.ref it) 1 >>= _) _ _ _
  refine wpAny_bind (wpAny_field hoi di (x := .int k 0) rfl ?_)
  show wpAny _ _ (seqItems? (.ref t) >>= _) _ _ _
  refine wpAny_bind (wpAny_seqItems hot dt ?_)
  simp only [Int.toNat_natCast, hx]
  refine wpAny_bind (wpAny_setField hoi di (by simp) (wpAny_pure ⟨x, rfl, wpAny_pure (q _ ?_ (Heap.SameBut.update ..))⟩))
  refine ⟨_, Heap.get?_update_self _ hoi (Obj.isFreed_of_fields (Obj.data_mapFields di _)), (Obj.cls_mapFields ..).trans ci, ?_⟩
  rw [Obj.data_mapFields di]
  simp [rawInt]
theorem nextOf_tup_end {it t : Addr} {k : Nat} {xs : Array Value} {Q : Value → Shared → Prop} (hA : A.handled = none) (hi : IsTupIter s.heap it t k) (ht : IsTup s.heap t xs) (hx : xs[k]? = none)
    (q : ∀ h' e, Heap.ExtBut it s.heap h' → (∃ o, h'.get? e = some o ∧ o.cls = .type "StopIteration") → E (.ref e) { s with heap := h' }) : wpAny (model P w) A (Builtin.SmallTypes.nextOf (.ref it)) Q E s := by
  obtain ⟨oi, hoi, ci, di⟩ := id hi
  obtain ⟨ot, hot, _, nt, dt⟩ := ht
  unfold Builtin.SmallTypes.nextOf
  refine wpAny_bind (wpAny_callSpecial?_slot (name := Str.ofString "__next__") hi.typeIs slot_tupleiter_next (wpAny_call_entry slot_tupleiter_next hi.typeIs entry_tupleiter_next ?_ (args_tupleiter_next _)))
  show wpAny _ _ (field (.ref it) 0 >>= _) _ _ _
  refine wpAny_bind (wpAny_field hoi di (x := .ref t) rfl ?_)
  show wpAny _ _ (if (Value.ref t == Value.none) = true then _ else _) _ _ _
  rw [if_neg (show ¬ ((Value.ref t == Value.none) = true) by intro z; cases z)]
  show wpAny _ _ (field (.ref it) 1 >>= _) _ _ _
  refine wpAny_bind (wpAny_field hoi di (x := .int k 0) rfl ?_)
  show wpAny _ _ (seqItems? (.ref t) >>= _) _ _ _
  refine wpAny_bind (wpAny_seqItems hot dt ?_)
  simp only [Int.toNat_natCast, hx]
  refine wpAny_bind (wpAny_rule (wpAny_bind (wpAny_setField hoi di (by simp) ?_)))
  show wpAny _ _ (newExc (.type "StopIteration") [] >>= _) _ _ _
  simp only [newExc, newTuple]
  refine wpAny_bind (wpAny_bind (wpAny_newObj_type ?_ (by size_fits)))
  refine wpAny_bind (m := firstArgMember _ _) (wpAny_of_eq (a := Value.none) (by first | rfl | (simp only [firstArgMember] ; rfl)) ?_)
  refine wpAny_newObj_type ?_ (by size_fits)
  simp only [raiseNew]
  refine wpAny_bind (wpAny_handled ?_)
  first | rw [show A.in1.handled = none from hA] | rw [hA]
  refine wpAny_bind (wpAny_pure (wpAny_throw ?_))
  exact q _ _ (((Heap.SameBut.update ..).extBut.push _).push _) ⟨_, Heap.get?_push_size _ rfl, rfl⟩
end
structure Src (P : Program) (w : World) (it sq : Addr) (xs : Array Value) (St : Nat → Heap → Prop) : Prop where
  keep : ∀ k h h', St k h → (∀ b, b = it ∨ b = sq → ∀ o, h.get? b = some o → h'.get? b = some o) → St k h'
  obj : ∀ k h, St k h → ∃ o vs, h.get? it = some o ∧ o.data = .fields vs
  item : ∀ (A : Around) (E : Value → Shared → Prop) (k : Nat) (s : Shared) (x : Value) (Q : Value → Shared → Prop), St k s.heap → xs[k]? = some x →
    (∀ h', St (k + 1) h' → Heap.SameBut it s.heap h' → Q x { s with heap := h' }) → wpAny (model P w) A (Builtin.SmallTypes.nextOf (.ref it)) Q E s
  fin : ∀ (A : Around) (E : Value → Shared → Prop) (k : Nat) (s : Shared) (Q : Value → Shared → Prop), A.handled = none → St k s.heap → xs[k]? = none →
    (∀ h' e, Heap.ExtBut it s.heap h' → (∃ o, h'.get? e = some o ∧ o.cls = .type "StopIteration") → E (.ref e) { s with heap := h' }) → wpAny (model P w) A (Builtin.SmallTypes.nextOf (.ref it)) Q E s
theorem Src.off {P : Program} {w : World} {it sq : Addr} {xs : Array Value} {St : Nat → Heap → Prop} (S : Src P w it sq xs St) {k : Nat} {h h' : Heap} {b : Addr} (st : St k h) (e : Heap.ExtBut b h h') (n1 : it ≠ b) (n2 : sq ≠ b) : St k h' :=
  S.keep k h h' st fun c hc o ho => e c o (by rcases hc with z | z <;> rw [z] <;> assumption) ho
theorem src_list {P : Program} {w : World} (it l : Addr) (ne : l ≠ it) (xs : Array Value) : Src P w it l xs (fun k h => h.IsListIter it l k ∧ h.IsList l xs) where
  keep := fun k h h' st e => ⟨st.1.at fun o x => e it (.inl rfl) o x, st.2.at fun o x => e l (.inr rfl) o x⟩
  obj := fun k h st => by
    obtain ⟨o, ho, _, d⟩ := st.1
    exact ⟨o, _, ho, d⟩
  item := fun A E k s x Q st hx q => wpAny_nextOf_list_item st.1 st.2 hx fun h' a b => q h' ⟨a, st.2.extBut b.extBut ne⟩ b
  fin := fun A E k s Q hA st hx q => wpAny_nextOf_list_end hA st.1 st.2 hx q
theorem src_tup {P : Program} {w : World} (it t : Addr) (ne : t ≠ it) (xs : Array Value) : Src P w it t xs (fun k h => IsTupIter h it t k ∧ IsTup h t xs) where
  keep := fun k h h' st e => by
    obtain ⟨⟨o, ho, r⟩, o2, ho2, r2⟩ := st
    exact ⟨⟨o, e it (.inl rfl) o ho, r⟩, o2, e t (.inr rfl) o2 ho2, r2⟩
  obj := fun k h st => by
    obtain ⟨o, ho, _, d⟩ := st.1
    exact ⟨o, _, ho, d⟩
  item := fun A E k s x Q st hx q => nextOf_tup st.1 st.2 hx fun h' a b => q h' ⟨a, st.2.extBut b.extBut ne⟩ b
  fin := fun A E k s Q hA st hx q => nextOf_tup_end hA st.1 st.2 hx q
section
variable {P : Program} {w : World} {A : Around} {E : Value → Shared → Prop} {s : Shared} {z TI TO i1 i2 l1 l2 : Addr} {xs ys : Array Value} {S1 S2 : Nat → Heap → Prop}
theorem zipS_item {k : Nat} {x y a b : Value} {Q : Value → Shared → Prop} (c1 : Src P w i1 l1 xs S1) (c2 : Src P w i2 l2 ys S2) (D : ZipApart z TI TO i1 i2 l1 l2) (hz : IsZip s.heap z TI TO .none) (hTI : IsPair s.heap TI (.ref i1) (.ref i2)) (hTO : IsPair s.heap TO a b)
    (st1 : S1 k s.heap) (st2 : S2 k s.heap) (hx : xs[k]? = some x) (hy : ys[k]? = some y)
    (q : ∀ (h' : Heap) (T : Addr), IsZip h' z TI TO (rawInt T) → IsPair h' TO x y → S1 (k + 1) h' → S2 (k + 1) h' → IsPair h' T x y → s.heap.objs.size ≤ T → T ≠ z → T ≠ TO → T ≠ i1 → T ≠ i2 →
      (∀ c o, c ≠ z → c ≠ TO → c ≠ i1 → c ≠ i2 → s.heap.get? c = some o → h'.get? c = some o) → Q (.ref T) { s with heap := h' }) :
    wpAny (model P w) A (Builtin.«zip.__next__» ⟨[.ref z], []⟩) (fun fn s' => ∃ v, fn = .done (.ret v) ∧ Q v s') E s := by
  show wpAny _ _ (field (.ref z) 2 >>= _) _ _ _
  refine wpAny_bind (wpAny_field hz rfl (x := .bool false) rfl ?_)
  show wpAny _ _ (field (.ref z) 3 >>= _) _ _ _
  refine wpAny_bind (wpAny_field hz rfl (x := .ref TI) rfl (wpAny_bind (wpAny_seqItems hTI rfl ?_)))
  show wpAny _ _ (Builtin.SmallTypes.ownedTupleIsFree (.ref z) >>= _) _ _ _
  unfold Builtin.SmallTypes.ownedTupleIsFree
  refine wpAny_bind (wpAny_bind (wpAny_field hz rfl (x := .none) rfl (wpAny_pure ?_)))
  simp only [if_true]
  refine wpAny_bind (wpAny_rule (wpAny_bind (wpAny_field hz rfl (x := .ref TO) rfl ?_)))
  refine wpAny_bind (wpAny_setField_rec hz (by simp) fun g1 hz1 u1 => wpAny_bind ?_)
  replace hz1 : IsZip g1 z TI TO .ellipsis := hz1
  simp only [List.zipIdx_cons, List.zipIdx_nil, List.forIn_cons, List.forIn_nil]
  have a1 := c1.off st1 u1.extBut D.i1z D.l1z
  have a2 := c2.off st2 u1.extBut D.i2z D.l2z
  refine wpAny_bind (wpAny_bind (wpAny_onRaise ?_))
  show wpAny _ _ (Builtin.SmallTypes.nextOf (.ref i1) >>= _) _ _ _
  refine wpAny_bind (c1.item _ _ k { s with heap := g1 } x _ a1 hx fun g2 b1 u2 => wpAny_pure ?_)
  have b2 := c2.off a2 u2.extBut D.i12.symm D.l2i1
  have hT2 : IsPair g2 TO a b := u2.extBut _ _ D.TOi1 (u1.extBut _ _ D.TOz hTO)
  refine wpAny_bind (wpAny_seqItems hT2 rfl (wpAny_bind (wpAny_updateSeq_pair hT2 fun g3 hT3 u3 => ?_)))
  replace hT3 : IsPair g3 TO x b := hT3
  refine wpAny_bind (wpAny_letGo (wpAny_pure ?_))
  have d1 := c1.off b1 u3.extBut D.TOi1.symm D.l1TO
  have d2 := c2.off b2 u3.extBut D.TOi2.symm D.l2TO
  refine wpAny_bind (wpAny_bind (wpAny_onRaise ?_))
  show wpAny _ _ (Builtin.SmallTypes.nextOf (.ref i2) >>= _) _ _ _
  refine wpAny_bind (c2.item _ _ k { s with heap := g3 } y _ d2 hy fun g4 e2 u4 => wpAny_pure ?_)
  have e1 := c1.off d1 u4.extBut D.i12 D.l1i2
  have hT4 : IsPair g4 TO x b := u4.extBut _ _ D.TOi2 hT3
  refine wpAny_bind (wpAny_seqItems hT4 rfl (wpAny_bind (wpAny_updateSeq_pair hT4 fun g5 hT5 u5 => ?_)))
  replace hT5 : IsPair g5 TO x y := hT5
  refine wpAny_bind (wpAny_letGo (wpAny_pure (wpAny_pure ?_)))
  have f1 := c1.off e1 u5.extBut D.TOi1.symm D.l1TO
  have f2 := c2.off e2 u5.extBut D.TOi2.symm D.l2TO
  refine wpAny_bind (wpAny_seqItems hT5 rfl (wpAny_bind (wpAny_newTuple ?_)))
  have sz : g5.objs.size = s.heap.objs.size := by rw [u5.1, u4.1, u3.1, u2.1, u1.1]
  have hz5 : IsZip g5 z TI TO .ellipsis := u5.extBut _ _ D.TOz.symm (u4.extBut _ _ D.i2z.symm (u3.extBut _ _ D.TOz.symm (u2.extBut _ _ D.i1z.symm hz1)))
  have k5 : ∀ c o, c ≠ z → c ≠ TO → c ≠ i1 → c ≠ i2 → s.heap.get? c = some o → g5.get? c = some o := fun c o n1 n2 n3 n4 e =>
    u5.extBut _ _ n2 (u4.extBut _ _ n4 (u3.extBut _ _ n2 (u2.extBut _ _ n3 (u1.extBut _ _ n1 e))))
  have zl : z < g5.objs.size := Heap.lt_size hz5
  show wpAny _ _ (Builtin.SmallTypes.ownedTupleHandOut (.ref z) (.ref g5.objs.size) >>= _) _ _ _
  unfold Builtin.SmallTypes.ownedTupleHandOut
  have hz6 : IsZip (g5.push { cls := .type "tuple", data := .seq #[x, y] }) z TI TO .ellipsis := Heap.get?_push_of_some _ hz5
  refine wpAny_bind (wpAny_bind (wpAny_setField_rec hz6 (by simp) fun g7 hz7 u7 => ?_))
  replace hz7 : IsZip g7 z TI TO (rawInt g5.objs.size) := hz7
  refine wpAny_setField_rec hz7 (by simp) fun g8 hz8 u8 => ?_
  replace hz8 : IsZip g8 z TI TO (rawInt g5.objs.size) := hz8
  have up : ∀ c o, c ≠ z → g5.get? c = some o → g8.get? c = some o := fun c o n e => u8.extBut _ _ n (u7.extBut _ _ n (Heap.get?_push_of_some _ e))
  have hN : IsPair g8 g5.objs.size x y := u8.extBut _ _ (Nat.ne_of_gt zl) (u7.extBut _ _ (Nat.ne_of_gt zl) (Heap.get?_push_size _ rfl))
  have o1 : g5.objs.size ≠ i1 := by obtain ⟨o, _, ho, _⟩ := c1.obj _ _ f1; exact Nat.ne_of_gt (Heap.lt_size ho)
  have o2 : g5.objs.size ≠ i2 := by obtain ⟨o, _, ho, _⟩ := c2.obj _ _ f2; exact Nat.ne_of_gt (Heap.lt_size ho)
  refine wpAny_pure ⟨_, rfl, q g8 g5.objs.size hz8 (up _ _ D.TOz hT5) ?_ ?_ hN (Nat.le_of_eq sz.symm) (Nat.ne_of_gt zl) (Nat.ne_of_gt (Heap.lt_size hT5)) o1 o2 fun c o n1 n2 n3 n4 e => up c o n1 (k5 c o n1 n2 n3 n4 e)⟩
  · exact c1.keep _ _ _ f1 fun c hc o ho => up c o (by rcases hc with q | q <;> rw [q] <;> first | exact D.i1z | exact D.l1z) ho
  · exact c2.keep _ _ _ f2 fun c hc o ho => up c o (by rcases hc with q | q <;> rw [q] <;> first | exact D.i2z | exact D.l2z) ho
theorem zipS_end {k : Nat} {a b : Value} {Q : Fin → Shared → Prop} (hA : A.handled = none) (c1 : Src P w i1 l1 xs S1) (c2 : Src P w i2 l2 ys S2) (D : ZipApart z TI TO i1 i2 l1 l2) (hz : IsZip s.heap z TI TO .none) (hTI : IsPair s.heap TI (.ref i1) (.ref i2)) (hTO : IsPair s.heap TO a b)
    (st1 : S1 k s.heap) (st2 : S2 k s.heap) (hn : xs[k]? = none ∨ ys[k]? = none)
    (q : ∀ h' e, (∀ c o, c ≠ z → c ≠ TO → c ≠ i1 → c ≠ i2 → s.heap.get? c = some o → h'.get? c = some o) → (∃ o, h'.get? e = some o ∧ o.cls = .type "StopIteration") → E (.ref e) { s with heap := h' }) :
    wpAny (model P w) A (Builtin.«zip.__next__» ⟨[.ref z], []⟩) Q E s := by
  show wpAny _ _ (field (.ref z) 2 >>= _) _ _ _
  refine wpAny_bind (wpAny_field hz rfl (x := .bool false) rfl ?_)
  show wpAny _ _ (field (.ref z) 3 >>= _) _ _ _
  refine wpAny_bind (wpAny_field hz rfl (x := .ref TI) rfl (wpAny_bind (wpAny_seqItems hTI rfl ?_)))
  show wpAny _ _ (Builtin.SmallTypes.ownedTupleIsFree (.ref z) >>= _) _ _ _
  unfold Builtin.SmallTypes.ownedTupleIsFree
  refine wpAny_bind (wpAny_bind (wpAny_field hz rfl (x := .none) rfl (wpAny_pure ?_)))
  simp only [if_true]
  refine wpAny_bind (wpAny_rule (wpAny_bind (wpAny_field hz rfl (x := .ref TO) rfl ?_)))
  refine wpAny_bind (wpAny_setField_rec hz (by simp) fun g1 hz1 u1 => wpAny_bind ?_)
  replace hz1 : IsZip g1 z TI TO .ellipsis := hz1
  simp only [List.zipIdx_cons, List.zipIdx_nil, List.forIn_cons, List.forIn_nil]
  have a1 := c1.off st1 u1.extBut D.i1z D.l1z
  have a2 := c2.off st2 u1.extBut D.i2z D.l2z
  refine wpAny_bind (wpAny_bind (wpAny_onRaise ?_))
  show wpAny _ _ (Builtin.SmallTypes.nextOf (.ref i1) >>= _) _ _ _
  cases hx : xs[k]? with
  | none =>
    refine wpAny_bind (c1.fin _ _ k { s with heap := g1 } _ hA a1 hx fun g2 e u2 he => ?_)
    obtain ⟨oe, hoe, ce⟩ := he
    have hz2 : IsZip g2 z TI TO .ellipsis := u2 _ _ D.i1z.symm hz1
    have ez : e ≠ z := fun q => by subst q; rw [hz2] at hoe; cases hoe; simp at ce
    exact wpAny_setField_rec hz2 (by simp) fun g3 _ u3 => q g3 e (fun c o n1 _ n3 _ ho => u3.extBut _ _ n1 (u2 _ _ n3 (u1.extBut _ _ n1 ho))) ⟨oe, u3.extBut _ _ ez hoe, ce⟩
  | some x =>
    have hy : ys[k]? = none := by
      rcases hn with h | h
      · rw [hx] at h; cases h
      · exact h
    refine wpAny_bind (c1.item _ _ k { s with heap := g1 } x _ a1 hx fun g2 b1 u2 => wpAny_pure ?_)
    have b2 := c2.off a2 u2.extBut D.i12.symm D.l2i1
    have hT2 : IsPair g2 TO a b := u2.extBut _ _ D.TOi1 (u1.extBut _ _ D.TOz hTO)
    refine wpAny_bind (wpAny_seqItems hT2 rfl (wpAny_bind (wpAny_updateSeq_pair hT2 fun g3 hT3 u3 => ?_)))
    refine wpAny_bind (wpAny_letGo (wpAny_pure ?_))
    have d2 := c2.off b2 u3.extBut D.TOi2.symm D.l2TO
    refine wpAny_bind (wpAny_bind (wpAny_onRaise ?_))
    show wpAny _ _ (Builtin.SmallTypes.nextOf (.ref i2) >>= _) _ _ _
    refine wpAny_bind (c2.fin _ _ k { s with heap := g3 } _ hA d2 hy fun g4 e u4 he => ?_)
    obtain ⟨oe, hoe, ce⟩ := he
    have hz4 : IsZip g4 z TI TO .ellipsis := u4 _ _ D.i2z.symm (u3.extBut _ _ D.TOz.symm (u2.extBut _ _ D.i1z.symm hz1))
    have ez : e ≠ z := fun q => by subst q; rw [hz4] at hoe; cases hoe; simp at ce
    exact wpAny_setField_rec hz4 (by simp) fun g5 _ u5 => q g5 e (fun c o n1 n2 n3 n4 ho => u5.extBut _ _ n1 (u4 _ _ n4 (u3.extBut _ _ n2 (u2.extBut _ _ n3 (u1.extBut _ _ n1 ho))))) ⟨oe, u5.extBut _ _ ez hoe, ce⟩
end
def SqA (K : PySem.W.Frag) (H : Hp) (a : Addr) (xs : List V) : Bool → Prop
  | true => SqT K H a xs
  | false => SqL K H a xs
def ItA (h : Heap) (it l : Addr) (k : Nat) : Bool → Prop
  | true => IsTupIter h it l k
  | false => h.IsListIter it l k
def HasA (h : Heap) (l : Addr) (xs : Array Value) : Bool → Prop
  | true => IsTup h l xs
  | false => h.IsList l xs
theorem srcA {P : Program} {w : World} (it l : Addr) (ne : l ≠ it) (xs : Array Value) : ∀ b, Src P w it l xs (fun k h => ItA h it l k b ∧ HasA h l xs b)
  | true => src_tup it l ne xs
  | false => src_list it l ne xs
theorem ItA.at {h h' : Heap} {it l : Addr} {k : Nat} (e : ∀ o, h.get? it = some o → h'.get? it = some o) : ∀ {b : Bool}, ItA h it l k b → ItA h' it l k b
  | true, x => let ⟨o, ho, r⟩ := (show IsTupIter h it l k from x); ⟨o, e o ho, r⟩
  | false, x => let ⟨o, ho, r⟩ := (show h.IsListIter it l k from x); ⟨o, e o ho, r⟩
theorem ItA.obj {h : Heap} {it l : Addr} {k : Nat} : ∀ {b : Bool}, ItA h it l k b → ∃ o, h.get? it = some o ∧ o.data = .fields #[.ref l, .int k 0] ∧ (o.cls = .type "tuple_iterator" ∨ o.cls = .type "list_iterator")
  | true, x => let ⟨o, ho, c, d⟩ := (show IsTupIter h it l k from x); ⟨o, ho, d, .inl c⟩
  | false, x => let ⟨o, ho, c, d⟩ := (show h.IsListIter it l k from x); ⟨o, ho, d, .inr c⟩
theorem HasA.obj {h : Heap} {l : Addr} {xs : Array Value} : ∀ {b : Bool}, HasA h l xs b → ∃ o, h.get? l = some o ∧ (o.cls = .type "tuple" ∨ o.cls = .type "list") ∧ ∃ n, o.data = .seq xs n
  | true, x => let ⟨o, ho, c, n, d⟩ := (show IsTup h l xs from x); ⟨o, ho, .inl c, n, d⟩
  | false, x => let ⟨o, ho, c, n, d⟩ := (show h.IsList l xs from x); ⟨o, ho, .inr c, n, d⟩
theorem Inv.seqA {X : Cx} {pins : List (Addr × Obj)} {σ : St} {H : Hp} {s : Shared} {a : Addr} {xs : List V} (I : Inv X pins σ H s) : ∀ {b : Bool}, SqA X.K H a xs b → ∃ its : List Value, Vals xs its ∧ HasA s.heap a its.toArray b ∧ xs.length ≤ sizeLine
  | true, h => let ⟨its, r, p, z⟩ := I.tuple h; ⟨its, r, p, z⟩
  | false, h => let ⟨its, r, p, z⟩ := I.list h; ⟨its, r, p.isList, z⟩
theorem Inv.seqA_inj {X : Cx} {pins : List (Addr × Obj)} {σ : St} {H : Hp} {s : Shared} {a : Addr} {xs ys : List V} {i : Nat} {x : V} (I : Inv X pins σ H s) {b : Bool} (h : SqA X.K H a xs b) (h' : SqA X.K H a ys b) (e : xs[i]? = some x) : ys[i]? = some x := by
  cases b with
  | true => rw [I.tuple_inj h' h]; exact e
  | false => rw [I.list_inj h' h]; exact e
def itO (l : Addr) : Bool → Obj
  | true => { cls := .type "tuple_iterator", data := .fields #[.ref l, .int 0 0] }
  | false => { cls := .type "list_iterator", data := .fields #[.ref l, .int 0 0] }
theorem pyIterA {P : Program} {w : World} {A : Around} {E : Value → Shared → Prop} {s : Shared} {l : Addr} {xs : Array Value} {Q : Value → Shared → Prop} : ∀ {b : Bool}, HasA s.heap l xs b → Q (.ref s.heap.objs.size) { s with heap := s.heap.push (itO l b) } → wpAny (model P w) A (pyIter (.ref l)) Q E s
  | true, h, q => iter_tuple h q
  | false, h, q => wpAny_pyIter_list h q
theorem HasA.keep {h h' : Heap} {l : Addr} {xs : Array Value} (e : ∀ o, h.get? l = some o → h'.get? l = some o) : ∀ {b : Bool}, HasA h l xs b → HasA h' l xs b
  | true, x => let ⟨o, ho, r⟩ := (show IsTup h l xs from x); ⟨o, e o ho, r⟩
  | false, x => let ⟨o, ho, r⟩ := (show h.IsList l xs from x); ⟨o, e o ho, r⟩
theorem itO_at {h : Heap} {l : Addr} {k : Addr} : ∀ {b : Bool}, h.get? k = some (itO l b) → ItA h k l 0 b
  | true, e => ⟨_, e, rfl, rfl⟩
  | false, e => ⟨_, e, rfl, rfl⟩
end L2
namespace L2
open PySem PySem.Spec PyProof.Rows
inductive VSame (K : PySem.W.Frag) (H : Hp) : Nat → V → V → Prop where
  | flat {n : Nat} {x : V} (h : flatV x = true) : VSame K H n x x
  | seq {n : Nat} {a b : Addr} {xs ys : List V} (t : Bool) (ha : SqA K H a xs t) (hb : SqA K H b ys t) (hl : xs.length = ys.length) (h : ∀ (i : Nat) x y, xs[i]? = some x → ys[i]? = some y → VSame K H n x y) : VSame K H (n + 1) (.ref a) (.ref b)
theorem eqV_refl {x : V} (h : flatV x = true) : eqV x x = true := by
  cases x <;> first | (cases h; done) | (simp [eqV])
section
variable {X : Cx} {pins : List (Addr × Obj)} {σ : St} {H : Hp} {s : Shared}
theorem all_true (n : Nat) : ((List.range n).all fun _ => true) = true := by simp
theorem items_same {n : Nat} {A : Around} {xs ys : List V} {i1 i2 : List Value} (r1 : Vals xs i1) (r2 : Vals ys i2) (ih : ∀ (i : Nat) x y u v, xs[i]? = some x → ys[i]? = some y → RelV x u → RelV y v → SeqAt.EqAt A s u v true) :
    ∀ j (h1 : j < i1.toArray.size) (h2 : j < i2.toArray.size), SeqAt.EqAt A s i1.toArray[j] i2.toArray[j] true := fun j h1 h2 => by
  have l1 := r1.length
  have l2 := r2.length
  have h1' : j < xs.length := by simpa [l1] using h1
  have h2' : j < ys.length := by simpa [l2] using h2
  obtain ⟨u1, f1, g1⟩ := r1.get (List.getElem?_eq_getElem h1')
  obtain ⟨u2, f2, g2⟩ := r2.get (List.getElem?_eq_getElem h2')
  have k1 : i1.toArray[j] = u1 := by
    have := (List.getElem?_eq_some_iff.mp f1).2
    simpa using this
  have k2 : i2.toArray[j] = u2 := by
    have := (List.getElem?_eq_some_iff.mp f2).2
    simpa using this
  rw [k1, k2]
  exact ih j _ _ _ _ (List.getElem?_eq_getElem h1') (List.getElem?_eq_getElem h2') g1 g2
theorem rc_seq {A : Around} {t : Bool} {a b : Addr} {i1 i2 : List Value} (p1 : HasA s.heap a i1.toArray t) (p2 : HasA s.heap b i2.toArray t) (hl : i1.length = i2.length) (hu : A.units < cLine)
    (h : ∀ j (h1 : j < i1.toArray.size) (h2 : j < i2.toArray.size), SeqAt.EqAt A.in1 s i1.toArray[j] i2.toArray[j] true) : SeqAt.RcAt A s (.ref a) (.ref b) true := by
  cases t with
  | false =>
    have := SeqAt.RcAt.lists (e := fun _ => true) p1 p2 (by simpa using hl) hu h
    rwa [all_true] at this
  | true =>
    have := SeqAt.RcAt.tuples (e := fun _ => true) p1 p2 hu h
    rw [all_true] at this
    simpa [hl] using this
theorem rcne_seq {A : Around} {t : Bool} {a b : Addr} {i1 i2 : List Value} (p1 : HasA s.heap a i1.toArray t) (p2 : HasA s.heap b i2.toArray t) (hl : i1.length = i2.length) (hu : A.units < cLine)
    (h : ∀ j (h1 : j < i1.toArray.size) (h2 : j < i2.toArray.size), SeqAt.EqAt A.in1 s i1.toArray[j] i2.toArray[j] true) : SeqAt.RcNeAt A s (.ref a) (.ref b) false := by
  cases t with
  | false =>
    have := SeqAt.RcNeAt.lists (e := fun _ => true) p1 p2 (by simpa using hl) hu h
    rwa [all_true] at this
  | true =>
    have := SeqAt.RcNeAt.tuples (e := fun _ => true) p1 p2 hu h
    rw [all_true] at this
    simpa [hl] using this
theorem eq_deep (I : Inv X pins σ H s) : ∀ {n : Nat} {x y : V}, VSame X.K H n x y → ∀ {u v : Value} (A : Around), RelV x u → RelV y v → A.units + n < cLine → SeqAt.EqAt A s u v true := by
  intro n x y h
  induction h with
  | flat h =>
    intro u v A ru rv _
    have := eqAt_V (A := A) (s := s) ru rv h h
    rwa [eqV_refl h] at this
  | seq t ha hb hl h ih =>
    rename_i n a b xs ys
    intro u v A ru rv hu
    cases ru
    cases rv
    by_cases e : a = b
    · subst e
      exact SeqAt.EqAt.same _
    · obtain ⟨i1, r1, p1, _⟩ := I.seqA ha
      obtain ⟨i2, r2, p2, _⟩ := I.seqA hb
      refine SeqAt.EqAt.of_refs e (rc_seq p1 p2 (by rw [← r1.length, ← r2.length, hl]) (by omega) (items_same (n := n) r1 r2 fun i x y u v e1 e2 g1 g2 => ih i x y e1 e2 A.in1 g1 g2 ?_))
      show A.units + 1 + n < cLine
      omega
end
def rSameV (K : PySem.W.Frag) (b : Bool) : R2 := fun x y H Q => ∃ (n : Nat) (a c : Addr), x = .ref a ∧ y = .ref c ∧ VSame K H (n + 1) x y ∧ n ≤ 30 ∧ Q (.bl b) H
theorem op_neV {X : Cx} (hu : X.A.units + 64 < cLine) : OpR X (compareOp .NotEq) (rSameV X.K false) := by
  intro pins s σ H x y u v Q I rx ry h
  obtain ⟨n, a, c, rfl, rfl, hv, hn, q⟩ := h
  cases rx
  cases ry
  cases hv with
  | flat h => cases h
  | seq t ha hb hl h =>
    obtain ⟨i1, r1, p1, _⟩ := I.seqA ha
    obtain ⟨i2, r2, p2, _⟩ := I.seqA hb
    refine rcne_seq p1 p2 (by rw [← r1.length, ← r2.length, hl]) (by omega) (items_same (n := n) r1 r2 fun i x y u v e1 e2 g1 g2 => eq_deep I (h i x y e1 e2) X.A.in1 g1 g2 ?_) X.prog X.w _ _ ⟨.bl false, H, I, rfl, q⟩
    show X.A.units + 1 + n < cLine
    omega
theorem op_neVK {X : Cx} (K : PySem.W.Frag) (hu : X.A.units + 64 < cLine) (hK : X.K = K := by rfl) : OpR X (compareOp .NotEq) (rSameV K false) := by subst hK; exact op_neV hu
end L2
namespace L2
open PySem PySem.Spec PyProof.Rows
end L2
namespace L2
open PySem PySem.Spec PyProof.Rows
def hide (h : Heap) (fs : List Addr) : Heap := ⟨((List.range h.objs.size).map fun i => if i ∈ fs then (⟨.none, none, .freed, #[]⟩ : Obj) else (h.objs[i]?).getD ⟨.none, none, .freed, #[]⟩).toArray, h.life⟩
theorem hide_get (h : Heap) (fs : List Addr) (b : Addr) : (hide h fs).get? b = if b ∈ fs then none else h.get? b := by
  unfold Heap.get? hide
  by_cases hb : b < h.objs.size
  · have e : ((List.range h.objs.size).map fun i => if i ∈ fs then (⟨.none, none, .freed, #[]⟩ : Obj) else (h.objs[i]?).getD ⟨.none, none, .freed, #[]⟩).toArray[b]? = some (if b ∈ fs then (⟨.none, none, .freed, #[]⟩ : Obj) else (h.objs[b]?).getD ⟨.none, none, .freed, #[]⟩) := by
      rw [List.getElem?_toArray, List.getElem?_map, List.getElem?_range hb]
      rfl
    show (match (((List.range h.objs.size).map fun i => if i ∈ fs then (⟨.none, none, .freed, #[]⟩ : Obj) else (h.objs[i]?).getD ⟨.none, none, .freed, #[]⟩).toArray[b]?) with | some ⟨_, _, .freed, _⟩ => none | o => o) = _
    rw [e]
    by_cases hf : b ∈ fs
    · rw [if_pos hf, if_pos hf]
    · rw [if_neg hf, if_neg hf, Array.getElem?_eq_getElem hb]
      rfl
  · have e : ((List.range h.objs.size).map fun i => if i ∈ fs then (⟨.none, none, .freed, #[]⟩ : Obj) else (h.objs[i]?).getD ⟨.none, none, .freed, #[]⟩).toArray[b]? = none := by
      rw [List.getElem?_toArray]
      exact List.getElem?_eq_none (by rw [List.length_map, List.length_range]; exact Nat.le_of_not_lt hb)
    show (match (((List.range h.objs.size).map fun i => if i ∈ fs then (⟨.none, none, .freed, #[]⟩ : Obj) else (h.objs[i]?).getD ⟨.none, none, .freed, #[]⟩).toArray[b]?) with | some ⟨_, _, .freed, _⟩ => none | o => o) = _
    rw [e, Array.getElem?_eq_none (Nat.le_of_not_lt hb)]
    by_cases hf : b ∈ fs
    · rw [if_pos hf]
    · rw [if_neg hf]
theorem hide_in {h : Heap} {fs : List Addr} {b : Addr} {o : Obj} (e : h.get? b = some o) (n : b ∉ fs) : (hide h fs).get? b = some o := by rw [hide_get, if_neg n]; exact e
theorem hide_stays (h : Heap) (fs : List Addr) : (hide h fs).StaysIn h := fun b o e => by
  rw [hide_get] at e
  split at e
  · cases e
  · exact e
theorem hide_out {h : Heap} {fs : List Addr} {b : Addr} (n : b ∈ fs) : (hide h fs).get? b = none := by rw [hide_get, if_pos n]
theorem hide_frames {h b : Heap} {fs : List Addr} : ∀ {l : List Env}, (∀ x ∈ frs l, x ∈ fs) → h.FunFrames b l → h.FunFrames (hide h fs) l
  | [], _, _ => trivial
  | env :: l, hs, ⟨hk, ⟨L, o, hf, hn, ho, hd⟩, hr⟩ =>
    ⟨hk, ⟨L, o, hf, hide_out (hs L (by unfold frs; rw [List.filterMap_cons, hf]; exact List.mem_cons_self)), ho, hd⟩, hide_frames (fun x hx => hs x (by unfold frs; rw [List.filterMap_cons, hf]; exact List.mem_cons_of_mem _ hx)) hr⟩
theorem HOk.keptAt {P : Program} {w : World} {H : Hp} {h h' : Heap} (x : HOk P w H h) (k : ∀ b o u, H b = some o → h.get? b = some u → h'.get? b = some u) : HOk P w H h' := fun a o e =>
  (x a o e).stay (fun b u hb q => by
    rcases hb with rfl | hb
    · exact k b o u e q
    · exact k b _ u hb q) (fun _ q => q) fun _ _ q => q
theorem ObjOk.there' {P : Program} {w : World} {H : Hp} {h : Heap} {a : Addr} {o : HO} (x : ObjOk P w H h a o) : ∃ u, h.get? a = some u := by
  cases o with
  | lst xs => obtain ⟨_, _, _, _, e⟩ := x; exact ⟨_, e⟩
  | tup xs => obtain ⟨_, _, _, ⟨ob, e, _⟩, _⟩ := x; exact ⟨_, e⟩
  | dK kvs => obtain ⟨_, _, _, _, o, _, _, e, _⟩ := x; exact ⟨_, e⟩
  | dT kvs => obtain ⟨_, _, _, _, o, _, _, e, _⟩ := x; exact ⟨_, e⟩
  | set S n => obtain ⟨o, _, _, _, e, _⟩ := x; exact ⟨_, e⟩
  | ins C dx fs => obtain ⟨_, _, _, e, _⟩ := x; exact ⟨_, e⟩
  | own y => obtain ⟨_, e⟩ := x; exact ⟨_, e⟩
  | xd fs => obtain ⟨_, ⟨_, _, _, e, _⟩, _⟩ := x; exact ⟨_, e⟩
  | rng lo hi => obtain ⟨_, _, _, e⟩ := x; exact ⟨_, e⟩
  | frz ob u => obtain ⟨e, _⟩ := x; exact ⟨_, e⟩
  | tbl ps => exact ⟨_, (show h.get? a = some _ from x)⟩
  | met f y => exact ⟨_, (show h.get? a = some _ from x)⟩
  | ext φ => obtain ⟨_, ⟨_, e⟩, _⟩ := x; exact ⟨_, e⟩
def CX1 (P : Program) (w : World) : CXT := fun outer H s E u s' => ∃ (e t : Addr) (cls : Value) (H' : Hp) (b1 : Heap), u = .ref e ∧ s'.os = s.os ∧ AllBare s'.gens ∧ Un (frs outer) [] H H' s.heap s'.heap ∧ HOk P w H' s'.heap ∧ H' e = none ∧ s.heap.get? e = none ∧
  Heap.FlyingW b1 outer e cls (.ref t) s'.heap ∧ (∀ b o, ((∃ u, s.heap.get? b = some u) ∨ ∃ u, H' b = some u) → b ∉ frs outer → s'.heap.get? b = some o → b1.get? b = some o) ∧ E cls none H'
section
variable {P : Program} {w : World} {K : PySem.W.Frag} {mg : Str → Option Value} {base : Heap} {N : List Str} {qual : Str} {scope : Scope} {f : Addr} {cdv : Value} {A : Around} {outer : List Env} {s : Shared} {H : Hp} {E : XK}
theorem frs_cons {env : Env} {l : List Env} {L : Addr} (h : env.frame = some L) : frs (env :: l) = L :: frs l := by unfold frs; rw [List.filterMap_cons, h]
theorem leave_made {pins : List (Addr × Obj)} {σ : St} {H1 : Hp} {s1 : Shared} {h2 : Heap} {e : Addr} {cls : Value} {vs : List Value} (I : Inv (cxOf (CX1 P w) P w K mg base N qual scope f cdv A outer s H E) pins σ H1 s1)
    (hx : Heap.MadeExcOf s1.heap h2 e cls vs) (q : E cls none H1) : (cxOf (CX1 P w) P w K mg base N qual scope f cdv A outer s H E).xe (.ref e) { s1 with heap := h2 } := by
  have hL : (envOfC qual scope s.heap.objs.size f cdv).frame = some s.heap.objs.size := rfl
  have hfr := frs_cons (l := outer) hL
  have hst := I.stack
  have hfree := I.stkFree
  refine wpAny_leaves_madeW (base := hide s1.heap (frs (envOfC qual scope s.heap.objs.size f cdv :: outer))) (h := s1.heap) I.ok.frames hL (hide_stays _ _) (hide_frames (fun x hx => hx) hst) hx fun h' t hfl htup hnew hsm => ?_
  have ne : ∀ b u, s.heap.get? b = some u → b ≠ s.heap.objs.size := fun b u h => Nat.ne_of_lt (Heap.lt_size h)
  have keepS : ∀ b o, s1.heap.get? b = some o → b ∉ frs (envOfC qual scope s.heap.objs.size f cdv :: outer) → h'.get? b = some o := fun b o h n => hfl.1 b o (hide_in h n)
  have nin : ∀ b u, s.heap.get? b = some u → b ∉ frs outer → b ∉ frs (envOfC qual scope s.heap.objs.size f cdv :: outer) := fun b u h n z => by
    rw [hfr] at z
    rcases List.mem_cons.mp z with z | z
    · exact ne b u h z
    · exact n z
  have slotS : ∀ b o, s1.heap.get? b = some o → b ∈ frs (envOfC qual scope s.heap.objs.size f cdv :: outer) → ∃ sl, h'.get? b = some { o with slots := sl } := fun b o h n => by
    obtain ⟨_, o', ho', hd⟩ := hst.mem n
    rw [h] at ho'
    cases ho'
    exact hsm b o (hx.keeps b o h) hd
  have trk : ∀ b o, H1 b = some o → b ∉ frs (envOfC qual scope s.heap.objs.size f cdv :: outer) := fun b o h z => by
    have := hfree b z
    rw [h] at this
    cases this
  refine ⟨e, t, cls, H1, hide s1.heap (frs (envOfC qual scope s.heap.objs.size f cdv :: outer)), rfl, I.os, I.bare, ⟨fun b o h n hb _ => ?_, fun b o h n hb _ => ?_, fun b o h n _ => I.base.free b o h n (by simp [cxOf]), fun b o h _ => ?_, I.base.tups, I.base.frzs, I.base.tbls⟩, ?_, ?_, ?_, hfl, fun b o h n h' => ?_, q⟩
  · exact keepS b o (I.base.keep b o h n hb (by simp [cxOf])) (nin b o h hb)
  · obtain ⟨sl, e1⟩ := I.base.slot b o h n hb (by simp [cxOf])
    obtain ⟨sl2, e2⟩ := slotS b _ e1 (by rw [hfr]; exact List.mem_cons_of_mem _ hb)
    exact ⟨sl2, e2⟩
  · obtain ⟨o', e1⟩ := I.base.there b o h (by simp [cxOf])
    by_cases hb : b ∈ frs (envOfC qual scope s.heap.objs.size f cdv :: outer)
    · obtain ⟨sl, e2⟩ := slotS b _ e1 hb
      exact ⟨_, e2⟩
    · exact ⟨_, keepS b o' e1 hb⟩
  · exact I.hok.keptAt fun b o u h1 h2 => keepS b u h2 (trk b o h1)
  · cases z : H1 e with
    | none => rfl
    | some o =>
      obtain ⟨u, hu⟩ := (I.hok e o z).there'
      rw [hx.new] at hu
      cases hu
  · cases z : s.heap.get? e with
    | none => rfl
    | some o =>
      obtain ⟨u, hu⟩ := I.base.there e o z (by simp [cxOf])
      rw [hx.new] at hu
      cases hu
  · have : ∃ u, s1.heap.get? b = some u ∧ b ∉ frs (envOfC qual scope s.heap.objs.size f cdv :: outer) := by
      rcases h with ⟨u, h⟩ | ⟨u, h⟩
      · obtain ⟨o', e1⟩ := I.base.there b u h (by simp [cxOf])
        exact ⟨o', e1, nin b u h n⟩
      · obtain ⟨o', e1⟩ := (I.hok b u h).there'
        exact ⟨o', e1, trk b u h⟩
    obtain ⟨u, h1, h2⟩ := this
    have h3 := keepS b u h1 h2
    rw [h'] at h3
    cases h3
    exact hide_in h1 h2
theorem Fun.ok1 {x : Str} {st : Stmt} {fd : FuncData} {ps : List Str} {k : Nat} {sp : Sp} (F : Fun K x qual st f fd) (S : FnScope N ps (defScope st)) (len : ∀ vs H Q E, sp vs H Q E → vs.length = ps.length)
    (hbody : ∀ (cdv : Value) (A : Around) (outer : List Env) (s : Shared) (H : Hp) (vs : List V) (Q : VK) (E : XK), Room k (A.deeper (envOfC qual (defScope st) s.heap.objs.size f cdv)) → sp vs H Q E →
      ∃ t, PSs (cxOf (CX1 P w) P w K mg base N qual (defScope st) f cdv A outer s H E) (defBody st) t ∧ t { nx := fun _ H' => Q .non H', rt := Q } (start N vs) H) : FnOk P w K mg base (CX1 P w) (k + 1) f fd ps sp := by
  obtain ⟨oc, od, kV, doc, pm, an, cdv, ct, osl, rfl, lk, hcd⟩ := F.ex
  exact fn_of lk hcd S len fun A outer s H vs Q E hr hsp => hbody cdv A outer s H vs Q E hr hsp
theorem FnOk.calm {k : Nat} {fd : FuncData} {ps : List Str} {sp sp' : Sp} (F : FnOk P w K mg base (CX1 P w) k f fd ps sp) (h : ∀ vs H Q E, sp' vs H Q E → sp vs H Q E0) : FnOk P w K mg base CX0 k f fd ps sp' :=
  ⟨fun vs H Q E q => F.len vs H Q E0 (h _ _ _ _ q), fun A outer s H args us vs Q E hr he hb hv hs => codeAny_mono (F.run A outer s H args us vs Q E0 hr he hb hv (h _ _ _ _ hs)) fun r s' hq => by
    cases r with
    | error e =>
      obtain ⟨_, _, _, _, _, _, _, _, _, _, _, _, _, _, q⟩ := hq
      exact q.elim
    | ok fl => cases fl <;> exact hq⟩
def tRaise (C : Addr) (E : XK) (t : TA) : TS := fun D σ H => t σ H fun vs H1 => vs.length ≤ sizeLine ∧ E (.ref C) none H1
theorem ps_raise {x : Str} {C : Addr} {bm : List Value} {B newId initId : String} {e₀ : Expr} {rest : List Expr} {t : TA} {np cpos pos : Pos} (O : OwnCls x C bm newId mg base) (FB : ExcBaseFacts B newId initId bm)
    (hg : Gl (cxOf (CX1 P w) P w K mg base N qual scope f cdv A outer s H E) x) (ha : PA (cxOf (CX1 P w) P w K mg base N qual scope f cdv A outer s H E) (e₀ :: rest) t)
    (he : starEach (e₀ :: rest) (envOfC qual scope s.heap.objs.size f cdv) = (false, eval e₀ (envOfC qual scope s.heap.objs.size f cdv)) :: starEach rest (envOfC qual scope s.heap.objs.size f cdv) := by rfl)
    (hplain : (backTo cpos (starEach rest (envOfC qual scope s.heap.objs.size f cdv))).any (·.1) = false := by rfl) (hdb : (x == ("__debug__" : Str)) = false := by decide) :
    PS (cxOf (CX1 P w) P w K mg base N qual scope f cdv A outer s H E) (.Raise (some (.Call (.Name x np) (e₀ :: rest) [] cpos)) none pos) (tRaise C E t) := by
  intro pins s1 σ H1 D I h
  obtain ⟨tl, NN, nm, q, bs, hdct, sn, sub, ab, col, dd, k0, k1, k2, k3, k5, mN, hC, hN, hni, T⟩ := O.obj
  refine wpAny_Raise_call_subT (C := C) (nm := nm) (q := q) (N := NN) (bs := bs) (bm := tl) (hdct := hdct) (sn := sn) (sub := sub) (ab := ab) (col := col) (dd := dd) (k0 := k0) (k1 := k1) (k2 := k2) (k3 := k3) (k5 := k5)
    FB (mN := mN) (T.hasType FB.hasBase) (I.ok.hd rfl) (by show (backTo cpos (starEach (e₀ :: rest) (envOfC qual scope s.heap.objs.size f cdv))).any (·.1) = false; rw [he]; show (false || (backTo cpos (starEach rest (envOfC qual scope s.heap.objs.size f cdv))).any (·.1)) = false; rw [hplain]; rfl) hni (ld_glob I hg O.bound ⟨rfl, ?_⟩ hdb)
  have ha' := ha cpos pins s1 σ H1 _ I h
  have he' : starEach (e₀ :: rest) (cxOf (CX1 P w) P w K mg base N qual scope f cdv A outer s H E).env = (false, eval e₀ (envOfC qual scope s.heap.objs.size f cdv)) :: starEach rest (envOfC qual scope s.heap.objs.size f cdv) := he
  rw [he'] at ha' ⊢
  refine Calls.evalArgs_plain (wpAny_mono ha' (fun vs s2 h2 => ?_) fun _ _ y => y)
  obtain ⟨us, H2, I2, r, hz, hq⟩ := h2
  have hk := I2.bk
  exact ⟨rfl, by rw [← r.length]; exact hz, hk _ _ hC, hN.keeps hk, T.keeps hk, fun h' e hx => leave_made I2 hx hq⟩
end
end L2
namespace L2
open PySem PySem.Spec PySem.Calls PyProof.Rows PySem.W
section
variable {prog : Program} {w : World} {A : Around} {E : Value → Shared → Prop} {s : Shared} {K : PySem.W.Frag} {x D : Addr} {ox : Obj}
structure XAt (h : Heap) (x : Addr) (ox : Obj) (D : Addr) : Prop where
  at_ : h.get? x = some ox
  cls : ox.cls = .ref D
theorem XAt.type {M : Model} {h : Heap} (I : XAt h x ox D) : Looks M h (typeOf (.ref x)) (.ref D) := by
  have := I.cls
  exact this ▸ (Looks.ld I.at_).andThen Looks.now
theorem xi_find {M : Model} {h : Heap} (X : K.In h) (ha : findIn K (.ref D) "__class__" = some (some (.builtin "object.__class__"))) (hn : specialIn K (.builtin "object.__class__") "__get__" = some (some (.builtin "getset_descriptor.__get__")))
    (ht : takesIn K (.builtin "object.__class__") = some true) : Looks M h (Builtin.ObjectAttr.find (.ref x) (.ref D) "__class__") (.bind (.builtin "getset_descriptor.__get__") (.builtin "object.__class__")) := by
  have l1 := looks_findIn (M := M) X ha
  have l2 : Looks M h (Builtin.ObjectAttr.getOf (some (.builtin "object.__class__"))) (some (.builtin "getset_descriptor.__get__")) := looks_specialIn X hn
  have l3 := looks_takesIn (M := M) X ht
  have l4 : Looks M h (Builtin.ObjectAttr.dataDescriptor? (some (.builtin "object.__class__")) (some (.builtin "getset_descriptor.__get__"))) (some (.builtin "getset_descriptor.__get__", .builtin "object.__class__")) := l3.andThen Looks.now
  exact l1.andThen (l2.andThen (l4.andThen (Looks.tag Looks.now)))
theorem xi_get {tp : Value} {R : Result → Shared → Prop} (X : K.In s.heap) (I : XAt s.heap x ox D) (hm : mroIn K D (.type "object") = some true)
    (h : R (.ok (.ret (.ref D))) s) : codeAny (model prog w) A (.call (.builtin "getset_descriptor.__get__") ⟨[.builtin "object.__class__", .ref x, tp], []⟩) R s := by
  obtain ⟨hh, g, dr, t, os⟩ := s
  have L0 := I.type (M := model prog w)
  have L1 := looks_mroIn (M := model prog w) X hm
  refine codeAny_call_builtin KF.slot_gs.plain KF.entry_gs (KF.slot_gs.check _ _ _ _ _ _ _ _ KF.type_class (KF.args_gs _ _ _) ?_)
  unfold Builtin.«getset_descriptor.__get__» Builtin.Getset_descriptor.descrGet
  rw [dga_obj]
  refine wpAny_bind (wpAny_pure ?_)
  unfold Builtin.Getset_descriptor.descrGetter Builtin.Getset_descriptor.descrCheckInstance Builtin.Getset_descriptor.descrNameAndClass isInstance
  simp only [KF.owner_class]
  repeat lk
  refine ⟨Code.quiet_builtin _ (by decide +kernel), codeAny_builtin KF.entry_class ?_⟩
  unfold Builtin.«object.__class__» shownTypeOf
  repeat lk
  exact h
theorem xi_entry {tk : Tok} {Q : Fin → Shared → Prop} (X : K.In s.heap) (I : XAt s.heap x ox D) (hf : ∀ M : Model, Looks M s.heap (Builtin.ObjectAttr.find (.ref x) (.ref D) "__class__") (.bind (.builtin "getset_descriptor.__get__") (.builtin "object.__class__")))
    (hm : mroIn K D (.type "object") = some true) (h : Q (.done (.ret (.ref D))) s) : wpAny (model prog w) A (Builtin.«object.__getattribute__» ⟨[.ref x, .str "__class__" tk], []⟩) Q E s := by
  obtain ⟨hh, g, d, t, os⟩ := s
  have L0 := I.type (M := model prog w)
  have L1 := hf (model prog w)
  unfold Builtin.«object.__getattribute__»
  refine wpAny_bind (wpAny_pure (wpAny_bind (wpAny_pure (wpAny_bind (L0.at (wpAny_bind (L1.at ?_)))))))
  show wpAny _ _ (holding [.builtin "object.__class__"] (call (.builtin "getset_descriptor.__get__") [.builtin "object.__class__", .ref x, .ref D]) >>= ret) _ _ _
  exact wpAny_bind (wpAny_holding (wpAny_call (xi_get (s := ⟨hh, g, d, t, os⟩) X I hm (wpAny_pure h))))
theorem xi_by {B : String} (FX : ExcAttrFacts B) {tk : Tok} {Q : Value → Shared → Prop} (X : K.In s.heap) (I : XAt s.heap x ox D) (hf : ∀ M : Model, Looks M s.heap (Builtin.ObjectAttr.find (.ref x) (.ref D) "__class__") (.bind (.builtin "getset_descriptor.__get__") (.builtin "object.__class__")))
    (hm : mroIn K D (.type "object") = some true) (hmB : mroIn K D (.type "BaseException") = some true) (hga : findIn K (.ref D) "__getattribute__" = some (some (.builtin "BaseException.__getattribute__"))) (hgt : findIn K (.ref D) "__getattr__" = some none)
    (h : Q (.ref D) s) : wpAny (model prog w) A (getAttrBy (.ref x) (.str "__class__" tk) false false) Q E s := by
  obtain ⟨hh, g, d, t, os⟩ := s
  have L0 := I.type (M := model prog w)
  have L1 := looks_findIn (M := model prog w) X hga
  have L2 := looks_findIn (M := model prog w) X hgt
  unfold getAttrBy
  refine wpAny_holding (wpAny_bind (L0.at (wpAny_bind (L1.at ?_))))
  show wpAny _ _ (getAttrByItsOwn _ _ _ _ _ _) _ _ _
  unfold getAttrByItsOwn hookBefore
  refine wpAny_bind (L2.at ?_)
  have L3 : Looks (model prog w) hh (isInstance (.ref x) (.type "BaseException")) true := L0.andThen (looks_mroIn X hmB)
  have hk : builtinKind "BaseException.__getattribute__" = some .slot := by decide +kernel
  have hsplit : splitId "BaseException.__getattribute__" = some ("BaseException", "__getattribute__") := by decide +kernel
  have hargs := PySem.F.args_bexc_ga (.ref x) (.str "__class__" tk)
  refine wpAny_bind (wpAny_attempt (wpAny_holding ?_))
  show wpAny _ _ (boundAndCalled _ _ _) _ _ _
  unfold boundAndCalled
  rw [FX.ga.bind (.ref x)]
  refine wpAny_bind (wpAny_pure ?_)
  refine wpAny_call (codeAny_call_builtin FX.ga.plain PySem.F.entry_bexc_ga ?_)
  simp only [checkBuiltinCall, hk, hsplit]
  refine wpAny_bind (L3.at ?_)
  rw [if_neg (by decide)]
  have hgo : wpAny (model prog w) A.in1 (Builtin.«object.__getattribute__» ⟨[.ref x] ++ [.str "__class__" tk], []⟩) (fun fin s' => match fin with
      | .done (.ret v) => wpAny (model prog w) A (handedOut v) Q E s'
      | _ => False) (fun _ _ => False) ⟨hh, g, d, t, os⟩ := xi_entry X I hf hm (handed_on rfl h)
  cases hsig : Manifest.signature? "BaseException.__getattribute__" with
  | none =>
    refine wpAny_pure ?_
    refine wpAny_mono hgo (fun fin s' z => ?_) fun _ _ z => z.elim
    rcases fin with (_ | _ | _ | _) | _ <;> first | exact z | exact z.elim
  | some sig =>
    simp only [argsOk, hsig] at hargs
    have hargs' : Bind.checkArgs "BaseException.__getattribute__" sig ⟨[.ref x] ++ [.str "__class__" tk], []⟩ = pure () := hargs
    show wpAny _ _ (Bind.checkArgs "BaseException.__getattribute__" sig ⟨[.ref x] ++ [.str "__class__" tk], []⟩) _ _ _
    rw [hargs']
    refine wpAny_pure ?_
    refine wpAny_mono hgo (fun fin s' z => ?_) fun _ _ z => z.elim
    rcases fin with (_ | _ | _ | _) | _ <;> first | exact z | exact z.elim
theorem xi_class {B : String} (FX : ExcAttrFacts B) {Q : Option Value → Shared → Prop} (X : K.In s.heap) (I : XAt s.heap x ox D) (hf : ∀ M : Model, Looks M s.heap (Builtin.ObjectAttr.find (.ref x) (.ref D) "__class__") (.bind (.builtin "getset_descriptor.__get__") (.builtin "object.__class__")))
    (hm : mroIn K D (.type "object") = some true) (hmB : mroIn K D (.type "BaseException") = some true) (hga : findIn K (.ref D) "__getattribute__" = some (some (.builtin "BaseException.__getattribute__"))) (hgt : findIn K (.ref D) "__getattr__" = some none)
    (h : Q (some (.ref D)) { s with toks := s.toks + 1 }) : wpAny (model prog w) A (getAttr? (.ref x) "__class__") Q E s := by
  unfold getAttr? getAttrBy?
  refine wpAny_bind (wpAny_mkText (wpAny_bind (wpAny_attempt ?_)))
  exact xi_by (s := { s with toks := s.toks + 1 }) FX X I hf hm hmB hga hgt (wpAny_pure h)
structure ExcK (K : PySem.W.Frag) (D : Addr) : Prop where
  cls : (clsIn K D).isSome = true
  find : findIn K (.ref D) "__class__" = some (some (.builtin "object.__class__"))
  get : specialIn K (.builtin "object.__class__") "__get__" = some (some (.builtin "getset_descriptor.__get__"))
  takes : takesIn K (.builtin "object.__class__") = some true
  obj : mroIn K D (.type "object") = some true
  bexc : mroIn K D (.type "BaseException") = some true
  ga : findIn K (.ref D) "__getattribute__" = some (some (.builtin "BaseException.__getattribute__"))
  gt : findIn K (.ref D) "__getattr__" = some none
theorem isType_in {C : Addr} {M : Model} {h : Heap} (X : K.In h) (e : (clsIn K C).isSome = true) : Looks M h (isType (.ref C)) true := by
  unfold clsIn at e
  split at e
  · rename_i ho
    intro A' Q' E' s' k q
    unfold isType loadHead
    exact wpAny_bind (wpAny_loadPart (k _ _ (X _ _ ho)) (wpAny_pure q))
  · cases e
theorem xi_nested {B : String} (FX : ExcAttrFacts B) (EK : ExcK K D) {c : Value} {b : Bool} {dep : Int} {tk : Tok} {Q : Fin → Shared → Prop} (X : K.In s.heap) (I : XAt s.heap x ox D) (hty : Looks (model prog w) s.heap (typeOf c) (.type "type")) (his : Looks (model prog w) s.heap (isType c) true)
    (hsub : Looks (model prog w) s.heap (isSubtype (.ref D) c) b) (hself : (Value.ref D == c) = true → b = true) (h : ∀ t, Q (.done (.ret (.bool b))) { s with toks := t }) :
    wpAny (model prog w) A (Builtin.«isinstance.nested» ⟨[.ref x, c, .int dep tk], []⟩) Q E s := by
  have hisD := isType_in (M := model prog w) X EK.cls
  obtain ⟨h0, g, d, tt, os⟩ := s
  have L0 := I.type (M := model prog w)
  have LI : Looks (model prog w) h0 (isInstance (.ref x) c) b := L0.andThen hsub
  unfold Builtin.«isinstance.nested»
  refine wpAny_bind (L0.at ?_)
  by_cases hq : (Value.ref D == c) = true
  · rw [if_pos hq]
    have hb := hself hq
    subst hb
    refine wpAny_bind (wpAny_rule ?_)
    exact wpAny_pure (h tt)
  · rw [if_neg hq]
    refine wpAny_bind (hty.at ?_)
    rw [if_pos (by decide)]
    k_delta "plainIsInstance"
    refine wpAny_bind (wpAny_bind (his.at ?_))
    simp only [Bool.not_true, Bool.false_eq_true, if_false]
    refine wpAny_bind (LI.at ?_)
    cases b with
    | true =>
      simp only [if_true]
      exact wpAny_pure (wpAny_pure (h tt))
    | false =>
      simp only [Bool.false_eq_true, if_false]
      refine wpAny_bind (xi_class FX X I (fun _ => xi_find X EK.find EK.get EK.takes) EK.obj EK.bexc EK.ga EK.gt ?_)
      refine wpAny_bind (hisD.at ?_)
      simp only [Bool.not_true, Bool.false_eq_true, if_false]
      refine wpAny_bind (wpAny_rule ?_)
      refine hsub.at ?_
      first
        | exact wpAny_pure (h _)
        | exact wpAny_pure (wpAny_pure (h _))
        | exact wpAny_bind (wpAny_pure (wpAny_pure (h _)))
theorem xi_call {B : String} (FX : ExcAttrFacts B) (EK : ExcK K D) {c : Value} {b : Bool} {Q : Value → Shared → Prop} (X : K.In s.heap) (I : XAt s.heap x ox D) (hty : ∀ (M : Model) h', K.In h' → Looks M h' (typeOf c) (.type "type")) (his : ∀ (M : Model) h', K.In h' → Looks M h' (isType c) true)
    (hsub : ∀ (M : Model) h', K.In h' → Looks M h' (isSubtype (.ref D) c) b) (hself : (Value.ref D == c) = true → b = true) (h : ∀ t, Q (.bool b) { s with toks := t }) : wpAny (model prog w) A (call (.builtin "isinstance") [.ref x, c]) Q E s :=
  call_isinstance (S := fun _ R s => (K.In s.heap ∧ XAt s.heap x ox D) ∧ ∀ t, R (.ok (.ret (.bool b))) { s with toks := t })
    (fun _ _ _ _ _ hs => isinstance_outer (xi_nested FX EK hs.1.1 hs.1.2 (hty _ _ hs.1.1) (his _ _ hs.1.1) (hsub _ _ hs.1.1) hself hs.2) (by intro q; cases q)) ⟨⟨X, I⟩, h⟩
end
end L2
namespace L2
open PySem PySem.Spec PySem.Calls PyProof.Rows PySem.W
section
variable {prog : Program} {w : World} {A : Around} {E : Value → Shared → Prop} {s : Shared} {K : PySem.W.Frag} {x C D : Addr} {ox : Obj}
theorem xm_match {b : Bool} {Q : Bool → Shared → Prop} (X : K.In s.heap) (I : XAt s.heap x ox D) (hC : (clsIn K C).isSome = true) (hnt : instIn K (.ref C) (.type "tuple") = some false) (hb : mroIn K C (.type "BaseException") = some true) (hsub : mroIn K D (.ref C) = some b)
    (h : Q b s) : wpAny (model prog w) A (excMatches (.ref x) (.ref C)) Q E s := by
  obtain ⟨hh, g, d, t, os⟩ := s
  have L0 := I.type (M := model prog w)
  have L1 := looks_instIn (M := model prog w) X hnt
  have L2 := isType_in (M := model prog w) X hC
  have L3 := looks_mroIn (M := model prog w) X hb
  have L4 := looks_mroIn (M := model prog w) X hsub
  have L5 : Looks (model prog w) hh (isExcClass (.ref C)) true := L2.andThen L3
  unfold excMatches
  refine wpAny_bind (L1.at ?_)
  rw [if_neg (by decide)]
  refine wpAny_bind (wpAny_pure ?_)
  simp only [List.forIn_cons, List.forIn_nil]
  refine wpAny_bind (wpAny_bind (wpAny_bind (L5.at ?_)))
  rw [if_neg (by decide)]
  refine wpAny_pure (wpAny_pure ?_)
  refine wpAny_bind (L0.at ?_)
  refine wpAny_bind (wpAny_bind (wpAny_bind (L4.at ?_)))
  cases b with
  | true =>
    rw [if_pos rfl]
    exact wpAny_pure (wpAny_pure (wpAny_pure h))
  | false =>
    rw [if_neg (by decide)]
    exact wpAny_pure (wpAny_pure (wpAny_pure h))
end
def excO (e D : Addr) : HO := .ext fun h => ∃ ox, XAt h e ox D
section
variable {X : Cx} {pins : List (Addr × Obj)} {σ : St} {H : Hp} {s : Shared} {e : Addr} {o : HO}
theorem Inv.track (I : Inv X pins σ H s) (he : H e = none) (hs0 : X.s₀.heap.get? e = none) (nl : e ≠ X.env.locals) (nc : ∀ x c, X.env.cells.lookup x = some c → c ≠ e) (np : ∀ p ∈ X.pn ++ pins, p.1 ≠ e)
    (ho : ObjOk X.prog X.w (upd H e o) s.heap e o) : Inv X pins σ (upd H e o) s := by
  have ne : ∀ b u, H b = some u → b ≠ e := fun b u h z => by rw [z, he] at h; cases h
  refine ⟨I.ok, I.os, I.bare, ⟨I.base.keep, I.base.slot, fun b u h n hx => ?_, I.base.there, fun b xs h => ?_, fun b u v h => ?_, fun b ps h => ?_⟩, I.loc, I.cell, by rw [upd_ne (Ne.symm nl)]; exact I.free, fun x c h => by rw [upd_ne (nc x c h)]; exact I.freeC x c h, fun p hp => ?_, fun a u h => ?_, I.len⟩
  · rw [upd_ne fun z => by rw [z, hs0] at h; cases h]
    exact I.base.free b u h n hx
  · have := I.base.tups b xs h
    rw [upd_ne (ne b _ this)]
    exact this
  · have := I.base.frzs b u v h
    rw [upd_ne (ne b _ this)]
    exact this
  · obtain ⟨more, h1⟩ := I.base.tbls b ps h
    exact ⟨more, by rw [upd_ne (ne b _ h1)]; exact h1⟩
  · obtain ⟨a1, a2, a3⟩ := I.pin p hp
    exact ⟨a1, by rw [upd_ne (np p hp)]; exact a2, a3⟩
  · by_cases ha : a = e
    · subst ha
      rw [upd_same] at h
      cases h
      exact ho
    · rw [upd_ne ha] at h
      exact (I.hok a u h).stay (fun b w' _ q => q) (fun b q => by rw [upd_ne (ne b _ q)]; exact q) fun b xs q => by rw [upd_ne (ne b _ q)]; exact q
theorem name_goes {M : Model} {A : Around} {E : Value → Shared → Prop} {i : Nat} {n : Str} {pos : Pos} {Q : Unit → Shared → Prop} (I : Inv X pins σ H s) (hN : X.N.Nodup) (hi : X.N[i]? = some n) (hk : X.env.kindOf n = some .local)
    (h : ∀ s', Inv X pins (σ.set i none) H s' → Q () s') : wpAny M A (do bindName X.env n .none; unbindBehindTheSuite X.env n pos) Q E s := by
  obtain ⟨m, hn, hl⟩ := id I.loc
  have hcls : (X.env.scope.kind == .class || (X.env.scope.kind == .module && X.env.locals != X.env.globals)) = false := by rw [I.ok.kind]; rfl
  have cne := I.cne
  obtain ⟨oL, _, _, hoL, _⟩ := id hn
  have lo : ∀ b o, X.s₀.heap.get? b = some o → b ≠ X.env.locals := fun b o e => Nat.ne_of_lt (Nat.lt_of_lt_of_le (Heap.lt_size e) I.ok.above)
  refine wpAny_nameGoes_keeps hk hn hcls fun h' v hn' hs => h _ ⟨I.ok, I.os, I.bare, ⟨fun b o e n hb hx => (hs.2 b (lo b o e)).trans (I.base.keep b o e n hb hx), fun b o e n hb hx => ?_, I.base.free, fun b o e hx => ?_, I.base.tups, I.base.frzs, I.base.tbls⟩, ⟨_, hn', fun j y v' e1 e2 e3 => ?_⟩, fun y c e => ?_, I.free, I.freeC, fun p hp => ?_, ?_, by simpa using I.len⟩
  · obtain ⟨sl, e1⟩ := I.base.slot b o e n hb hx
    exact ⟨sl, (hs.2 b (lo b o e)).trans e1⟩
  · obtain ⟨o', e1⟩ := I.base.there b o e hx
    exact ⟨o', (hs.2 b (lo b o e)).trans e1⟩
  · by_cases hj : j = i
    · subst hj
      rw [List.getElem?_set] at e2
      split at e2
      · split at e2 <;> cases e2
      · rename_i hz
        exact absurd rfl hz
    · rw [List.getElem?_set_ne (Ne.symm hj)] at e2
      obtain ⟨u', r', q⟩ := hl j y v' e1 e2 e3
      refine ⟨u', r', ?_⟩
      rcases q with ⟨k, e⟩ | ⟨k, c, e, z⟩
      · refine .inl ⟨k, ?_⟩
        have : y ≠ n := fun e => hj (nodup_ix hN e1 (e ▸ hi))
        simp [this, e]
      · exact .inr ⟨k, c, e, z.sameBut hs (cne y c e)⟩
  · obtain ⟨w', z⟩ := I.cell y c e
    exact ⟨w', z.sameBut hs (cne y c e)⟩
  · obtain ⟨e, n, ne, nf, d⟩ := I.pin p hp
    exact ⟨(hs.2 p.1 ne).trans e, n, ne, nf, d⟩
  · exact I.hok.keptAt fun b o u h1 h2 => (hs.2 b fun z => by rw [z, I.free] at h1; cases h1).trans h2
end
structure Fl (X : Cx) (pins : List (Addr × Obj)) (σ : St) (H0 : Hp) (s0 : Shared) (H' : Hp) (e : Addr) (b1 : Heap) (s' : Shared) : Prop where
  I0 : Inv X pins σ H0 s0
  os : s'.os = s0.os
  bare : AllBare s'.gens
  un : Un (frs X.stack) [] H0 H' s0.heap s'.heap
  hok : HOk X.prog X.w H' s'.heap
  he : H' e = none
  hes : s0.heap.get? e = none
  stay : b1.StaysIn s'.heap
  ff : s'.heap.FunFrames b1 X.stack
  cov : ∀ b o, ((∃ u, s0.heap.get? b = some u) ∨ ∃ u, H' b = some u) → b ∉ frs X.stack → s'.heap.get? b = some o → b1.get? b = some o
section
variable {X : Cx} {pins : List (Addr × Obj)} {σ : St} {H0 H' : Hp} {s0 s' : Shared} {e : Addr} {b1 h' : Heap}
theorem Fl.inv (F : Fl X pins σ H0 s0 H' e b1 s') : Inv X pins σ H' s' := F.I0.call' (ch := []) F.os F.un F.hok F.bare fun b z => absurd z (by simp)
theorem Fl.move (F : Fl X pins σ H0 s0 H' e b1 s') (st : b1.StaysIn h') (ff : h'.FunFrames b1 X.stack) (us : s'.heap.UpToSlots h') : Fl X pins σ H0 s0 H' e b1 { s' with heap := h' } := by
  have keepC : ∀ b o, ((∃ u, s0.heap.get? b = some u) ∨ ∃ u, H' b = some u) → s'.heap.get? b = some o → b ∉ frs X.stack → b1.get? b = some o ∧ h'.get? b = some o := fun b o h1 h2 n => by
    have := F.cov b o h1 n h2
    exact ⟨this, st b o this⟩
  have slotS : ∀ b o, s'.heap.get? b = some o → b ∈ frs X.stack → ∃ sl, h'.get? b = some { o with slots := sl } := fun b o h n => by
    obtain ⟨_, o', ho', hd⟩ := F.ff.mem n
    rw [h] at ho'
    cases ho'
    exact us b o h hd
  have trk : ∀ b o, H' b = some o → b ∉ frs X.stack := fun b o h z => by
    obtain ⟨_, o', ho', _⟩ := F.I0.stack.mem z
    have := F.un.free b o' ho' (F.I0.stkFree b z) (by simp)
    rw [h] at this
    cases this
  refine ⟨F.I0, F.os, F.bare, ⟨fun b o h n hb hx => ?_, fun b o h n hb hx => ?_, F.un.free, fun b o h hx => ?_, F.un.tups, F.un.frzs, F.un.tbls⟩, ?_, F.he, F.hes, st, ff, fun b o h n h2 => ?_⟩
  · exact (keepC b o (.inl ⟨_, h⟩) (F.un.keep b o h n hb hx) hb).2
  · obtain ⟨sl, e1⟩ := F.un.slot b o h n hb hx
    obtain ⟨sl2, e2⟩ := slotS b _ e1 hb
    exact ⟨sl2, e2⟩
  · obtain ⟨o1, e1⟩ := F.un.there b o h hx
    by_cases hb : b ∈ frs X.stack
    · obtain ⟨sl, e2⟩ := slotS b _ e1 hb
      exact ⟨_, e2⟩
    · exact ⟨_, (keepC b o1 (.inl ⟨_, h⟩) e1 hb).2⟩
  · exact F.hok.keptAt fun b o u h1 h2 => (keepC b u (.inr ⟨_, h1⟩) h2 (trk b o h1)).2
  · have : ∃ u, s'.heap.get? b = some u := by
      rcases h with ⟨u, h⟩ | ⟨u, h⟩
      · exact F.un.there b u h (by simp)
      · exact (F.hok b u h).there'
    obtain ⟨u, h1⟩ := this
    obtain ⟨h4, h5⟩ := keepC b u h h1 n
    have h2' : h'.get? b = some o := h2
    rw [h2'] at h5
    cases h5
    exact h4
end
end L2
namespace L2
open PySem PySem.Spec PySem.Calls PyProof.Rows PySem.W
abbrev Cx.inSuite (X : Cx) (Ax : Around) : Cx := { X with A := Ax, calm := false, xe := fun _ _ => False }
abbrev Cx.tried (X : Cx) (pn : List (Addr × Obj)) (Ex : Value → Shared → Prop) : Cx := { X with pn := pn, xe := Ex }
section
variable {X : Cx} {pins pn : List (Addr × Obj)} {σ : St} {H : Hp} {s : Shared} {Ax : Around} {Ex : Value → Shared → Prop}
theorem Inv.suite (I : Inv X pins σ H s) (hA : Ax.frames = X.A.frames) : Inv (X.inSuite Ax) pins σ H s :=
  ⟨⟨I.ok.mod, I.ok.kind, I.ok.glob, I.ok.blt, I.ok.above, I.ok.inj, I.ok.has, I.ok.cab, fun z => Bool.noConfusion z, hA.trans I.ok.frames, I.ok.stk, I.ok.exf, I.ok.bs, I.ok.bsz, I.ok.noex, I.ok.exfs, I.ok.funs, I.ok.frf⟩, I.os, I.bare, I.base, I.loc, I.cell, I.free, I.freeC, I.pin, I.hok, I.len⟩
theorem Inv.unsuite (I : Inv (X.inSuite Ax) pins σ H s) (ok : X.Ok) : Inv X pins σ H s := ⟨ok, I.os, I.bare, I.base, I.loc, I.cell, I.free, I.freeC, I.pin, I.hok, I.len⟩
theorem Inv.tried (I : Inv X pins σ H s) : Inv (X.tried (X.pn ++ pins) Ex) [] σ H s :=
  ⟨⟨I.ok.mod, I.ok.kind, I.ok.glob, I.ok.blt, I.ok.above, I.ok.inj, I.ok.has, I.ok.cab, I.ok.hd, I.ok.frames, I.ok.stk, I.ok.exf, I.ok.bs, I.ok.bsz, I.ok.noex, I.ok.exfs, I.ok.funs, I.ok.frf⟩, I.os, I.bare, I.base, I.loc, I.cell, I.free, I.freeC, fun p hp => I.pin p (by simpa using hp), I.hok, I.len⟩
theorem Inv.untried {pins' : List (Addr × Obj)} (I : Inv (X.tried (X.pn ++ pins) Ex) pins' σ H s) : Inv X pins σ H s :=
  ⟨⟨I.ok.mod, I.ok.kind, I.ok.glob, I.ok.blt, I.ok.above, I.ok.inj, I.ok.has, I.ok.cab, I.ok.hd, I.ok.frames, I.ok.stk, I.ok.exf, I.ok.bs, I.ok.bsz, I.ok.noex, I.ok.exfs, I.ok.funs, I.ok.frf⟩, I.os, I.bare, I.base, I.loc, I.cell, I.free, I.freeC, fun p hp => I.pin p (List.mem_append_left _ hp), I.hok, I.len⟩
end
def PHs (X : Cx) (hs : List ExceptHandler) (th : Addr → TS) : Prop :=
  ∀ (pins : List (Addr × Obj)) (σ : St) (H0 : Hp) (s0 : Shared) (H' : Hp) (e C t : Addr) (b1 : Heap) (s' : Shared) (D : Ends), Fl X pins σ H0 s0 H' e b1 s' → Heap.FlyingW b1 X.stack e (.ref C) (.ref t) s'.heap → th C D σ H' →
    wpAny (model X.prog X.w) X.A (handleBy (.ref e) X.env hs) (SP X pins D) X.xe s'
theorem phs_nil {X : Cx} : PHs X [] fun _ _ _ _ => False := fun _ _ _ _ _ _ _ _ _ _ _ _ _ h => h.elim
def Ends.as (D : Ends) (i : Nat) : Ends := { nx := fun σ H => D.nx (σ.set i none) H, rt := D.rt, bk := fun σ H => D.bk (σ.set i none) H, ct := fun σ H => D.ct (σ.set i none) H }
def tExc (K : PySem.W.Frag) (C' : Addr) (i : Nat) (tb : TS) (tr : Addr → TS) : Addr → TS := fun C D σ H => ∃ b, mroIn K C (.ref C') = some b ∧ if b = true then ∀ e, H e = none → tb (D.as i) (σ.set i (some (.ref e))) (upd H e (excO e C)) else tr C D σ H
theorem phs_as {X : Cx} {x n : Str} {C' : Addr} {np pos : Pos} {i : Nat} {b₀ : Stmt} {suite : List Stmt} {rest : List ExceptHandler} {tb : TS} {tr : Addr → TS} (K : PySem.W.Frag) (hN : X.N.Nodup) (hi : X.N[i]? = some n) (hk : X.env.kindOf n = some .local)
    (hg : Gl X x) (hm : X.mg x = some (.ref C')) (hC : (clsIn K C').isSome = true) (hnt : instIn K (.ref C') (.type "tuple") = some false) (hbx : mroIn K C' (.type "BaseException") = some true)
    (hb : ∀ Ax : Around, PSs (X.inSuite Ax) (b₀ :: suite) tb) (hr : PHs X rest tr) (hK : X.K = K := by rfl) (hex : X.ex = [] := by rfl) (hdb : (x == ("__debug__" : Str)) = false := by decide) :
    PHs X (.ExceptHandler (some (.Name x np)) (some n) (b₀ :: suite) pos :: rest) (tExc K C' i tb tr) := by
  subst hK
  intro pins σ H0 s0 H' e C t b1 s' D F fly h
  obtain ⟨b, hb1, h⟩ := h
  have I := F.inv
  have IS : Inv (X.inSuite (X.A.mark (some (.ref e)))) pins σ H' s' := I.suite rfl
  refine wpAny_handleBy_cons (codeAny_handlers_test ?_) (by intro q; cases q)
  refine ld_glob (X := X.inSuite (X.A.mark (some (.ref e)))) IS hg hm ?_ hdb
  obtain ⟨oe, vs, he, hc, _⟩ := fly.first
  refine xm_match (x := e) (D := C) (ox := oe) I.kIn ⟨he, hc⟩ hC hnt hbx hb1 ?_
  cases b with
  | false =>
    show wpAny _ _ (handleBy _ _ _) _ _ _
    exact hr pins σ H0 s0 H' e C t b1 s' D F fly h
  | true =>
    have h1 := h
    rw [if_pos rfl] at h1
    show codeAny _ _ (.handlers _ _ _) _ _
    refine codeAny_handlers_suite_as ?_
    refine lands_againW fly fun h6 fly6 sm6 => ?_
    have F6 := F.move fly6.1 fly6.2.2.1 sm6
    have I6 := F6.inv
    obtain ⟨oe6, vs6, he6, hc6, _⟩ := fly6.first
    have live : ∀ b o, s0.heap.get? b = some o → b ≠ e := fun b o h z => by rw [z, F.hes] at h; cases h
    have I7 : Inv X pins σ (upd H' e (excO e C)) { s' with heap := h6 } := by
      refine I6.track F.he ?_ ?_ (fun y c hy => ?_) (fun p hp => ?_) ⟨⟨oe6, he6, hc6⟩, ⟨oe6, he6⟩, ?_⟩
      · cases z : X.s₀.heap.get? e with
        | none => rfl
        | some o =>
          obtain ⟨u, hu⟩ := F.I0.base.there e o z (by rw [hex]; simp)
          rw [F.hes] at hu
          cases hu
      · obtain ⟨m, ⟨o, _, _, ho, _⟩, _⟩ := F.I0.loc
        exact (live _ o ho).symm
      · obtain ⟨v, o, ho, _⟩ := F.I0.cell y c hy
        exact live c o ho
      · exact live p.1 p.2 (F.I0.pin p hp).1
      · rintro h1' h2' ⟨ox, a1, a2⟩ k
        exact ⟨ox, k ox a1, a2⟩
    refine store_ok (X := X) (v := .ref e) I7 hN hi (.inl hk) rfl (fun s8 I8 => ?_) (.inr hk)
    have I8' : Inv (X.inSuite (X.A.mark (some (.ref e)))) pins (σ.set i (some (.ref e))) (upd H' e (excO e C)) s8 := I8.suite rfl
    refine wpAny_mono (hb (X.A.mark (some (.ref e))) pins s8 _ _ (D.as i) I8' (h1 e F.he)) (fun f s9 h9 => ?_) fun _ _ z => z.elim
    show wpAny _ _ (do bindName X.env n .none; unbindBehindTheSuite X.env n pos) _ _ _
    cases f with
    | next =>
      obtain ⟨σ', H9, I9, q⟩ := h9
      exact name_goes (I9.unsuite I.ok) hN hi hk fun s10 I10 => ⟨_, _, I10, q⟩
    | brk =>
      obtain ⟨σ', H9, I9, q⟩ := h9
      exact name_goes (I9.unsuite I.ok) hN hi hk fun s10 I10 => ⟨_, _, I10, q⟩
    | cont =>
      obtain ⟨σ', H9, I9, q⟩ := h9
      exact name_goes (I9.unsuite I.ok) hN hi hk fun s10 I10 => ⟨_, _, I10, q⟩
    | ret u =>
      obtain ⟨v, σ', H9, I9, r, q⟩ := h9
      exact name_goes (I9.unsuite I.ok) hN hi hk fun s10 I10 => ⟨v, _, _, I10, r, q⟩
def xTry (N : Nat) (th : Addr → TS) (D : Ends) : XK := fun c _ H' => ∃ C, c = .ref C ∧ ∀ σ' : St, σ'.length = N → th C D σ' H'
def tTry (N : Nat) (tb : XK → TS) (th : Addr → TS) : TS := fun D σ H => tb (xTry N th D) D σ H
theorem ps_try {X : Cx} {body : List Stmt} {h₀ : ExceptHandler} {hs : List ExceptHandler} {pos : Pos} {tb : XK → TS} {th : Addr → TS} (hst : X.stack = X.env :: X.outer) (hfr : X.env.frame = some X.env.locals)
    (hb : ∀ (pn : List (Addr × Obj)) (Ex : Value → Shared → Prop) (E1 : XK), Passes (CX1 X.prog X.w) (X.tried pn Ex) E1 → PSs (X.tried pn Ex) body (tb E1)) (hh : PHs X (h₀ :: hs) th) :
    PS X (.Try body (h₀ :: hs) [] [] pos) (tTry X.N.length tb th) := by
  intro pins s σ H D I h
  refine wpAny_Try_except ?_
  have hp : Passes (CX1 X.prog X.w) (X.tried (X.pn ++ pins) fun e s₁ => wpAny (model X.prog X.w) X.A (noteFrame e X.env) (fun _ s₂ => wpAny (model X.prog X.w) X.A (setFlight e none) (fun _ s₃ => wpAny (model X.prog X.w) X.A (handleBy e X.env (h₀ :: hs)) (SP X pins D) X.xe s₃) X.xe s₂) X.xe s₁) (xTry X.N.length th D) := by
    intro pins' σ' H0 s0 u s' I' hx
    obtain ⟨e, t, cls, H', b1, rfl, hos, hbare, un, hok, he, hes, hfl, cov, C, rfl, q⟩ := hx
    have I2 : Inv X pins σ' H0 s0 := I'.untried
    have F : Fl X pins σ' H0 s0 H' e b1 s' := ⟨I2, hos, hbare, un, hok, he, hes, hfl.1, hfl.2.2.1, cov⟩
    have hfl' : Heap.FlyingW b1 (X.env :: X.outer) e (.ref C) (.ref t) s'.heap := by
      have := hfl
      rw [show (X.tried (X.pn ++ pins) fun e s₁ => wpAny (model X.prog X.w) X.A (noteFrame e X.env) (fun _ s₂ => wpAny (model X.prog X.w) X.A (setFlight e none) (fun _ s₃ => wpAny (model X.prog X.w) X.A (handleBy e X.env (h₀ :: hs)) (SP X pins D) X.xe s₃) X.xe s₂) X.xe s₁).stack = X.stack from rfl, hst] at this
      exact this
    refine wpAny_looks_onW (by rw [I.ok.frames, hst]) hfr hfl' fun h4 held4 sm4 => ?_
    have F4 := F.move held4.1 (by rw [hst]; exact held4.2.2.1) sm4
    refine wpAny_landsW held4 fun h5 fly5 sm5 => ?_
    have F5 := F4.move fly5.1 (by rw [hst]; exact fly5.2.2.1) sm5
    exact hh pins σ' H0 s0 H' e C t b1 _ D F5 (by rw [hst]; exact fly5) (q σ' I2.len)
  refine wpAny_mono (hb (X.pn ++ pins) _ (xTry X.N.length th D) hp [] s σ H D I.tried h) (fun f s1 h1 => ?_) fun _ _ z => z
  cases f with
  | next =>
    obtain ⟨σ', H', I1, q⟩ := h1
    exact wpAny_execs_nil ⟨σ', H', I1.untried, q⟩
  | brk =>
    obtain ⟨σ', H', I1, q⟩ := h1
    exact ⟨σ', H', I1.untried, q⟩
  | cont =>
    obtain ⟨σ', H', I1, q⟩ := h1
    exact ⟨σ', H', I1.untried, q⟩
  | ret u =>
    obtain ⟨v, σ', H', I1, r, q⟩ := h1
    exact ⟨v, σ', H', I1.untried, r, q⟩
def rIsExc (K : PySem.W.Frag) : List V → Hp → VK → Prop := fun xs H Q => ∃ (e D : Addr) (c : V) (b : Bool), xs = [.ref e, c] ∧ H e = some (excO e D) ∧ ExcK K D ∧
  ((∃ C, c = .ref C ∧ (clsIn K C).isSome = true ∧ typeIn K (.ref C) = some (.type "type") ∧ mroIn K D (.ref C) = some b ∧ (D = C → b = true)) ∨ (∃ T, c = .ty T ∧ typeOf (.type T) = pure (.type "type") ∧ mroIn K D (.type T) = some b)) ∧ Q (.bl b) H
theorem call_isExcK {X : Cx} (K : PySem.W.Frag) {B : String} (FX : ExcAttrFacts B) (hK : X.K = K := by rfl) : CallR X (.builtin "isinstance") (rIsExc K) := by
  subst hK
  intro pins s σ H xs us Q I r h
  obtain ⟨e, D, c, b, rfl, he, EK, hc, q⟩ := h
  cases r with
  | cons r1 rr =>
    cases rr with
    | cons r2 rr =>
      cases rr
      cases r1
      obtain ⟨ox, hx⟩ := (show ObjOk X.prog X.w H s.heap e (excO e D) from I.hok e _ he).1
      have fin : ∀ t, EP X pins σ Q (.bool b) { s with toks := t } := fun t => ⟨.bl b, H, I.tok t, rfl, q⟩
      rcases hc with ⟨C, rfl, h1, h2, h3, h4⟩ | ⟨T, rfl, h1, h2⟩
      · cases r2
        refine xi_call FX EK I.kIn hx (fun _ _ X' => looks_typeIn X' h2) (fun _ _ X' => isType_in X' h1) (fun _ _ X' => looks_mroIn X' h3) (fun z => h4 ?_) fin
        exact Value.ref.inj (beq_iff_eq.mp z)
      · cases r2
        refine xi_call FX EK I.kIn hx (fun _ _ _ => Looks.of_pure h1) (fun _ _ _ => Looks.of_pure rfl) (fun _ _ X' => looks_mroIn X' h2) (fun z => ?_) fin
        cases beq_iff_eq.mp z
end L2
namespace L2
open PySem PySem.Spec PySem.Calls PyProof.Rows PySem.W
theorem FnOk.or {P : Program} {w : World} {K : PySem.W.Frag} {mg : Str → Option Value} {base : Heap} {CX : CXT} {k : Nat} {f : Addr} {fd : FuncData} {ps : List Str} {sp sp' : Sp} (F : FnOk P w K mg base CX k f fd ps sp) (G : FnOk P w K mg base CX k f fd ps sp') :
    FnOk P w K mg base CX k f fd ps fun vs H Q E => sp vs H Q E ∨ sp' vs H Q E :=
  ⟨fun vs H Q E h => h.elim (F.len vs H Q E) (G.len vs H Q E), fun A outer s H args us vs Q E hr e hb hv h => h.elim (F.run A outer s H args us vs Q E hr e hb hv) (G.run A outer s H args us vs Q E hr e hb hv)⟩
theorem FnOk.up {P : Program} {w : World} {K : PySem.W.Frag} {mg : Str → Option Value} {base : Heap} {CX : CXT} {k : Nat} {f : Addr} {fd : FuncData} {ps : List Str} {sp : Sp} (F : FnOk P w K mg base CX0 k f fd ps sp) : FnOk P w K mg base CX k f fd ps sp :=
  ⟨F.len, fun A outer s H args us vs Q E hr e hb hv h => codeAny_mono (F.run A outer s H args us vs Q E hr e hb hv h) fun r s' hq => by
    cases r with
    | error e => exact False.elim hq
    | ok fl => cases fl <;> exact hq⟩
end L2
namespace L2
open PySem PySem.Spec PyProof.Rows
theorem noKeys_tuple : typeLookup (.type "tuple") "keys" = pure none := by rw [typeLookup_type, builtinLookup_eq_fast]; kernel_rfl
theorem keys_of_tuple {P : Program} {w : World} {A : Around} {E : Value → Shared → Prop} {s : Shared} {a : Addr} {o : Obj} {xs : Array Value} {k : Nat} {Q : Option Value → Shared → Prop}
    (ho : s.heap.get? a = some o) (hc : o.cls = .type "tuple") (hs : o.data = .seq xs k) (hd : o.dict = none) (hA : A.handled = none)
    (q : ∀ h' tk, (∀ b u, s.heap.get? b = some u → h'.get? b = some u) → Q none { s with heap := h', toks := tk }) : wpAny (model P w) A (getAttr? (.ref a) "keys") Q E s := by
  obtain ⟨c, dct, dat, sl⟩ := o
  simp only at hc hs hd
  subst hc hs hd
  obtain ⟨hp, g, d, tk, os⟩ := s
  have ty : ∀ tk', (⟨hp, g, d, tk', os⟩ : Shared).TypeIs (.ref a) "tuple" := fun _ => ⟨_, ho, rfl⟩
  have z1 := sub_AttributeError
  have z3 := F.slot_tuple_getattribute.lookup
  have z4 := F.slot_tuple_getattribute.bind (.ref a)
  have z5 := am_tuple_getattr_none
  unfold getAttr? getAttrBy? getAttrBy
  repeat (any_goals (first | assumption | exact ty _ | ((with_reducible show wpAny _ _ (call (Value.builtin "tuple.__getattribute__") _ _) _ _ _); refine call_meets F.slot_tuple_getattribute (ty _) am_entry_tuple_getattribute (F.args_tuple_getattribute_2 _ _) (meets_getattribute_miss_tuple a xs k sl "keys" _ noKeys_tuple (by decide +kernel) (by decide +kernel)) ⟨ho, hA, fun h' tk' e hx' => ?_⟩) | wp_step))
  obtain ⟨t', u', he⟩ := hx'.there
  have tE : (⟨h', g, d, tk', os⟩ : Shared).TypeIs (.ref e) "AttributeError" := ⟨_, he, rfl⟩
  show wpAny _ _ (getattributeRaised _ _ _ _ _ _ _) _ _ _
  unfold getattributeRaised
  repeat (any_goals (first | assumption | wp_step))
  exact q h' tk' hx'.keeps
def rDictT : List V → Hp → VK → Prop := fun xs H Q => ∃ (l : Addr) (ps : List Addr) (kvs : List (Key × V)), xs = [.ref l] ∧ H l = some (.tup (ps.map V.ref)) ∧ PairsAt H ps kvs ∧ (kvs.map (·.1)).Nodup ∧ kvs.length ≤ 1000 ∧
  ∀ d, H d = none → Q (.ref d) (upd H d (.dK kvs))
theorem call_dict_tup {X : Cx} (hc : X.calm = true) : CallR X (.type "dict") rDictT := by
  intro pins s σ H xs us Q I r h
  obtain ⟨l, ps, kvs, rfl, hL, hP, nd, hz, q⟩ := h
  obtain ⟨u, rfl, ru⟩ := vals1 r
  cases ru
  obtain ⟨hl, its, rv, pl, ol', hol', hdl⟩ := (show ObjOk X.prog X.w H s.heap l (.tup _) from I.hok l _ hL)
  obtain ⟨ol, hol, hcl, nl, hsl⟩ := id pl
  rw [hol] at hol'
  have e0 := Option.some.inj hol'
  subst e0
  obtain ⟨vs, hv, hT⟩ := hP.real I
  have hA := I.ok.hd hc
  refine callType_codes (Q₁ := fun ob s1 => ob = .ref s.heap.objs.size ∧ s1 = { s with heap := s.heap.push { cls := .type "dict", data := .dict #[] } }) F.kt_called_dict (F.kt_typeCall_dict_1 _) F.entry_dict_init (kt_code_dict_new _ ⟨rfl, rfl⟩) ?_
  rintro ob s1 ⟨rfl, rfl⟩
  have hnew : (s.heap.push { cls := .type "dict", data := .dict #[] }).DictOf (mixKind X.prog X.w) s.heap.objs.size [] := Heap.DictOf.new s.heap
  have hol1 : (s.heap.push { cls := .type "dict", data := .dict #[] }).get? l = some ol := Heap.get?_push_of_some _ hol
  refine ⟨hnew.typeIs, F.args_dict_init_2 _ _, ?_⟩
  unfold Builtin.«dict.__init__» ; unfold Builtin.Dict.selfAndRest
  refine wpAny_bind (wpAny_bind (wpAny_notOrdered_dict hnew.typeIs ?_))
  show wpAny _ _ (pure (s.heap.objs.size, [Value.ref l])) _ _ _
  refine wpAny_pure ?_
  show wpAny _ _ (Builtin.Dict.updateFrom "dict.__init__" s.heap.objs.size (.ref l) [] .none) _ _ _
  unfold Builtin.Dict.updateFrom
  refine wpAny_bind (wpAny_typeOf (T := "tuple") ⟨ol, hol1, hcl⟩ ?_)
  rw [if_pos (by decide)]
  refine wpAny_bind (keys_of_tuple (s := { s with heap := s.heap.push { cls := .type "dict", data := .dict #[] } }) hol1 hcl hsl hdl hA fun h1 tk1 k1 => ?_)
  rw [if_pos (by rfl)]
  refine wpAny_bind (wpAny_rule ?_)
  have L1 : h1.IsTuple l its.toArray := ⟨ol, k1 _ _ hol1, hcl, nl, hsl⟩
  refine wpAny_bind (wpAny_pyIter_tuple (s := { s with heap := h1, toks := tk1 }) L1 ?_)
  refine wpAny_pure ⟨plainId_quiet plain_upd_loop _, ?_⟩
  have hdlt : s.heap.objs.size < h1.objs.size := Heap.lt_size (k1 _ _ (Heap.get?_push_size _ rfl))
  have llt : l < s.heap.objs.size := Heap.lt_size hol
  have up : ∀ b o, s.heap.get? b = some o → h1.get? b = some o := fun b o e => k1 b o (Heap.get?_push_of_some _ e)
  have lenp : ps.length = its.length := by have := rv.length; rwa [List.length_map] at this
  have lenv : vs.length = kvs.length := (Paired.length hv).symm
  have n1 : l ≠ h1.objs.size := Nat.ne_of_lt (Nat.lt_trans llt hdlt)
  have W := Walks.tuple (prog := X.prog) (w := X.w) (A := X.A.in1.in1) hA h1.objs.size l n1 its.toArray
  have ei : rawInt 0 = .int ((0 : Nat) : Int) 0 := rfl
  rw [ei]
  have old : ∀ j, j < its.toArray.size → ps.getD j 0 < s.heap.objs.size := fun j hj => by
    have hj' : j < ps.length := by rw [lenp]; simpa using hj
    have hm : ps.getD j 0 ∈ ps := by rw [List.getD_eq_getElem?_getD, List.getElem?_eq_getElem hj']; exact List.getElem_mem hj'
    obtain ⟨o, ho⟩ := hP.mem _ hm
    exact I.hok.lt ho
  refine upd_loop (κ := Key) (knd := mixKind X.prog X.w) (n := its.toArray.size) W (d := s.heap.objs.size) ?_ vs ?_ ?_ (fun j => ps.getD j 0) ?_ ?_ ?_ its.toArray.size 0 _ (Nat.zero_add _) ⟨⟨_, Heap.get?_push_size _ rfl, rfl, rfl⟩, ?_⟩ ?_ ?_ ?_
  · intro z
    have z' : s.heap.objs.size = h1.objs.size ∨ s.heap.objs.size = l := by simpa using z
    exact z'.elim (Nat.ne_of_lt hdlt) (Nat.ne_of_gt llt)
  · rw [lenv, ← hP.len, lenp]; simp
  · rw [kv_keys hv]; exact nd
  · intro i v hi e
    have e' : its[i]? = some v := by simpa using e
    have hi' : i < ps.length := by rw [lenp]; simpa using hi
    obtain ⟨u, hu, ru⟩ := rv.get (i := i) (x := V.ref ps[i]) (by rw [List.getElem?_map, List.getElem?_eq_getElem hi']; rfl)
    rw [hu] at e'
    cases e'
    rw [List.getD_eq_getElem?_getD, List.getElem?_eq_getElem hi']
    exact ru
  · intro i hi
    have hlt := old i hi
    refine ⟨fun z => ?_, Nat.ne_of_lt hlt⟩
    have z' : ps.getD i 0 = h1.objs.size := by simpa using z
    exact Nat.ne_of_lt (Nat.lt_trans hlt hdlt) z'
  · have := hP.len
    exact Nat.le_of_lt (small1000 (by simp; omega))
  · exact ⟨ol, Heap.get?_push_of_some _ (k1 _ _ hol1), hcl, nl, hsl⟩
  · rw [List.take_zero]
    exact (dictOf_keep hnew fun o e => k1 _ o e).push _
  · intro j p hj
    obtain ⟨key, hk, o, ho, r⟩ := hT j p hj
    exact ⟨key, hk, o, Heap.get?_push_of_some _ (up _ _ ho), r⟩
  · intro h3 tk3 hD k3
    refine ⟨rfl, .ref s.heap.objs.size, upd H s.heap.objs.size (.dK kvs), I.laid (a := s.heap.objs.size) (o := .dK kvs) (t' := tk3) (fun b o e => ?_) (Nat.le_refl _) ⟨Nat.le_of_lt (small1000 hz), ?_, vs, hv, hD⟩, rfl, q _ (I.hok.fresh (Nat.le_refl _))⟩
    · have hlt := Heap.lt_size e
      refine k3 b o (fun z => ?_) (Nat.ne_of_lt hlt) (Heap.get?_push_of_some _ (up _ _ e))
      have z' : b = h1.objs.size := by simpa using z
      exact Nat.ne_of_lt (Nat.lt_trans hlt hdlt) z'
    · exact beq_eq_false_iff_ne.mpr (Nat.ne_of_gt I.big)
def ItV (K : PySem.W.Frag) (a : Addr) (n : Nat) : It :=
  ⟨fun i H => ∃ xs x, SqL K H a xs ∧ xs.length = n ∧ xs.reverse[i]? = some x, fun i H x H' => H' = H ∧ ∀ xs, SqL K H a xs → xs.reverse[i]? = some x, fun i H => ∃ xs, SqL K H a xs ∧ xs.length = n ∧ i = n⟩
theorem sure_rev {K : PySem.W.Frag} {a : Addr} {xs : List V} : Sure (ItV K a xs.length) xs.reverse (fun H => SqL K H a xs) where
  go := fun i H hi h => ⟨xs, xs.reverse[i], h, rfl, List.getElem?_eq_getElem hi⟩
  yld := fun i H x H' _ h y => ⟨y.1, y.2 xs h⟩
  stop := fun H h => ⟨xs, h, rfl, List.length_reverse⟩
theorem turn_rev {P : Program} {w : World} {K : PySem.W.Frag} {tg : Expr} (a it : Addr) (n : Nat) : Turn P w K tg (ItV K a n) [it] it (fun i h => h.IsRevIter it a ((n : Int) - 1 - (i : Int))) where
  mem := by simp
  obj := fun i h st b hb => by
    have e : b = it := by simpa using hb
    subst e
    obtain ⟨o, e, c, d⟩ := st
    exact ⟨o, e, fun v z => by rw [d] at z; cases z⟩
  keep := fun i h h' st k => st.at fun o e => k it (by simp) o e
  item := by
    intro X hP hw hK hc i pins s σ H E I hf st hg
    subst hP hw hK
    obtain ⟨xs, x, hq, hn, hx⟩ := hg
    obtain ⟨its, rv, p, hz⟩ := I.list hq
    have hi : i < xs.length := by have := (List.getElem?_eq_some_iff.mp hx).1; rwa [List.length_reverse] at this
    have hx' : xs[n - 1 - i]? = some x := by rw [List.getElem?_reverse hi, hn] at hx; exact hx
    obtain ⟨u, hu, ru⟩ := rv.get hx'
    obtain ⟨f0, f1, f2, f3, f4, f5⟩ := hf it (by simp)
    have e1 : (n : Int) - 1 - (i : Int) = ((n - 1 - i : Nat) : Int) := by omega
    rw [e1] at st
    refine wpAny_pyNext_rev_item st p.isList (x := u) (by simpa using hu) fun h' st' sb => ?_
    have I1 : Inv X pins σ H { s with heap := h' } := I.turned (t' := s.toks) (fun b o hb e => (sb.2 b hb).trans e) f0 f1 f3 f4 f5
    have e2 : ((n - 1 - i : Nat) : Int) - 1 = (n : Int) - 1 - ((i + 1 : Nat) : Int) := by omega
    rw [e2] at st'
    obtain ⟨o, e, c, d⟩ := id st'
    exact ⟨u, rfl, go_of (s := { s with heap := h' }) e c d (by decide) ⟨x, H, I1, ru, ⟨rfl, fun ys hy => by rw [I.list_inj hy hq]; exact hx⟩, st', fun b hb => (hf b hb).1⟩⟩
  done := by
    intro X hP hw hK hc i pins s σ H E I hf st hg
    subst hP hw hK
    obtain ⟨xs, hq, hn, hx⟩ := hg
    obtain ⟨f0, f1, f2, f3, f4, f5⟩ := hf it (by simp)
    have e1 : (n : Int) - 1 - (i : Int) = -1 := by omega
    rw [e1] at st
    exact wpAny_pyNext_rev_end (I.ok.hd hc) st fun h' eb => ⟨rfl, I.turned (t' := s.toks) (fun b o hb e => eb b o hb e) f0 f1 f3 f4 f5⟩
  self := fun _ _ _ _ _ st h => wpAny_pyIter_revIter st h
def iRev (K : PySem.W.Frag) (ta : TA) : TI := fun σ H R => ta σ H fun vs H1 => ∃ a xs, vs = [.ref a] ∧ SqL K H1 a xs ∧ R (ItV K a xs.length) H1
theorem pi_rev {X : Cx} {tg l : Expr} {ta : TA} {p pos : Pos} (hg : Gl X "reversed") (hm : X.mg "reversed" = none) (ha : PA X [l] ta) (hs : starEach [l] X.env = [(false, eval l X.env)] := by rfl) : PI X tg (.Call (.Name "reversed" p) [l] [] pos) (iRev X.K ta) := by
  intro pins s σ H R I h
  refine Call_ (ld_blt I hg hm (show bootBuiltins "reversed" = some (.type "reversed") by decide +kernel) (PyProof.Rows.callWith_type1 (thn (ha pos pins s σ H _ I h) fun us s1 ⟨vs, H1, I1, r1, q1⟩ => ?_) hs rfl))
  obtain ⟨a, xs, e, hq, q⟩ := q1
  subst e
  cases r1 with
  | cons r rr =>
    cases rr
    cases r
    obtain ⟨its, rv, pl, hz⟩ := I1.list hq
    refine call_reversed_list pl.isList ?_
    have st : (s1.heap.push (revObj a ((its.toArray.size : Int) - 1))).IsRevIter s1.heap.objs.size a ((xs.length : Int) - 1 - ((0 : Nat) : Int)) := by
      refine ⟨_, Heap.get?_push_size _ rfl, rfl, ?_⟩
      have e1 : ((its.toArray.size : Nat) : Int) - 1 = (xs.length : Int) - 1 - ((0 : Nat) : Int) := by rw [List.size_toArray, ← rv.length]; simp
      show Data.fields #[.ref a, rawInt (((its.toArray.size : Nat) : Int) - 1)] = _
      rw [e1]
    refine wpAny_pyIter_revIter st ?_
    refine ⟨s1.heap.objs.size, [s1.heap.objs.size], _, _, H1, rfl, I1.kept (t' := s1.toks) fun b o e => Heap.get?_push_of_some _ e, turn_rev a _ xs.length, st, fun b hb => ?_, q⟩
    have e : b = s1.heap.objs.size := by simpa using hb
    subst e
    exact I1.fpOk (Nat.le_refl _) (I1.hok.fresh (Nat.le_refl _))
theorem pi_revK {X : Cx} (K : PySem.W.Frag) {tg l : Expr} {ta : TA} {p pos : Pos} (hg : Gl X "reversed") (hm : X.mg "reversed" = none) (ha : PA X [l] ta) (hs : starEach [l] X.env = [(false, eval l X.env)] := by rfl) (hK : X.K = K := by rfl) : PI X tg (.Call (.Name "reversed" p) [l] [] pos) (iRev K ta) := by subst hK; exact pi_rev hg hm ha hs
theorem Inv.swap {X : Cx} {pins : List (Addr × Obj)} {σ : St} {H : Hp} {s : Shared} {d : Addr} {u u' : HO} (I : Inv X pins σ H s) (e : H d = some u) (n1 : ∀ y, u ≠ .own y) (n2 : ∀ xs, u ≠ .tup xs)
    (h1 : ∀ xs, X.H₀ d ≠ some (.tup xs)) (h2 : ∀ o v, X.H₀ d ≠ some (.frz o v)) (h3 : ∀ ps, X.H₀ d ≠ some (.tbl ps)) (new : ObjOk X.prog X.w (upd H d u') s.heap d u') : Inv X pins σ (upd H d u') s := by
  have ne : ∀ b, H b = none → b ≠ d := fun b z y => by rw [y, e] at z; cases z
  refine ⟨I.ok, I.os, I.bare, ⟨I.base.keep, I.base.slot, fun b o a1 a2 a3 => ?_, I.base.there, fun b xs a1 => ?_, fun b o v a1 => ?_, fun b ps a1 => ?_⟩, I.loc, I.cell, ?_, fun x c a1 => ?_, fun p hp => ?_, fun b v a1 => ?_, I.len⟩
  · have z := I.base.free b o a1 a2 a3
    rw [upd_ne (ne b z)]; exact z
  · have z := I.base.tups b xs a1
    rw [upd_ne (fun y => h1 xs (by rw [← y]; exact a1))]; exact z
  · have z := I.base.frzs b o v a1
    rw [upd_ne (fun y => h2 o v (by rw [← y]; exact a1))]; exact z
  · have z := I.base.tbls b ps a1
    rw [upd_ne (fun y => h3 ps (by rw [← y]; exact a1))]; exact z
  · rw [upd_ne (ne _ I.free)]; exact I.free
  · rw [upd_ne (ne _ (I.freeC x c a1))]; exact I.freeC x c a1
  · obtain ⟨a1, a2, a3⟩ := I.pin p hp
    exact ⟨a1, by rw [upd_ne (ne _ a2)]; exact a2, a3⟩
  · by_cases y : b = d
    · subst y
      rw [upd_same] at a1
      cases a1
      exact new
    · rw [upd_ne y] at a1
      refine (I.hok b v a1).stay (fun c z _ q => q) (fun c q => ?_) fun c xs q => ?_
      · rw [upd_ne (fun y => n1 b (by rw [y, e] at q; exact Option.some.inj q))]; exact q
      · rw [upd_ne (fun y => n2 xs (by rw [y, e] at q; exact Option.some.inj q))]; exact q
theorem Inv.freeze {X : Cx} {pins : List (Addr × Obj)} {σ : St} {H : Hp} {s : Shared} {d : Addr} {kvs : List (Key × V)} (I : Inv X pins σ H s) (e : H d = some (.dK kvs)) :
    ∃ ob, Inv X pins σ (upd H d (.frz ob (.dK kvs))) s ∧ ∀ (σ' : St) (H' : Hp) (s' : Shared), Inv X pins σ' H' s' → H' d = some (.frz ob (.dK kvs)) → Inv X pins σ' (upd H' d (.dK kvs)) s' := by
  obtain ⟨hz, lo, vs, hkv, hD⟩ := (show ObjOk X.prog X.w H s.heap d (.dK kvs) from I.hok d _ e)
  obtain ⟨ob, es, ep, ho, rr⟩ := id hD
  have h1 : ∀ xs, X.H₀ d ≠ some (.tup xs) := fun xs z => by have := I.base.tups d xs z; rw [e] at this; cases this
  have h2 : ∀ o v, X.H₀ d ≠ some (.frz o v) := fun o v z => by have := I.base.frzs d o v z; rw [e] at this; cases this
  have h3 : ∀ ps, X.H₀ d ≠ some (.tbl ps) := fun ps z => by obtain ⟨m, q⟩ := I.base.tbls d ps z; rw [e] at q; cases q
  refine ⟨ob, I.swap e (fun y z => by cases z) (fun xs z => by cases z) h1 h2 h3 ⟨ho, hz, lo, vs, hkv, hD⟩, fun σ' H' s' J q => ?_⟩
  obtain ⟨_, c1, c2, ws, c3, c4⟩ := (show ObjOk X.prog X.w H' s'.heap d (.frz ob (.dK kvs)) from J.hok d _ q)
  exact J.swap q (fun y z => by cases z) (fun xs z => by cases z) h1 h2 h3 ⟨c1, c2, ws, c3, c4⟩
def tFrz (t : TE) : TE := fun σ H Q => ∃ d kvs, H d = some (.dK kvs) ∧ ∀ ob, t σ (upd H d (.frz ob (.dK kvs))) fun v H' => H' d = some (.frz ob (.dK kvs)) ∧ Q v (upd H' d (.dK kvs))
theorem pe_frz {X : Cx} {e : Expr} {t : TE} (h : PE X e t) : PE X e (tFrz t) := by
  intro pins s σ H Q I hq
  obtain ⟨d, kvs, hd, q⟩ := hq
  obtain ⟨ob, I1, back⟩ := I.freeze hd
  refine thn (h pins s σ _ _ I1 (q ob)) fun v s1 ⟨x, H1, J, r, q1, q2⟩ => ⟨x, _, back σ H1 s1 J q1, r, q2⟩
def ItD (d : Addr) (ob : Obj) (kvs : List (Key × V)) : It :=
  ⟨fun i H => H d = some (.frz ob (.dK kvs)) ∧ i < kvs.length, fun i H x H' => H' = H ∧ (kvs.map fun p => kV p.1)[i]? = some x, fun i H => H d = some (.frz ob (.dK kvs)) ∧ i = kvs.length⟩
theorem sure_dict {d : Addr} {ob : Obj} {kvs : List (Key × V)} : Sure (ItD d ob kvs) (kvs.map fun p => kV p.1) (fun H => H d = some (.frz ob (.dK kvs))) where
  go := fun i H hi h => ⟨h, by rwa [List.length_map] at hi⟩
  yld := fun i H x H' _ h y => y
  stop := fun H h => ⟨h, List.length_map ..⟩
theorem key_rel {P : Program} {w : World} {k : Key} {u : Value} (h : (mixKind P w).is k u = true) : RelV (kV k) u := by
  rcases keyIs_shape (show keyIs k u = true from h) with ⟨i, t, rfl, rfl⟩ | ⟨x, t, rfl, rfl⟩
  · exact ⟨t, rfl⟩
  · exact ⟨t, rfl⟩
theorem frz_at {X : Cx} {pins : List (Addr × Obj)} {σ : St} {H : Hp} {s : Shared} {d : Addr} {ob : Obj} {kvs : List (Key × V)} {es : Array DictEntry} {ep : Nat} (I : Inv X pins σ H s) (e : H d = some (.frz ob (.dK kvs))) (hd : ob.data = .dict es ep) :
    (d == sysModules) = false ∧ kvs.length ≤ sizeLine ∧ ∃ vs, KV kvs vs ∧ s.heap.DictAt (mixKind X.prog X.w) d vs ep := by
  obtain ⟨c0, c1, c2, vs, c3, o, es', ep', ho, x1, x2, x3⟩ := (show ObjOk X.prog X.w H s.heap d (.frz ob (.dK kvs)) from I.hok d _ e)
  rw [c0] at ho
  cases ho
  rw [hd] at x2
  cases x2
  exact ⟨c2, c1, vs, c3, ob, es, c0, x1, hd, x3⟩
theorem turn_dict {P : Program} {w : World} {K : PySem.W.Frag} {tg : Expr} (d it : Addr) (ob : Obj) (kvs : List (Key × V)) (es : Array DictEntry) (ep : Nat) (hd : ob.data = .dict es ep) : Turn P w K tg (ItD d ob kvs) [it] it (fun i h => h.IsKeyIter it d i kvs.length ep) where
  mem := by simp
  obj := fun i h st b hb => by
    have e : b = it := by simpa using hb
    subst e
    obtain ⟨o, e, c, d⟩ := st
    exact ⟨o, e, fun v z => by rw [d] at z; cases z⟩
  keep := fun i h h' st k => st.at fun o e => k it (by simp) o e
  item := by
    intro X hP hw hK hc i pins s σ H E I hf st hg
    subst hP hw hK
    obtain ⟨hq, hi⟩ := hg
    obtain ⟨lo, hz, vs, hkv, hat⟩ := frz_at I hq hd
    have hl : vs.length = kvs.length := (Paired.length hkv).symm
    rw [← hl] at st hi
    obtain ⟨f0, f1, f2, f3, f4, f5⟩ := hf it (by simp)
    have e3 : vs[i]? = some (vs[i].1, vs[i].2) := List.getElem?_eq_getElem hi
    refine wpAny_pyNext_dict_item st hat e3 fun u h' hu st' sb => ?_
    have I1 : Inv X pins σ H { s with heap := h' } := I.turned (t' := s.toks) (fun b o hb e => (sb.2 b hb).trans e) f0 f1 f3 f4 f5
    obtain ⟨k', v', e4, e5⟩ := kv_at hkv e3
    rw [hl] at st'
    obtain ⟨o, e, c, dd⟩ := id st'
    refine ⟨u, rfl, go_of (s := { s with heap := h' }) e c dd (by decide) ⟨kV vs[i].1, H, I1, key_rel hu, ⟨rfl, ?_⟩, st', fun b hb => (hf b hb).1⟩⟩
    rw [List.getElem?_map, e4, ← e5]
    rfl
  done := by
    intro X hP hw hK hc i pins s σ H E I hf st hg
    subst hP hw hK
    obtain ⟨hq, hi⟩ := hg
    obtain ⟨lo, hz, vs, hkv, hat⟩ := frz_at I hq hd
    have hl : vs.length = kvs.length := (Paired.length hkv).symm
    rw [← hl] at st hi
    obtain ⟨f0, f1, f2, f3, f4, f5⟩ := hf it (by simp)
    exact wpAny_pyNext_dict_end (I.ok.hd hc) st hat (by rw [hi]; simp) fun h' eb => ⟨rfl, I.turned (t' := s.toks) (fun b o hb e => eb b o hb e) f0 f1 f3 f4 f5⟩
  self := fun _ _ _ _ _ st h => wpAny_pyIter_keyiter st h
def iDict (tl : TE) : TI := fun σ H R => tl σ H fun x H1 => ∃ d ob kvs, x = .ref d ∧ H1 d = some (.frz ob (.dK kvs)) ∧ R (ItD d ob kvs) H1
theorem pi_dict {X : Cx} {tg l : Expr} {tl : TE} (hl : PE X l tl) : PI X tg l (iDict tl) := by
  intro pins s σ H R I h
  refine thn (hl pins s σ H _ I h) fun v s1 ⟨x, H1, I1, r1, q1⟩ => ?_
  obtain ⟨d, ob, kvs, e, hq, q⟩ := q1
  subst e
  cases r1
  obtain ⟨c0, c1, c2, vs, c3, o, es, ep, ho, x1, x2, x3⟩ := (show ObjOk X.prog X.w H1 s1.heap d (.frz ob (.dK kvs)) from I1.hok d _ hq)
  rw [c0] at ho
  cases ho
  have hvl : vs.length = kvs.length := (Paired.length c3).symm
  refine wpAny_pyIter_dict (knd := mixKind X.prog X.w) (kvs := vs) (ep := ep) c2 ⟨ob, es, c0, x1, x2, x3⟩ ?_
  refine ⟨s1.heap.objs.size, [s1.heap.objs.size], _, _, H1, rfl, I1.kept (t' := s1.toks) fun b o e => Heap.get?_push_of_some _ e, turn_dict d _ ob kvs es ep x2, ⟨_, Heap.get?_push_size _ rfl, rfl, by rw [hvl]; rfl⟩, fun b hb => ?_, q⟩
  have e : b = s1.heap.objs.size := by simpa using hb
  subst e
  exact I1.fpOk (Nat.le_refl _) (I1.hok.fresh (Nat.le_refl _))
end L2
namespace L2
open PySem PySem.Spec PyProof.Rows
def rSlS : V → Option Int → Option Int → Hp → VK → Prop := fun x lo hi H Q => ∃ z : Str, x = .str z ∧ z.length ≤ sizeLine ∧ Q (.str (Txt.slice z lo hi)) H
theorem sl_str {X : Cx} : SlR X rSlS := by
  intro pins s σ H x v vl vu lo hi sl Q I rx hs pl pu h
  obtain ⟨z, rfl, hz, q⟩ := h
  obtain ⟨t, rfl⟩ := rx
  refine ⟨"str", _, F.slot_str_getitem.lookup, typeIs_str _ _ _, ?_⟩
  obtain ⟨o, ho, hc, hd⟩ := hs
  have fin : ∀ (l u : Option (Int × Tok)), l.map (·.1) = lo → u.map (·.1) = hi → vl = partValue l → vu = partValue u → wpAny (model X.prog X.w) X.A (getItem (.str z t) (.ref sl)) (EP X pins σ Q) X.xe s := fun l u e1 e2 e3 e4 => by
    subst e1 e2 e3 e4
    refine wpAny_getItem_str_slice (l := l) (u := u) (st := none) ⟨o, ho, hc, hd⟩ rfl (post_val_or_str ⟨Nat.le_trans (Txt.slice_le z (l.map (·.1)) (u.map (·.1))) hz, fun t' k => ?_⟩)
    exact ⟨.str (Txt.slice z (l.map (·.1)) (u.map (·.1))), H, I.tok _, ⟨t', rfl⟩, q⟩
  cases pl with
  | none => cases pu with
    | none => exact fin none none rfl rfl rfl rfl
    | int j tj => exact fin none (some (j, tj)) rfl rfl rfl rfl
  | int i ti => cases pu with
    | none => exact fin (some (i, ti)) none rfl rfl rfl rfl
    | int j tj => exact fin (some (i, ti)) (some (j, tj)) rfl rfl rfl rfl
theorem slice_hi (x : Str) (l : Option Int) (j : Nat) : Txt.slice x l (some (j : Int)) = Txt.slice x l (some ((min j x.length : Nat) : Int)) := by
  have e : Builtin.Str.strSliceIndices l (some (j : Int)) 1 x.length = Builtin.Str.strSliceIndices l (some ((min j x.length : Nat) : Int)) 1 x.length := by
    unfold Builtin.Str.strSliceIndices
    simp only
    have e1 : max 0 (min (if (j : Int) < 0 then (j : Int) + (x.length : Int) else (j : Int)) (x.length : Int)) = max 0 (min (if ((min j x.length : Nat) : Int) < 0 then ((min j x.length : Nat) : Int) + (x.length : Int) else ((min j x.length : Nat) : Int)) (x.length : Int)) := by
      rw [if_neg (by omega), if_neg (by omega)]
      omega
    rw [if_pos (by decide), e1]
    rfl
  unfold Txt.slice
  rw [e]
theorem slice_take (x : List Nat) (j : Nat) : Txt.slice ⟨x.toArray⟩ none (some (j : Int)) = ⟨(x.take j).toArray⟩ := by
  rw [slice_hi]
  have h := beq_iff_eq.mp (slice_closes_toL (x := ⟨x.toArray⟩) (j := ((min j x.length : Nat) : Int)) (by omega) (by show _ ≤ ((x.length : Nat) : Int); omega))
  refine h.trans ?_
  have e : ((((min j x.length : Nat) : Int)) - 0).toNat = min j x.length := by omega
  rw [e]
  show (⟨((x.drop 0).take (min j x.length)).toArray⟩ : Str) = _
  rw [List.drop_zero]
  by_cases hj : j ≤ x.length
  · rw [Nat.min_eq_left hj]
  · rw [Nat.min_eq_right (by omega), List.take_of_length_le (Nat.le_refl _), List.take_of_length_le (by omega)]
end L2
namespace L2
open PySem PySem.Spec PyProof.Rows
section
variable {P : Program} {w : World} {A : Around} {E : Value → Shared → Prop}
end
end L2
namespace L2
open PySem PySem.Spec PyProof.Rows
abbrev iK (z : Str) : Key := Sum.inr z
def Cnt (ss : List Str) (c : Nat) : Prop := c ≤ ss.length ∧ (c = ss.length ↔ ss.Nodup)
theorem Cnt.nil : Cnt [] 0 := ⟨Nat.le_refl _, by simp⟩
theorem Cnt.snoc {ss : List Str} {z : Str} {c : Nat} (h : Cnt ss c) : Cnt (ss ++ [z]) (if z ∈ ss then c else c + 1) := by
  obtain ⟨h1, h2⟩ := h
  by_cases hz : z ∈ ss
  · rw [if_pos hz]
    refine ⟨by rw [List.length_append]; omega, ⟨fun e => ?_, fun e => ?_⟩⟩
    · rw [List.length_append, List.length_singleton] at e
      omega
    · exact absurd rfl ((List.nodup_append.mp e).2.2 z hz z (by simp))
  · rw [if_neg hz]
    refine ⟨by rw [List.length_append, List.length_singleton]; omega, ⟨fun e => ?_, fun e => ?_⟩⟩
    · rw [List.length_append, List.length_singleton] at e
      have := h2.mp (by omega)
      refine List.nodup_append.mpr ⟨this, by simp, fun a ha b hb e => ?_⟩
      have : b = z := by simpa using hb
      exact hz (by rw [← this, ← e]; exact ha)
    · rw [List.length_append, List.length_singleton]
      have := h2.mpr (List.nodup_append.mp e).1
      omega
def kin (ss : List Str) (k : Key) : Bool := ss.any fun z => decide (k = iK z)
end L2
namespace L2
open PySem PySem.Spec PyProof.Rows
end L2
namespace L2
open PySem PySem.Spec PyProof.Rows PySem.W
abbrev Fcts := List (Nat × Nat)
def has (L : Fcts) (i j : Nat) : Bool := L.any fun p => p.1 == i && p.2 == j
structure Ord (b : Nat → Nat → Bool) (n : Nat) : Prop where
  irr : ∀ i, b i i = false
  trans : ∀ i j k, b i j = true → b j k = true → b i k = true
  tot : ∀ i j, i < n → j < n → i ≠ j → b i j = false → b j i = true
structure Sor (b : Nat → Nat → Bool) (n m : Nat) (p : Array Nat) : Prop where
  size : p.size = n
  lt : ∀ x ∈ p.toList, x < n
  nd : p.toList.Nodup
  up : (p.toList.take m).Pairwise fun x y => b x y = true
theorem getD_at {p : Array Nat} {i : Nat} (h : i < p.size) : p.toList[i]? = some (p.getD i 0) := by
  rw [Array.getElem?_toList, Array.getD, dif_pos h]
  exact Array.getElem?_eq_getElem h
theorem Sor.below {b : Nat → Nat → Bool} {n m : Nat} {p : Array Nat} (S : Sor b n m p) {i j : Nat} (hij : i < j) (hj : j < m) (hm : m ≤ n) : b (p.getD i 0) (p.getD j 0) = true := by
  have hs := S.size
  have h1 : (p.toList.take m)[i]? = some (p.getD i 0) := by rw [List.getElem?_take_of_lt (by omega)]; exact getD_at (by omega)
  have h2 : (p.toList.take m)[j]? = some (p.getD j 0) := by rw [List.getElem?_take_of_lt hj]; exact getD_at (by omega)
  obtain ⟨l1, e1⟩ := List.getElem?_eq_some_iff.mp h1
  obtain ⟨l2, e2⟩ := List.getElem?_eq_some_iff.mp h2
  have := List.pairwise_iff_getElem.mp S.up i j l1 l2 hij
  rw [e1, e2] at this
  exact this
theorem Sor.mem {b : Nat → Nat → Bool} {n m : Nat} {p : Array Nat} (S : Sor b n m p) {i : Nat} (h : i < n) : p.getD i 0 < n := S.lt _ (List.mem_of_getElem? (getD_at (by rw [S.size]; exact h)))
theorem Sor.ne {b : Nat → Nat → Bool} {n m : Nat} {p : Array Nat} (S : Sor b n m p) {i j : Nat} (hij : i < j) (h : j < n) : p.getD i 0 ≠ p.getD j 0 := by
  have hs := S.size
  obtain ⟨l1, e1⟩ := List.getElem?_eq_some_iff.mp (getD_at (p := p) (i := i) (by omega))
  obtain ⟨l2, e2⟩ := List.getElem?_eq_some_iff.mp (getD_at (p := p) (i := j) (by omega))
  have := List.pairwise_iff_getElem.mp S.nd i j l1 l2 hij
  rw [e1, e2] at this
  exact this
end L2
namespace L2
open PySem PySem.Spec PyProof.Rows PySem.W
end L2
namespace L2
open PySem PySem.Spec PyProof.Rows
abbrev ts (x : List Nat) : Str := ⟨x.toArray⟩
def jn (c : Nat) : List (List Nat) → List Nat
  | [] => []
  | [p] => p
  | p :: q :: r => p ++ c :: jn c (q :: r)
end L2
namespace L2
open PySem PyProof.Rows
section
variable {X : Cx} {e est : Expr} {te ts : TE} {p2 pos : Pos}
end
end L2
namespace L2
open PySem PySem.Spec PyProof.Rows
open AutoSeq1 (wpAny_loadPart')
section
variable {X : Cx} {l : Expr} {ta : TA} {elts : List Expr} {k : Nat} {tp p pos : Pos}
end
end L2
namespace L2
open PySem PySem.Spec PyProof.Rows PySem.W
section
variable {K : PySem.W.Frag} {x D : Addr} {ox : Obj}
theorem kitx_exc {B : String} (FX : ExcAttrFacts B) (EK : ExcK K D) : PySem.W.KitX K (.ref x) (.ref D) (fun h => XAt h x ox D) where
  ty := fun _ _ _ I => I.type
  it := fun _ _ X _ => isType_in X EK.cls
  ne := fun h tp dd its n sl X htp => by
    have hcD := EK.cls
    refine Bool.eq_false_iff.mpr fun q => ?_
    have e : D = tp := Value.ref.inj (beq_iff_eq.mp q)
    subst e
    unfold clsIn at hcD
    split at hcD
    · rename_i c' d' cd' sl' ho
      have z := (X _ _ ho).symm.trans htp
      cases z
    · cases hcD
  ca := fun X I k => xi_class FX X I (fun _ => xi_find X EK.find EK.get EK.takes) EK.obj EK.bexc EK.ga EK.gt k
end
theorem vals_ref : ∀ {Cs : List Addr} {its : List Value}, Vals (Cs.map V.ref) its → its = Cs.map Value.ref
  | [], _, .nil => rfl
  | C :: Cs, _, .cons h r => by
    cases (show _ = Value.ref C from h)
    rw [vals_ref r]
    rfl
def rIsExcT (K : PySem.W.Frag) : List V → Hp → VK → Prop := fun xs H Q => ∃ (e tp D : Addr) (Cs : List Addr) (b : Bool), xs = [.ref e, .ref tp] ∧ H e = some (excO e D) ∧ ExcK K D ∧ H tp = some (.tup (Cs.map V.ref)) ∧ PySem.W.kitAny K (.ref D) (Cs.map Value.ref) = some b ∧ Q (.bl b) H
theorem call_isExcTK {X : Cx} (K : PySem.W.Frag) {B : String} (FX : ExcAttrFacts B) (hK : X.K = K := by rfl) : CallR X (.builtin "isinstance") (rIsExcT K) := by
  subst hK
  intro pins s σ H xs us Q I r h
  obtain ⟨e, tp, D, Cs, b, rfl, he, EK, htp, hb, q⟩ := h
  obtain ⟨u, v, rfl, ru, rv⟩ := vals2 r
  cases (show u = Value.ref e from ru)
  cases (show v = Value.ref tp from rv)
  obtain ⟨ox, hx⟩ := (show ObjOk X.prog X.w H s.heap e (excO e D) from I.hok e _ he).1
  obtain ⟨_, its, rv', p, _⟩ := (show ObjOk X.prog X.w H s.heap tp (.tup (Cs.map V.ref)) from I.hok tp _ htp)
  obtain ⟨o, h1, h2, n, h3⟩ := p
  obtain ⟨oc, od, odt, osl⟩ := o
  simp only at h2 h3
  subst h2 h3
  have ei := vals_ref rv'
  subst ei
  exact PySem.W.kia_tup (kitx_exc FX EK) I.kIn hx h1 hb (fun z => nomatch z) fun tk => ⟨.bl b, H, I.tok _, rfl, q⟩
theorem kit_none {K : PySem.W.Frag} {D : Addr} : ∀ {Cs : List Addr}, (∀ C ∈ Cs, D ≠ C ∧ (clsIn K C).isSome = true ∧ typeIn K (.ref C) = some (.type "type") ∧ mroIn K D (.ref C) = some false) → PySem.W.kitAny K (.ref D) (Cs.map Value.ref) = some false
  | [], _ => rfl
  | C :: Cs, h => by
    obtain ⟨h1, h2, h3, h4⟩ := h C List.mem_cons_self
    have ih := kit_none (K := K) (D := D) (Cs := Cs) fun C hC => h C (List.mem_cons_of_mem _ hC)
    rw [List.map_cons]
    unfold PySem.W.kitAny
    have e1 : PySem.W.kitOne K (.ref D) (.ref C) = some false := by
      unfold PySem.W.kitOne
      rw [if_neg (fun z => h1 (Value.ref.inj (beq_iff_eq.mp z)))]
      unfold PySem.W.kitCls
      simp only
      rw [if_pos (by rw [h2, h3]; rfl)]
      exact h4
    rw [e1]
    exact ih
end L2
namespace L2
open PySem PySem.Spec PySem.Calls PyProof.Rows PySem.W
end L2
namespace L2
open PySem PySem.Spec PyProof.Rows
def rNeT (K : PySem.W.Frag) : R2 := fun x y H Q => (scal x y = true ∧ Q (.bl (!decide (x = y))) H) ∨ ∃ (a : Addr) (xs : List V) (z : Str), x = .ref a ∧ y = .str z ∧ (H a = some (.lst xs) ∨ H a = some (.tup xs)) ∧ Q (.bl true) H
theorem op_neT {X : Cx} (hu : X.A.units + 64 < cLine) : OpR X (compareOp .NotEq) (rNeT X.K) := by
  intro pins s σ H x y u v Q I rx ry h
  rcases h with h | ⟨a, xs, z, rfl, rfl, h, q⟩
  · exact op_ne pins s σ H x y u v Q I rx ry h
  · cases rx
    obtain ⟨t, rfl⟩ := ry
    rcases h with h | h
    · obtain ⟨i1, r1, p1, _⟩ := I.list (SqL.of h)
      exact PySem.SeqAt.RcNeAt.list_str z t p1.isList (by omega) X.prog X.w _ _ ⟨.bl true, H, I, rfl, q⟩
    · obtain ⟨i1, r1, p1, _⟩ := I.tuple (SqT.of h)
      exact PySem.SeqAt.RcNeAt.tuple_str z t p1 (by omega) X.prog X.w _ _ ⟨.bl true, H, I, rfl, q⟩
theorem op_neTK {X : Cx} (K : PySem.W.Frag) (hu : X.A.units + 64 < cLine) (hK : X.K = K := by rfl) : OpR X (compareOp .NotEq) (rNeT K) := by subst hK; exact op_neT hu
end L2
namespace L2
end L2
namespace L2
open PySem PySem.Spec PyProof.Rows
section
variable {P : Program} {w : World} {A : Around} {E : Value → Shared → Prop} {s : Shared}
theorem nextOf_rev {it l : Addr} {i : Nat} {items : Array Value} {x : Value} {Q : Value → Shared → Prop} (hit : s.heap.IsRevIter it l (i : Int)) (hl : s.heap.IsList l items) (hx : items[i]? = some x)
    (hQ : ∀ h', h'.IsRevIter it l ((i : Int) - 1) → Heap.SameBut it s.heap h' → Q x { s with heap := h' }) : wpAny (model P w) A (Builtin.SmallTypes.nextOf (.ref it)) Q E s := by
  obtain ⟨o, ho, hc, hd⟩ := id hit
  obtain ⟨ol, hol, _, nl, hdl⟩ := hl
  unfold Builtin.SmallTypes.nextOf
  refine wpAny_bind (wpAny_callSpecial?_slot (name := Str.ofString "__next__") hit.typeIs F.slot_lri_next (wpAny_call_entry F.slot_lri_next hit.typeIs F.entry_lri_next ?_ (F.args_lri_next_1 _)))
  unfold Builtin.«list_reverseiterator.__next__»
  refine wpAny_bind (wpAny_of_eq (a := (Value.ref it, [])) rfl ?_)
  try dsimp only
  refine wpAny_bind (wpAny_field ho hd (x := rawInt (i : Int)) rfl ?_)
  show wpAny _ _ (if (i : Int) < 0 then _ else _) _ _ s
  rw [if_neg (by omega)]
  show wpAny _ _ (field (.ref it) 0 >>= _) _ _ s
  refine wpAny_bind (wpAny_field ho hd (x := .ref l) rfl ?_)
  show wpAny _ _ (seqItems? (.ref l) >>= _) _ _ s
  refine wpAny_bind (wpAny_seqItems hol hdl ?_)
  simp only [Int.toNat_natCast, hx]
  refine wpAny_bind (wpAny_setField ho hd (by simp) ?_)
  first
  | refine wpAny_pure ⟨x, rfl, wpAny_pure (hQ _ ?_ (Heap.SameBut.update ..))⟩
  | refine wpAny_bind (wpAny_pure (wpAny_pure ⟨x, rfl, wpAny_pure (hQ _ ?_ (Heap.SameBut.update ..))⟩))
  exact ⟨_, Heap.get?_update_self _ ho (Obj.isFreed_of_fields (Obj.data_mapFields hd _)), (Obj.cls_mapFields ..).trans hc, by
    rw [Obj.data_mapFields hd]; simp⟩
theorem nextOf_rev_end {it l : Addr} {i : Int} {Q : Value → Shared → Prop} (hh : A.handled = none) (hi : i < 0) (hit : s.heap.IsRevIter it l i)
    (hQ : ∀ h' e, Heap.ExtBut it s.heap h' → (∃ o, h'.get? e = some o ∧ o.cls = .type "StopIteration") → E (.ref e) { s with heap := h' }) : wpAny (model P w) A (Builtin.SmallTypes.nextOf (.ref it)) Q E s := by
  obtain ⟨o, ho, hc, hd⟩ := id hit
  unfold Builtin.SmallTypes.nextOf
  refine wpAny_bind (wpAny_callSpecial?_slot (name := Str.ofString "__next__") hit.typeIs F.slot_lri_next (wpAny_call_entry F.slot_lri_next hit.typeIs F.entry_lri_next ?_ (F.args_lri_next_1 _)))
  unfold Builtin.«list_reverseiterator.__next__»
  refine wpAny_bind (wpAny_of_eq (a := (Value.ref it, [])) rfl ?_)
  try dsimp only
  refine wpAny_bind (wpAny_field ho hd (x := rawInt i) rfl ?_)
  show wpAny _ _ (if i < 0 then _ else _) _ _ s
  rw [if_pos hi]
  refine wpAny_bind (wpAny_rule ?_)
  first
  | show wpAny _ _ (newExc (.type "StopIteration") [] >>= _) _ _ _
  | (refine wpAny_bind ?_; show wpAny _ _ (newExc (.type "StopIteration") [] >>= _) _ _ _)
  refine wpAny_bind ?_
  simp only [newExc, newTuple]
  refine wpAny_bind (wpAny_newObj_type ?_ (by size_fits))
  refine wpAny_bind (m := firstArgMember _ _) (wpAny_of_eq (a := Value.none) (by first | rfl | (simp only [firstArgMember]; rfl)) ?_)
  refine wpAny_newObj_type ?_ (by size_fits)
  simp only [raiseNew]
  refine wpAny_bind (wpAny_handled ?_)
  first | rw [show A.in1.handled = none from hh] | rw [hh]
  refine wpAny_bind (wpAny_pure (wpAny_throw ?_))
  exact hQ _ _ (((Heap.ExtBut.refl _ _).push _).push _) ⟨_, Heap.get?_push_size _ rfl, rfl⟩
end
theorem src_rev {P : Program} {w : World} (it l : Addr) (ne : l ≠ it) (n : Nat) (xs : Array Value) (hn : xs.size = n) : Src P w it l xs.reverse (fun k h => h.IsRevIter it l ((n : Int) - 1 - (k : Int)) ∧ h.IsList l xs) where
  keep := fun k h h' st e => ⟨st.1.at fun o x => e it (.inl rfl) o x, st.2.at fun o x => e l (.inr rfl) o x⟩
  obj := fun k h st => by
    obtain ⟨o, ho, _, d⟩ := st.1
    exact ⟨o, _, ho, d⟩
  item := fun A E k s x Q st hx q => by
    have hk : k < xs.size := by have := (Array.getElem?_eq_some_iff.mp hx).1; rwa [Array.size_reverse] at this
    have hx' : xs[n - 1 - k]? = some x := by
      rw [Array.getElem?_reverse hk, hn] at hx
      exact hx
    have e1 : (n : Int) - 1 - (k : Int) = ((n - 1 - k : Nat) : Int) := by omega
    have st1 := st.1
    rw [e1] at st1
    refine nextOf_rev st1 st.2 hx' fun h' a b => q h' ⟨?_, st.2.extBut b.extBut ne⟩ b
    have e2 : ((n - 1 - k : Nat) : Int) - 1 = (n : Int) - 1 - ((k + 1 : Nat) : Int) := by omega
    rw [e2] at a
    exact a
  fin := fun A E k s Q hA st hx q => by
    have hk : xs.size ≤ k := by
      have := Array.getElem?_eq_none_iff.mp hx
      rwa [Array.size_reverse] at this
    exact nextOf_rev_end hA (by omega) st.1 q
theorem rev_get {its : List Value} {n i : Nat} {u : Value} (hn : its.toArray.size = n) (hi : i < n) (hu : its[n - 1 - i]? = some u) : its.toArray.reverse[i]? = some u := by
  rw [Array.getElem?_reverse (by omega), hn]
  simpa using hu
def ItzR (K : PySem.W.Frag) (n : Nat) (l1 l2 : Addr) : It := ItP (fun i H => ∃ xs x ys y, SqL K H l1 xs ∧ xs.length = n ∧ xs.reverse[i]? = some x ∧ SqL K H l2 ys ∧ ys[i]? = some y) (fun i H => ∃ xs ys, SqL K H l1 xs ∧ xs.length = n ∧ SqL K H l2 ys ∧ min xs.length ys.length = i)
  (fun i H vs => ∃ x y, (∀ xs, SqL K H l1 xs → xs.reverse[i]? = some x) ∧ (∀ ys, SqL K H l2 ys → ys[i]? = some y) ∧ vs = [x, y])
theorem sure_zipR {K : PySem.W.Frag} {l1 l2 : Addr} {xs ys : List V} : Sure2 (ItzR K xs.length l1 l2) ((xs.reverse.zip ys).map fun p => [p.1, p.2]) (fun H => SqL K H l1 xs ∧ SqL K H l2 ys) where
  go := fun i H hi h => by
    have hi' : i < xs.length ∧ i < ys.length := by simpa [Nat.lt_min] using hi
    exact ⟨xs, xs.reverse[i]'(by rw [List.length_reverse]; exact hi'.1), ys, ys[i], h.1, rfl, List.getElem?_eq_getElem _, h.2, by simp [hi'.2]⟩
  yld := fun i H v H' hi h z => by
    obtain ⟨T, vs, n, rfl, ⟨x, y, h1, h2, rfl⟩, rfl⟩ := z
    refine ⟨T, _, n, rfl, rfl, ?_⟩
    rw [List.getElem?_map, List.getElem?_zip_eq_some.mpr (show xs.reverse[i]? = some (x, y).1 ∧ ys[i]? = some (x, y).2 from ⟨h1 xs h.1, h2 ys h.2⟩)]
    rfl
  stop := fun H h => ⟨xs, ys, h.1, rfl, h.2, by simp⟩
theorem turn_zipR {P : Program} {w : World} {K : PySem.W.Frag} {elts : List Expr} {k : Nat} {pos : Pos} (n : Nat) (l1 l2 z TI TO i1 i2 : Addr) (d1 : TI ≠ z) (d2 : TO ≠ z) (d3 : i1 ≠ z) (d4 : i2 ≠ z) (d5 : TI ≠ TO) (d6 : TI ≠ i1) (d7 : TI ≠ i2) (d8 : TO ≠ i1) (d9 : TO ≠ i2) (d10 : i1 ≠ i2)
    (hTOl : ∀ h : Heap, True) (hl1 : l1 ≠ TO ∧ l1 ≠ z ∧ l1 ≠ i1 ∧ l1 ≠ i2) (hl2 : l2 ≠ TO ∧ l2 ≠ z ∧ l2 ≠ i1 ∧ l2 ≠ i2) :
    Turn P w K (.Tuple elts k pos) (ItzR K n l1 l2) [z, TI, TO, i1, i2] z (fun i h => IsZip h z TI TO .none ∧ IsPair h TI (.ref i1) (.ref i2) ∧ (∃ a b, IsPair h TO a b) ∧ h.IsRevIter i1 l1 ((n : Int) - 1 - (i : Int)) ∧ ItA h i2 l2 i false) := by
  have D : ZipApart z TI TO i1 i2 l1 l2 := ⟨d1, d2, d3, d4, d5, d6, d7, d8, d9, d10, hl1.2.1, hl1.1, hl1.2.2.1, hl1.2.2.2, hl2.2.1, hl2.1, hl2.2.2.1, hl2.2.2.2⟩
  exact {
    mem := by simp
    obj := fun i h st b hb => by
      obtain ⟨h1, h2, ⟨a, b', h3⟩, h4, h5⟩ := st
      obtain ⟨o4, e4, _, q4⟩ := h4
      obtain ⟨o5, e5, q5, _⟩ := h5.obj
      have hb' : b = z ∨ b = TI ∨ b = TO ∨ b = i1 ∨ b = i2 := by simpa using hb
      rcases hb' with e | e | e | e | e
      · rw [e]; exact ⟨_, h1, fun v z => by cases z⟩
      · rw [e]; exact ⟨_, h2, fun v z => by cases z⟩
      · rw [e]; exact ⟨_, h3, fun v z => by cases z⟩
      · rw [e]; exact ⟨o4, e4, fun v z => by rw [q4] at z; cases z⟩
      · rw [e]; exact ⟨o5, e5, fun v z => by rw [q5] at z; cases z⟩
    keep := fun i h h' st kk => by
      obtain ⟨h1, h2, ⟨a, b', h3⟩, h4, h5⟩ := st
      exact ⟨kk z (by simp) _ h1, kk TI (by simp) _ h2, ⟨a, b', kk TO (by simp) _ h3⟩, h4.at fun o x => kk i1 (by simp) o x, ItA.at (fun o x => kk i2 (by simp) o x) h5⟩
    item := by
      intro X hP hw hK hc i pins s σ H E I hf st hg
      subst hP hw hK
      obtain ⟨xs, x, ys, y, hq1, hn, hx, hq2, hy⟩ := hg
      obtain ⟨its1, rv1, p1, hz1⟩ := I.list hq1
      have hn1 : its1.toArray.size = n := by rw [List.size_toArray, ← rv1.length]; exact hn
      obtain ⟨its2, rv2, p2, hz2⟩ := I.seqA (b := false) hq2
      have hi : i < xs.length := by have := (List.getElem?_eq_some_iff.mp hx).1; rwa [List.length_reverse] at this
      have hx' : xs[n - 1 - i]? = some x := by rw [List.getElem?_reverse hi, hn] at hx; exact hx
      obtain ⟨u, hu, ru⟩ := rv1.get hx'
      obtain ⟨v, hv, rv⟩ := rv2.get hy
      obtain ⟨h1, h2, ⟨a0, b0, h3⟩, h4, h5⟩ := st
      have hT : s.TypeIs (.ref z) "zip" := ⟨_, h1, rfl⟩
      unfold pyNext
      refine wpAny_bind (wpAny_attempt (wpAny_callSpecial?_slot (name := Str.ofString "__next__") hT F.slot_zip_next (wpAny_call_entry F.slot_zip_next hT F.entry_zip_next
        (zipS_item (src_rev i1 l1 D.l1i1 n its1.toArray hn1) (srcA i2 l2 D.l2i2 its2.toArray false) D h1 h2 h3 ⟨h4, p1.isList⟩ ⟨h5, p2⟩ (rev_get hn1 (by omega) hu) (by simpa using hv) fun h' T y1 y2 y3 y4 y5 y6 y7 y8 y9 y10 kk => wpAny_pure ?_) (F.args_zip_next_1 _))))
      refine ⟨_, rfl, ?_⟩
      refine wpAny_letOwnedTupleGo_zip (s := { s with heap := h' }) y1 fun h2' y11 u11 => ?_
      have nTI : T ≠ TI := Nat.ne_of_gt (Nat.lt_of_lt_of_le (Heap.lt_size h2) y6)
      have kk2 : ∀ b o, b ∉ [z, TI, TO, i1, i2] → s.heap.get? b = some o → h2'.get? b = some o := fun b o hb e => by
        have hb' : b ≠ z ∧ b ≠ TI ∧ b ≠ TO ∧ b ≠ i1 ∧ b ≠ i2 := by simpa using hb
        exact u11.extBut _ _ hb'.1 (kk b o hb'.1 hb'.2.2.1 hb'.2.2.2.1 hb'.2.2.2.2 e)
      refine ⟨.ref T, upd H T (.tup [x, y]), I.newTup (ch := [z, TI, TO, i1, i2]) (t' := s.toks) (its := [u, v]) hf kk2 y6 (.cons ru (.cons rv .nil)) ⟨⟨_, u11.extBut _ _ y7 y5, rfl, _, rfl⟩, _, u11.extBut _ _ y7 y5, rfl⟩ (by show 2 ≤ sizeLine; decide), rfl,
        ⟨T, _, I.hok.fresh y6, rfl, ⟨x, y, fun zs hz => by rw [I.list_inj hz hq1]; exact hx, fun zs hz => I.seqA_inj (b := false) hq2 hz hy, rfl⟩, rfl⟩, ⟨y11, u11.extBut _ _ d1 (kk _ _ d1 d5 d6 d7 h2), ⟨_, _, u11.extBut _ _ d2 y2⟩, y3.1.at fun o e => u11.extBut _ _ d3 e, ItA.at (fun o e => u11.extBut _ _ d4 e) y4.1⟩, fun b hb => ?_⟩
      have nb : b ≠ T := fun q => by
        have hb' : b = z ∨ b = TI ∨ b = TO ∨ b = i1 ∨ b = i2 := by simpa using hb
        rw [q] at hb'
        rcases hb' with e | e | e | e | e
        · exact y7 e
        · exact nTI e
        · exact y8 e
        · exact y9 e
        · exact y10 e
      rw [upd_ne nb]; exact (hf b hb).1
    done := by
      intro X hP hw hK hc i pins s σ H E I hf st hg
      subst hP hw hK
      obtain ⟨xs, ys, hq1, hn, hq2, hi⟩ := hg
      obtain ⟨its1, rv1, p1, hz1⟩ := I.list hq1
      have hn1 : its1.toArray.size = n := by rw [List.size_toArray, ← rv1.length]; exact hn
      obtain ⟨its2, rv2, p2, hz2⟩ := I.seqA (b := false) hq2
      obtain ⟨h1, h2, ⟨a0, b0, h3⟩, h4, h5⟩ := st
      have hT : s.TypeIs (.ref z) "zip" := ⟨_, h1, rfl⟩
      have hend : its1.toArray.reverse[i]? = none ∨ its2.toArray[i]? = none := by
        have e1 := rv1.length
        have e2 := rv2.length
        rcases Nat.le_total xs.length ys.length with h | h
        · exact .inl (by simp; omega)
        · exact .inr (by simp; omega)
      unfold pyNext
      refine wpAny_bind (wpAny_attempt (wpAny_callSpecial?_slot (name := Str.ofString "__next__") hT F.slot_zip_next (wpAny_call_entry F.slot_zip_next hT F.entry_zip_next
        (zipS_end (I.ok.hd hc) (src_rev i1 l1 D.l1i1 n its1.toArray hn1) (srcA i2 l2 D.l2i2 its2.toArray false) D h1 h2 h3 ⟨h4, p1.isList⟩ ⟨h5, p2⟩ hend fun h' e kk he => ?_) (F.args_zip_next_1 _))))
      obtain ⟨oe, hoe, ce⟩ := he
      refine wpAny_bind (wpAny_isInstance (T := "StopIteration") (b := true) ⟨oe, hoe, ce⟩ isSubtype_stop (wpAny_pure ⟨rfl, ?_⟩))
      have kk' : ∀ b o, b ∉ [z, TO, i1, i2] → s.heap.get? b = some o → h'.get? b = some o := fun b o hb e => by
        have hb' : b ≠ z ∧ b ≠ TO ∧ b ≠ i1 ∧ b ≠ i2 := by simpa using hb
        exact kk b o hb'.1 hb'.2.1 hb'.2.2.1 hb'.2.2.2 e
      refine I.step (t' := s.toks) (g' := s.gens) (d' := s.drawn) (ch := [z, TO, i1, i2]) (fun b hb => ?_) (fun b o _ _ hc e _ => kk' b o hc e) (fun b o _ _ hc e _ => ⟨o.slots, kk' b o hc e⟩) (fun _ _ _ _ n => n)
        (fun b o hc e => ⟨o, kk' b o hc e⟩) (fun _ _ e => e) (fun _ _ _ e => e) (fun b ps e => ⟨#[], by rw [e]; simp⟩) (fun m hm => ?_) (fun b u e => ?_) I.bare
      · obtain ⟨_, a1, _, a2, a3, a4⟩ := hf b (by simp at hb ⊢; rcases hb with e | e | e | e <;> simp [e])
        exact ⟨a2, a1, a3, a4⟩
      · obtain ⟨o, es, ep, ho, r⟩ := hm
        exact ⟨o, es, ep, kk' _ o (fun q => (hf _ (by simp at q ⊢; rcases q with e | e | e | e <;> simp [e])).2.1 rfl) ho, r⟩
      · have nch : ∀ b u, H b = some u → b ∉ [z, TO, i1, i2] := fun b u e hb => by
          rw [(hf b (by simp at hb ⊢; rcases hb with e | e | e | e <;> simp [e])).1] at e; cases e
        refine (I.hok b u e).stay (fun c v hc q => kk' c v ?_ q) (fun _ q => q) fun _ _ q => q
        rcases hc with z' | z'
        · rw [z']; exact nch b u e
        · exact nch c _ z'
    self := fun _ _ _ _ _ st h => wpAny_pyIter_zip st.1 h }
end L2
namespace L2
open PySem PySem.Spec PyProof.Rows
abbrev yh1 (h : Heap) (l2 : Addr) : Heap := h.push (itO l2 false)
abbrev yh2 (h : Heap) (r l2 : Addr) : Heap := (yh1 h l2).push { cls := .type "tuple", data := .seq #[.ref r, .ref h.objs.size] }
abbrev yh3 (h : Heap) (r l2 : Addr) : Heap := (yh2 h r l2).push { cls := .type "tuple", data := .seq #[.none, .none] }
abbrev yh4 (h : Heap) (r l2 : Addr) : Heap := (yh3 h r l2).push { cls := .type "zip", data := .fields #[.none, .bool false, .bool false, .ref (yh1 h l2).objs.size, .ref (yh2 h r l2).objs.size] }
theorem meets_zipR (r l1 l2 : Addr) (k : Int) (ys : Array Value) :
    Meets (Builtin.«zip.__new__» ⟨[.type "zip", .ref r, .ref l2], []⟩) (fun _ R s => s.heap.IsRevIter r l1 k ∧ HasA s.heap l2 ys false ∧ R (.ok (.ret (.ref (yh3 s.heap r l2).objs.size))) { s with heap := yh4 s.heap r l2 }) :=
  .of_wp fun prog w A R s h => by
    obtain ⟨hp, g, d, tk, os⟩ := s
    obtain ⟨m1, m2, h⟩ := h
    have hsub := sub_zip
    have n1 : Heap.IsRevIter (Shared.heap ⟨hp, g, d, tk, os⟩) r l1 k := m1
    have n2 : HasA (Shared.heap ⟨hp, g, d, tk, os⟩) l2 ys false := m2
    wp_walk using wpAny_pyIter_revIter n1, pyIterA n2
    exact ⟨_, rfl, h⟩
theorem call_zipR {P : Program} {w : World} {A : Around} {E : Value → Shared → Prop} {s : Shared} {r l1 l2 : Addr} {k : Int} {ys : Array Value} {Q : Value → Shared → Prop} (m1 : s.heap.IsRevIter r l1 k) (m2 : HasA s.heap l2 ys false)
    (q : ∀ h', IsZip h' (s.heap.objs.size + 3) (s.heap.objs.size + 1) (s.heap.objs.size + 2) .none → IsPair h' (s.heap.objs.size + 1) (.ref r) (.ref s.heap.objs.size) →
      IsPair h' (s.heap.objs.size + 2) .none .none → ItA h' s.heap.objs.size l2 0 false → (∀ c o, s.heap.get? c = some o → h'.get? c = some o) → Q (.ref (s.heap.objs.size + 3)) { s with heap := h' }) :
    wpAny (model P w) A (call (.type "zip") [.ref r, .ref l2]) Q E s := by
  refine callType_new F.called_zip (by decide) (F.typeCall_zip_2 _ _) (F.newCall_zip_2 _ _) (fun ob => F.args_object_init_3 ob _ _) F.entry_zip_new (meets_zipR r l1 l2 k ys) ⟨m1, m2, ?_⟩
  have k1 : (yh1 s.heap l2).objs.size = s.heap.objs.size + 1 := Heap.size_push ..
  have k2 : (yh2 s.heap r l2).objs.size = s.heap.objs.size + 2 := by rw [Heap.size_push, k1]
  have k3 : (yh3 s.heap r l2).objs.size = s.heap.objs.size + 3 := by rw [Heap.size_push, k2]
  have t5 : (yh4 s.heap r l2).get? (yh3 s.heap r l2).objs.size = some _ := Heap.get?_push_size _ rfl
  have t4 : (yh4 s.heap r l2).get? (yh2 s.heap r l2).objs.size = some _ := Heap.get?_push_of_some _ (Heap.get?_push_size _ rfl)
  have t3 : (yh4 s.heap r l2).get? (yh1 s.heap l2).objs.size = some _ := Heap.get?_push_of_some _ (Heap.get?_push_of_some _ (Heap.get?_push_size _ rfl))
  have fr : ∀ b l, (itO l b).isFreed = false := fun b l => by cases b <;> rfl
  have t2 : (yh4 s.heap r l2).get? s.heap.objs.size = some (itO l2 false) := Heap.get?_push_of_some _ (Heap.get?_push_of_some _ (Heap.get?_push_of_some _ (Heap.get?_push_size _ (fr _ _))))
  show _ ∧ _
  rw [k1, k2, k3] at t5
  rw [k1] at t3
  rw [k2] at t4
  rw [k3]
  exact ⟨⟨_, t5, rfl⟩, q _ t5 t3 t4 (itO_at t2) fun c o e => Heap.get?_push_of_some _ (Heap.get?_push_of_some _ (Heap.get?_push_of_some _ (Heap.get?_push_of_some _ e)))⟩
def iZipR (K : PySem.W.Frag) (ta tb : TA) : TI := fun σ H R => ta σ H fun vs H1 => ∃ a xs, vs = [.ref a] ∧ SqL K H1 a xs ∧ tb σ H1 fun us H2 => ∃ b ys, us = [.ref b] ∧ SqL K H2 b ys ∧ SqL K H2 a xs ∧ R (ItzR K xs.length a b) H2
theorem pi_zipR {X : Cx} {l l' : Expr} {ta tb : TA} {elts : List Expr} {k : Nat} {tp p pr pos pos' : Pos} (hg : Gl X "zip") (hm : X.mg "zip" = none) (hgr : Gl X "reversed") (hmr : X.mg "reversed" = none) (hl : PA X [l] ta) (hl' : PA X [l'] tb)
    (hs : starEach [.Call (.Name "reversed" pr) [l] [] pos', l'] X.env = (false, eval (.Call (.Name "reversed" pr) [l] [] pos') X.env) :: starEach [l'] X.env := by rfl) (hs2 : starEach [l'] X.env = [(false, eval l' X.env)] := by rfl) (hs3 : starEach [l] X.env = [(false, eval l X.env)] := by rfl) :
    PI X (.Tuple elts k tp) (.Call (.Name "zip" p) [.Call (.Name "reversed" pr) [l] [] pos', l'] [] pos) (iZipR X.K ta tb) := by
  intro pins s σ H R I h
  refine Call_ (ld_blt I hg hm (by first | exact boot_zip | decide +kernel) (PyProof.Rows.callWith_type1 ?_ hs (by rw [hs2]; rfl)))
  rw [hs]
  show wpAny _ _ (spliced ((false, eval (.Call (.Name "reversed" pr) [l] [] pos') X.env) :: backTo pos (starEach [l'] X.env))) _ _ s
  refine Calls.spliced_cons ?_
  refine Call_ (ld_blt I hgr hmr (show bootBuiltins "reversed" = some (.type "reversed") by decide +kernel) (PyProof.Rows.callWith_type1 (thn (hl pos' pins s σ H _ I h) fun us s1 ⟨vs, H1, I1, r1, q1⟩ => ?_) hs3 rfl))
  obtain ⟨a, xs, e, hq, q⟩ := q1
  subst e
  cases r1 with
  | cons r rr =>
    cases rr
    cases r
    obtain ⟨its, rv, pl, hz⟩ := I1.list hq
    refine call_reversed_list pl.isList ?_
    have e1 : ((its.toArray.size : Nat) : Int) - 1 = (xs.length : Int) - 1 - ((0 : Nat) : Int) := by rw [List.size_toArray, ← rv.length]; simp
    rw [e1]
    have hf0 : H1 s1.heap.objs.size = none := I1.hok.fresh (Nat.le_refl _)
    have fp := I1.fpOk (H' := H1) (Nat.le_refl _) hf0
    have I2 : Inv X pins σ H1 { s1 with heap := s1.heap.push (revObj a ((xs.length : Int) - 1 - ((0 : Nat) : Int))) } := I1.kept (t' := s1.toks) fun b o e => Heap.get?_push_of_some _ e
    have I3 : Inv X ((s1.heap.objs.size, revObj a ((xs.length : Int) - 1 - ((0 : Nat) : Int))) :: pins) σ H1 { s1 with heap := s1.heap.push (revObj a ((xs.length : Int) - 1 - ((0 : Nat) : Int))) } := I2.pins_of fun p hp => by
      rcases List.mem_cons.mp hp with rfl | hp
      · exact ⟨Heap.get?_push_size _ rfl, hf0, fp.2.1, fp.2.2.1, fun v z => by cases z⟩
      · exact I2.pin p (List.mem_append_right _ hp)
    refine thn (hl' pos _ _ σ H1 _ I3 q) fun us s2 ⟨vs, H2, I4, r2, b, ys, e, hq2, hq3, q2⟩ => ?_
    subst e
    cases r2 with
    | cons r rr =>
      cases rr
      cases r
      have hpin := I4.pin (s1.heap.objs.size, revObj a ((xs.length : Int) - 1 - ((0 : Nat) : Int))) (List.mem_append_right _ List.mem_cons_self)
      have I5 : Inv X pins σ H2 s2 := I4.pins_of fun p hp => I4.pin p (List.mem_append_right _ (List.mem_cons_of_mem _ hp))
      have st : s2.heap.IsRevIter s1.heap.objs.size a ((xs.length : Int) - 1 - ((0 : Nat) : Int)) := ⟨_, hpin.1, rfl, rfl⟩
      obtain ⟨its2, rv2, p2, hz2⟩ := I5.seqA (b := false) hq2
      obtain ⟨its3, rv3, p3, hz3⟩ := I5.seqA (b := false) hq3
      obtain ⟨oa, hoa, ca, _⟩ := p3.obj
      obtain ⟨ob, hob, cb, _⟩ := p2.obj
      have la := Heap.lt_size hoa
      have lb := Heap.lt_size hob
      have lr := Heap.lt_size hpin.1
      have nar : a ≠ s1.heap.objs.size := fun z => by
        rw [z] at hoa
        rw [hpin.1] at hoa
        have hoa' := Option.some.inj hoa
        rw [← hoa'] at ca
        rcases ca with ca | ca <;> (replace ca : Value.type "list_reverseiterator" = Value.type _ := ca; injection ca with ca; exact absurd ca (by decide))
      have nbr : b ≠ s1.heap.objs.size := fun z => by
        rw [z] at hob
        rw [hpin.1] at hob
        have hob' := Option.some.inj hob
        rw [← hob'] at cb
        rcases cb with cb | cb <;> (replace cb : Value.type "list_reverseiterator" = Value.type _ := cb; injection cb with cb; exact absurd cb (by decide))
      refine call_zipR st p2 fun h' hz' hTI hTO hi2 kk => ?_
      have I6 : Inv X pins σ H2 { s2 with heap := h' } := I5.kept (t' := s2.toks) kk
      refine wpAny_pyIter_zip (s := { s2 with heap := h' }) hz' ?_
      have nn : ∀ {c : Addr} (j : Nat), c < s2.heap.objs.size → c ≠ s2.heap.objs.size + j := fun j hc => Nat.ne_of_lt (Nat.lt_of_lt_of_le hc (Nat.le_add_right _ _))
      have st' : Heap.IsRevIter h' s1.heap.objs.size a ((xs.length : Int) - 1 - ((0 : Nat) : Int)) := st.at fun o e => kk _ _ e
      refine ⟨s2.heap.objs.size + 3, [s2.heap.objs.size + 3, s2.heap.objs.size + 1, s2.heap.objs.size + 2, s1.heap.objs.size, s2.heap.objs.size], _, _, H2, rfl, I6,
        turn_zipR xs.length a b _ _ _ _ _ (by simp) (by simp) (nn 3 lr) (by simp) (by simp) (nn 1 lr).symm (by simp) (nn 2 lr).symm (by simp) (nn 0 lr) (fun _ => trivial) ⟨nn 2 la, nn 3 la, nar, nn 0 la⟩ ⟨nn 2 lb, nn 3 lb, nbr, nn 0 lb⟩, ⟨hz', hTI, ⟨_, _, hTO⟩, st', hi2⟩, fun c hb => ?_, q2⟩
      have hb' : c = s2.heap.objs.size + 3 ∨ c = s2.heap.objs.size + 1 ∨ c = s2.heap.objs.size + 2 ∨ c = s1.heap.objs.size ∨ c = s2.heap.objs.size := by simpa using hb
      have fresh : s2.heap.objs.size ≤ c → FpOk X pins H2 c := fun hc => I5.fpOk hc (I5.hok.fresh hc)
      rcases hb' with e | e | e | e | e
      · exact fresh (by rw [e]; exact Nat.le_add_right _ _)
      · exact fresh (by rw [e]; exact Nat.le_add_right _ _)
      · exact fresh (by rw [e]; exact Nat.le_add_right _ _)
      · rw [e]; exact ⟨hpin.2.1, fp.2⟩
      · exact fresh (by rw [e]; exact Nat.le_refl _)
theorem pi_zipRK {X : Cx} (K : PySem.W.Frag) {l l' : Expr} {ta tb : TA} {elts : List Expr} {k : Nat} {tp p pr pos pos' : Pos} (hg : Gl X "zip") (hm : X.mg "zip" = none) (hgr : Gl X "reversed") (hmr : X.mg "reversed" = none) (hl : PA X [l] ta) (hl' : PA X [l'] tb)
    (hs : starEach [.Call (.Name "reversed" pr) [l] [] pos', l'] X.env = (false, eval (.Call (.Name "reversed" pr) [l] [] pos') X.env) :: starEach [l'] X.env := by rfl) (hs2 : starEach [l'] X.env = [(false, eval l' X.env)] := by rfl) (hs3 : starEach [l] X.env = [(false, eval l X.env)] := by rfl) (hK : X.K = K := by rfl) :
    PI X (.Tuple elts k tp) (.Call (.Name "zip" p) [.Call (.Name "reversed" pr) [l] [] pos', l'] [] pos) (iZipR K ta tb) := by subst hK; exact pi_zipR hg hm hgr hmr hl hl' hs hs2 hs3
end L2
namespace L2
open PySem PySem.SeqAt PySem.Spec PyProof.Rows
theorem vals_bl : ∀ {bs : List Bool} {its : List Value}, Vals (bs.map V.bl) its → its = bs.map Value.bool
  | [], _, .nil => rfl
  | b :: bs, _, .cons r rr => by rw [vals_bl rr]; cases r; rfl
def rCntB (K : PySem.W.Frag) : V → List V → Hp → VK → Prop := fun x vs H Q => ∃ (l : Addr) (bs : List Bool) (k : Bool), x = .ref l ∧ vs = [.bl k] ∧ SqL K H l (bs.map V.bl) ∧ Q (.int ((bs.count k : Nat) : Int)) H
theorem cnt_bl (k : Bool) : ∀ bs : List Bool, (bs.map Value.bool).countP (isBoolOf k) = bs.count k
  | [] => rfl
  | b :: bs => by
    rw [List.map_cons, List.countP_cons, List.count_cons, cnt_bl k bs]
    rfl
theorem mt_cntB {X : Cx} (K : PySem.W.Frag) (hK : X.K = K := by rfl) : MtR X "list.count" (rCntB K) := by
  subst hK
  intro pins s σ H x vs v us Q I rx rv h
  obtain ⟨l, bs, k, rfl, rfl, hq, q⟩ := h
  cases rx
  obtain ⟨u, rfl, ru⟩ := vals1 rv
  cases ru
  obtain ⟨its, r', pl, _⟩ := I.list hq
  have e := vals_bl r'
  subst e
  obtain ⟨⟨cls, dd, data, sl⟩, ho, hc, n, hd⟩ := pl.isList
  simp only at hc hd
  subst hc hd
  refine call_meets PySem.F.slot_list_count ⟨_, ho, rfl⟩ PySem.F.entry_list_count (PySem.F.args_list_count_2 _ _) (list_countAt l (bs.map Value.bool).toArray n dd sl (.bool k) (isBoolOf k)) ⟨ho, fun y hy => ?_, ?_⟩
  · obtain ⟨b, _, rfl⟩ := List.mem_map.mp (by simpa using hy : y ∈ bs.map Value.bool)
    exact EqAt.bool_bool b k
  · rw [show (bs.map Value.bool).toArray.toList = bs.map Value.bool from rfl, cnt_bl]
    exact ⟨.int _, H, I.tok _, ⟨_, rfl⟩, q⟩
def rIdxB (K : PySem.W.Frag) : V → List V → Hp → VK → Prop := fun x vs H Q => ∃ (l : Addr) (bs : List Bool) (k : Bool) (j : Nat), x = .ref l ∧ vs = [.bl k] ∧ SqL K H l (bs.map V.bl) ∧ bs.length ≤ 1000 ∧ bs[j]? = some k ∧ (∀ i, i < j → bs[i]? ≠ some k) ∧ Q (.int (j : Int)) H
theorem mt_idxB {X : Cx} (K : PySem.W.Frag) (hK : X.K = K := by rfl) : MtR X "list.index" (rIdxB K) := by
  subst hK
  intro pins s σ H x vs v us Q I rx rv h
  obtain ⟨l, bs, k, j, rfl, rfl, hq, hz, hj, hno, q⟩ := h
  cases rx
  obtain ⟨u, rfl, ru⟩ := vals1 rv
  cases ru
  obtain ⟨its, r', pl, _⟩ := I.list hq
  have e := vals_bl r'
  subst e
  obtain ⟨⟨cls, dd, data, sl⟩, ho, hc, n, hd⟩ := pl.isList
  simp only at hc hd
  subst hc hd
  obtain ⟨hjl, hje⟩ := List.getElem?_eq_some_iff.mp hj
  refine call_meets PySem.F.slot_list_index ⟨_, ho, rfl⟩ PySem.F.entry_list_index (PySem.F.args_list_index_2 _ _) (list_indexAt l (bs.map Value.bool).toArray n dd sl (.bool k) (isBoolOf k) j (by simpa using hjl) (by omega) ?_ ?_) ⟨ho, fun y hy => ?_, ?_⟩
  · simp [isBoolOf, hje]
  · intro m hm hlt
    have hm' : m < bs.length := by simpa using hm
    have := hno m hlt
    rw [List.getElem?_eq_getElem hm'] at this
    have : bs[m] ≠ k := fun z => this (by rw [z])
    simp [isBoolOf, this]
  · obtain ⟨b, _, rfl⟩ := List.mem_map.mp (by simpa using hy : y ∈ bs.map Value.bool)
    exact EqAt.bool_bool b k
  · exact ⟨.int _, H, I.tok _, ⟨_, rfl⟩, q⟩
end L2
namespace L2
open PySem PySem.Spec PyProof.Rows
theorem call_strI {X : Cx} : CallR X (.type "str") (fun xs H Q => ∃ i : Int, xs = [.int i] ∧ i.natAbs < 2 ^ 1900 ∧ ∀ z : Str, z.length ≤ 601 → Q (.str z) H) := by
  intro pins s σ H xs us Q I r h
  obtain ⟨i, rfl, hi, q⟩ := h
  obtain ⟨u, rfl, t, rfl⟩ := vals1 r
  have h1 : i.natAbs.log2 < 1920 := by
    by_cases h0 : i.natAbs = 0
    · rw [h0]; decide
    · exact (Nat.log2_lt h0).mpr (Nat.lt_trans hi (by decide +kernel))
  have h2 := int_text_length_le10 (a := i) (k := 600) (by decide) (Nat.lt_trans hi (by decide +kernel))
  have h3 : (Str.ofString (toString i)).length ≤ 601 := by rw [PySem.ofString_length]; exact h2
  exact PySem.P.str_of_int h1 ⟨.str _, H, I.tok _, ⟨_, rfl⟩, q _ h3⟩
end L2
namespace L2
open PySem PySem.Spec PyProof.Rows
abbrev IsTri (h : Heap) (T : Addr) (a b c : Value) : Prop := h.get? T = some { cls := .type "tuple", data := .seq #[a, b, c] }
structure Apart3 (z TI TO i1 i2 i3 l1 l2 l3 : Addr) : Prop where
  TIz : TI ≠ z
  TOz : TO ≠ z
  i1z : i1 ≠ z
  i2z : i2 ≠ z
  i3z : i3 ≠ z
  TITO : TI ≠ TO
  TIi1 : TI ≠ i1
  TIi2 : TI ≠ i2
  TIi3 : TI ≠ i3
  TOi1 : TO ≠ i1
  TOi2 : TO ≠ i2
  TOi3 : TO ≠ i3
  i12 : i1 ≠ i2
  i13 : i1 ≠ i3
  i23 : i2 ≠ i3
  l1z : l1 ≠ z
  l1TO : l1 ≠ TO
  l1i1 : l1 ≠ i1
  l1i2 : l1 ≠ i2
  l1i3 : l1 ≠ i3
  l2z : l2 ≠ z
  l2TO : l2 ≠ TO
  l2i1 : l2 ≠ i1
  l2i2 : l2 ≠ i2
  l2i3 : l2 ≠ i3
  l3z : l3 ≠ z
  l3TO : l3 ≠ TO
  l3i1 : l3 ≠ i1
  l3i2 : l3 ≠ i2
  l3i3 : l3 ≠ i3
theorem updateSeq_tri {prog : Program} {w : World} {A : Around} {E : Value → Shared → Prop} {s : Shared} {T : Addr} {a b c x : Value} {k : Nat} {Q : Unit → Shared → Prop} (hT : IsTri s.heap T a b c)
    (h : ∀ h', h'.get? T = some { cls := .type "tuple", data := .seq ((#[a, b, c] : Array Value).setIfInBounds k x) } → Heap.SameBut T s.heap h' → Q () { s with heap := h' }) :
    wpAny (model prog w) A (updateSeq T (·.setIfInBounds k x)) Q E s := by
  refine wpAny_updateSeq hT rfl (h _ ?_ (Heap.SameBut.update ..))
  rw [Heap.get?_update_self _ hT rfl]
  simp [Obj.mapSeq]
section
variable {P : Program} {w : World} {A : Around} {E : Value → Shared → Prop} {s : Shared} {z TI TO i1 i2 i3 l1 l2 l3 : Addr} {xs ys zs : Array Value} {S1 S2 S3 : Nat → Heap → Prop}
theorem zip3_item {k : Nat} {x y v a b c : Value} {Q : Value → Shared → Prop} (c1 : Src P w i1 l1 xs S1) (c2 : Src P w i2 l2 ys S2) (c3 : Src P w i3 l3 zs S3) (D : Apart3 z TI TO i1 i2 i3 l1 l2 l3) (hz : IsZip s.heap z TI TO .none) (hTI : IsTri s.heap TI (.ref i1) (.ref i2) (.ref i3)) (hTO : IsTri s.heap TO a b c)
    (st1 : S1 k s.heap) (st2 : S2 k s.heap) (st3 : S3 k s.heap) (hx : xs[k]? = some x) (hy : ys[k]? = some y) (hv : zs[k]? = some v)
    (q : ∀ (h' : Heap) (T : Addr), IsZip h' z TI TO (rawInt T) → IsTri h' TO x y v → S1 (k + 1) h' → S2 (k + 1) h' → S3 (k + 1) h' → IsTri h' T x y v → s.heap.objs.size ≤ T → T ≠ z → T ≠ TO → T ≠ i1 → T ≠ i2 → T ≠ i3 →
      (∀ c o, c ≠ z → c ≠ TO → c ≠ i1 → c ≠ i2 → c ≠ i3 → s.heap.get? c = some o → h'.get? c = some o) → Q (.ref T) { s with heap := h' }) :
    wpAny (model P w) A (Builtin.«zip.__next__» ⟨[.ref z], []⟩) (fun fn s' => ∃ v, fn = .done (.ret v) ∧ Q v s') E s := by
  show wpAny _ _ (field (.ref z) 2 >>= _) _ _ _
  refine wpAny_bind (wpAny_field hz rfl (x := .bool false) rfl ?_)
  show wpAny _ _ (field (.ref z) 3 >>= _) _ _ _
  refine wpAny_bind (wpAny_field hz rfl (x := .ref TI) rfl (wpAny_bind (wpAny_seqItems hTI rfl ?_)))
  show wpAny _ _ (Builtin.SmallTypes.ownedTupleIsFree (.ref z) >>= _) _ _ _
  unfold Builtin.SmallTypes.ownedTupleIsFree
  refine wpAny_bind (wpAny_bind (wpAny_field hz rfl (x := .none) rfl (wpAny_pure ?_)))
  simp only [if_true]
  refine wpAny_bind (wpAny_rule (wpAny_bind (wpAny_field hz rfl (x := .ref TO) rfl ?_)))
  refine wpAny_bind (wpAny_setField_rec hz (by simp) fun g1 hz1 u1 => wpAny_bind ?_)
  replace hz1 : IsZip g1 z TI TO .ellipsis := hz1
  simp only [List.zipIdx_cons, List.zipIdx_nil, List.forIn_cons, List.forIn_nil]
  have a1 := c1.off st1 u1.extBut D.i1z D.l1z
  have a2 := c2.off st2 u1.extBut D.i2z D.l2z
  have a3 := c3.off st3 u1.extBut D.i3z D.l3z
  refine wpAny_bind (wpAny_bind (wpAny_onRaise ?_))
  show wpAny _ _ (Builtin.SmallTypes.nextOf (.ref i1) >>= _) _ _ _
  refine wpAny_bind (c1.item _ _ k { s with heap := g1 } x _ a1 hx fun g2 b1 u2 => wpAny_pure ?_)
  have b2 := c2.off a2 u2.extBut D.i12.symm D.l2i1
  have b3 := c3.off a3 u2.extBut D.i13.symm D.l3i1
  have hT2 : IsTri g2 TO a b c := u2.extBut _ _ D.TOi1 (u1.extBut _ _ D.TOz hTO)
  refine wpAny_bind (wpAny_seqItems hT2 rfl (wpAny_bind (updateSeq_tri hT2 fun g3 hT3 u3 => ?_)))
  replace hT3 : IsTri g3 TO x b c := hT3
  refine wpAny_bind (wpAny_letGo (wpAny_pure ?_))
  have d1 := c1.off b1 u3.extBut D.TOi1.symm D.l1TO
  have d2 := c2.off b2 u3.extBut D.TOi2.symm D.l2TO
  have d3 := c3.off b3 u3.extBut D.TOi3.symm D.l3TO
  refine wpAny_bind (wpAny_bind (wpAny_onRaise ?_))
  show wpAny _ _ (Builtin.SmallTypes.nextOf (.ref i2) >>= _) _ _ _
  refine wpAny_bind (c2.item _ _ k { s with heap := g3 } y _ d2 hy fun g4 e2 u4 => wpAny_pure ?_)
  have e1 := c1.off d1 u4.extBut D.i12 D.l1i2
  have e3 := c3.off d3 u4.extBut D.i23.symm D.l3i2
  have hT4 : IsTri g4 TO x b c := u4.extBut _ _ D.TOi2 hT3
  refine wpAny_bind (wpAny_seqItems hT4 rfl (wpAny_bind (updateSeq_tri hT4 fun g5 hT5 u5 => ?_)))
  replace hT5 : IsTri g5 TO x y c := hT5
  refine wpAny_bind (wpAny_letGo (wpAny_pure ?_))
  have f1 := c1.off e1 u5.extBut D.TOi1.symm D.l1TO
  have f2 := c2.off e2 u5.extBut D.TOi2.symm D.l2TO
  have f3 := c3.off e3 u5.extBut D.TOi3.symm D.l3TO
  refine wpAny_bind (wpAny_bind (wpAny_onRaise ?_))
  show wpAny _ _ (Builtin.SmallTypes.nextOf (.ref i3) >>= _) _ _ _
  refine wpAny_bind (c3.item _ _ k { s with heap := g5 } v _ f3 hv fun g6 m3 u6 => wpAny_pure ?_)
  have m1 := c1.off f1 u6.extBut D.i13 D.l1i3
  have m2 := c2.off f2 u6.extBut D.i23 D.l2i3
  have hT6 : IsTri g6 TO x y c := u6.extBut _ _ D.TOi3 hT5
  refine wpAny_bind (wpAny_seqItems hT6 rfl (wpAny_bind (updateSeq_tri hT6 fun g7 hT7 u7 => ?_)))
  replace hT7 : IsTri g7 TO x y v := hT7
  refine wpAny_bind (wpAny_letGo (wpAny_pure (wpAny_pure ?_)))
  have n1 := c1.off m1 u7.extBut D.TOi1.symm D.l1TO
  have n2 := c2.off m2 u7.extBut D.TOi2.symm D.l2TO
  have n3 := c3.off m3 u7.extBut D.TOi3.symm D.l3TO
  refine wpAny_bind (wpAny_seqItems hT7 rfl (wpAny_bind (wpAny_newTuple ?_)))
  have sz : g7.objs.size = s.heap.objs.size := by rw [u7.1, u6.1, u5.1, u4.1, u3.1, u2.1, u1.1]
  have hz7 : IsZip g7 z TI TO .ellipsis := u7.extBut _ _ D.TOz.symm (u6.extBut _ _ D.i3z.symm (u5.extBut _ _ D.TOz.symm (u4.extBut _ _ D.i2z.symm (u3.extBut _ _ D.TOz.symm (u2.extBut _ _ D.i1z.symm hz1)))))
  have k7 : ∀ c o, c ≠ z → c ≠ TO → c ≠ i1 → c ≠ i2 → c ≠ i3 → s.heap.get? c = some o → g7.get? c = some o := fun c o n1 n2 n3 n4 n5 e =>
    u7.extBut _ _ n2 (u6.extBut _ _ n5 (u5.extBut _ _ n2 (u4.extBut _ _ n4 (u3.extBut _ _ n2 (u2.extBut _ _ n3 (u1.extBut _ _ n1 e))))))
  have zl : z < g7.objs.size := Heap.lt_size hz7
  show wpAny _ _ (Builtin.SmallTypes.ownedTupleHandOut (.ref z) (.ref g7.objs.size) >>= _) _ _ _
  unfold Builtin.SmallTypes.ownedTupleHandOut
  have hz8 : IsZip (g7.push { cls := .type "tuple", data := .seq #[x, y, v] }) z TI TO .ellipsis := Heap.get?_push_of_some _ hz7
  refine wpAny_bind (wpAny_bind (wpAny_setField_rec hz8 (by simp) fun g9 hz9 u9 => ?_))
  replace hz9 : IsZip g9 z TI TO (rawInt g7.objs.size) := hz9
  refine wpAny_setField_rec hz9 (by simp) fun g10 hz10 u10 => ?_
  replace hz10 : IsZip g10 z TI TO (rawInt g7.objs.size) := hz10
  have up : ∀ c o, c ≠ z → g7.get? c = some o → g10.get? c = some o := fun c o n e => u10.extBut _ _ n (u9.extBut _ _ n (Heap.get?_push_of_some _ e))
  have hN : IsTri g10 g7.objs.size x y v := u10.extBut _ _ (Nat.ne_of_gt zl) (u9.extBut _ _ (Nat.ne_of_gt zl) (Heap.get?_push_size _ rfl))
  have o1 : g7.objs.size ≠ i1 := by obtain ⟨o, _, ho, _⟩ := c1.obj _ _ n1; exact Nat.ne_of_gt (Heap.lt_size ho)
  have o2 : g7.objs.size ≠ i2 := by obtain ⟨o, _, ho, _⟩ := c2.obj _ _ n2; exact Nat.ne_of_gt (Heap.lt_size ho)
  have o3 : g7.objs.size ≠ i3 := by obtain ⟨o, _, ho, _⟩ := c3.obj _ _ n3; exact Nat.ne_of_gt (Heap.lt_size ho)
  refine wpAny_pure ⟨_, rfl, q g10 g7.objs.size hz10 (up _ _ D.TOz hT7) ?_ ?_ ?_ hN (Nat.le_of_eq sz.symm) (Nat.ne_of_gt zl) (Nat.ne_of_gt (Heap.lt_size hT7)) o1 o2 o3 fun c o n1 n2 n3 n4 n5 e => up c o n1 (k7 c o n1 n2 n3 n4 n5 e)⟩
  · exact c1.keep _ _ _ n1 fun c hc o ho => up c o (by rcases hc with q | q <;> rw [q] <;> first | exact D.i1z | exact D.l1z) ho
  · exact c2.keep _ _ _ n2 fun c hc o ho => up c o (by rcases hc with q | q <;> rw [q] <;> first | exact D.i2z | exact D.l2z) ho
  · exact c3.keep _ _ _ n3 fun c hc o ho => up c o (by rcases hc with q | q <;> rw [q] <;> first | exact D.i3z | exact D.l3z) ho
theorem zip3_end {k : Nat} {a b c : Value} {Q : Fin → Shared → Prop} (hA : A.handled = none) (c1 : Src P w i1 l1 xs S1) (c2 : Src P w i2 l2 ys S2) (c3 : Src P w i3 l3 zs S3) (D : Apart3 z TI TO i1 i2 i3 l1 l2 l3) (hz : IsZip s.heap z TI TO .none) (hTI : IsTri s.heap TI (.ref i1) (.ref i2) (.ref i3)) (hTO : IsTri s.heap TO a b c)
    (st1 : S1 k s.heap) (st2 : S2 k s.heap) (st3 : S3 k s.heap) (hn : xs[k]? = none ∨ ys[k]? = none ∨ zs[k]? = none)
    (q : ∀ h' e, (∀ c o, c ≠ z → c ≠ TO → c ≠ i1 → c ≠ i2 → c ≠ i3 → s.heap.get? c = some o → h'.get? c = some o) → (∃ o, h'.get? e = some o ∧ o.cls = .type "StopIteration") → E (.ref e) { s with heap := h' }) :
    wpAny (model P w) A (Builtin.«zip.__next__» ⟨[.ref z], []⟩) Q E s := by
  show wpAny _ _ (field (.ref z) 2 >>= _) _ _ _
  refine wpAny_bind (wpAny_field hz rfl (x := .bool false) rfl ?_)
  show wpAny _ _ (field (.ref z) 3 >>= _) _ _ _
  refine wpAny_bind (wpAny_field hz rfl (x := .ref TI) rfl (wpAny_bind (wpAny_seqItems hTI rfl ?_)))
  show wpAny _ _ (Builtin.SmallTypes.ownedTupleIsFree (.ref z) >>= _) _ _ _
  unfold Builtin.SmallTypes.ownedTupleIsFree
  refine wpAny_bind (wpAny_bind (wpAny_field hz rfl (x := .none) rfl (wpAny_pure ?_)))
  simp only [if_true]
  refine wpAny_bind (wpAny_rule (wpAny_bind (wpAny_field hz rfl (x := .ref TO) rfl ?_)))
  refine wpAny_bind (wpAny_setField_rec hz (by simp) fun g1 hz1 u1 => wpAny_bind ?_)
  replace hz1 : IsZip g1 z TI TO .ellipsis := hz1
  simp only [List.zipIdx_cons, List.zipIdx_nil, List.forIn_cons, List.forIn_nil]
  have a1 := c1.off st1 u1.extBut D.i1z D.l1z
  have a2 := c2.off st2 u1.extBut D.i2z D.l2z
  have a3 := c3.off st3 u1.extBut D.i3z D.l3z
  refine wpAny_bind (wpAny_bind (wpAny_onRaise ?_))
  show wpAny _ _ (Builtin.SmallTypes.nextOf (.ref i1) >>= _) _ _ _
  cases hx : xs[k]? with
  | none =>
    refine wpAny_bind (c1.fin _ _ k { s with heap := g1 } _ hA a1 hx fun g2 e u2 he => ?_)
    obtain ⟨oe, hoe, ce⟩ := he
    have hz2 : IsZip g2 z TI TO .ellipsis := u2 _ _ D.i1z.symm hz1
    have ez : e ≠ z := fun q => by subst q; rw [hz2] at hoe; cases hoe; simp at ce
    exact wpAny_setField_rec hz2 (by simp) fun g3 _ u3 => q g3 e (fun c o n1 _ n3 _ _ ho => u3.extBut _ _ n1 (u2 _ _ n3 (u1.extBut _ _ n1 ho))) ⟨oe, u3.extBut _ _ ez hoe, ce⟩
  | some x =>
    refine wpAny_bind (c1.item _ _ k { s with heap := g1 } x _ a1 hx fun g2 b1 u2 => wpAny_pure ?_)
    have b2 := c2.off a2 u2.extBut D.i12.symm D.l2i1
    have b3 := c3.off a3 u2.extBut D.i13.symm D.l3i1
    have hT2 : IsTri g2 TO a b c := u2.extBut _ _ D.TOi1 (u1.extBut _ _ D.TOz hTO)
    refine wpAny_bind (wpAny_seqItems hT2 rfl (wpAny_bind (updateSeq_tri hT2 fun g3 hT3 u3 => ?_)))
    replace hT3 : IsTri g3 TO x b c := hT3
    refine wpAny_bind (wpAny_letGo (wpAny_pure ?_))
    have d2 := c2.off b2 u3.extBut D.TOi2.symm D.l2TO
    have d3 := c3.off b3 u3.extBut D.TOi3.symm D.l3TO
    refine wpAny_bind (wpAny_bind (wpAny_onRaise ?_))
    show wpAny _ _ (Builtin.SmallTypes.nextOf (.ref i2) >>= _) _ _ _
    cases hy : ys[k]? with
    | none =>
      refine wpAny_bind (c2.fin _ _ k { s with heap := g3 } _ hA d2 hy fun g4 e u4 he => ?_)
      obtain ⟨oe, hoe, ce⟩ := he
      have hz4 : IsZip g4 z TI TO .ellipsis := u4 _ _ D.i2z.symm (u3.extBut _ _ D.TOz.symm (u2.extBut _ _ D.i1z.symm hz1))
      have ez : e ≠ z := fun q => by subst q; rw [hz4] at hoe; cases hoe; simp at ce
      exact wpAny_setField_rec hz4 (by simp) fun g5 _ u5 => q g5 e (fun c o n1 n2 n3 n4 _ ho => u5.extBut _ _ n1 (u4 _ _ n4 (u3.extBut _ _ n2 (u2.extBut _ _ n3 (u1.extBut _ _ n1 ho))))) ⟨oe, u5.extBut _ _ ez hoe, ce⟩
    | some y =>
      have hv : zs[k]? = none := by
        rcases hn with h | h | h
        · rw [hx] at h; cases h
        · rw [hy] at h; cases h
        · exact h
      refine wpAny_bind (c2.item _ _ k { s with heap := g3 } y _ d2 hy fun g4 e2 u4 => wpAny_pure ?_)
      have e3 := c3.off d3 u4.extBut D.i23.symm D.l3i2
      have hT4 : IsTri g4 TO x b c := u4.extBut _ _ D.TOi2 hT3
      refine wpAny_bind (wpAny_seqItems hT4 rfl (wpAny_bind (updateSeq_tri hT4 fun g5 hT5 u5 => ?_)))
      refine wpAny_bind (wpAny_letGo (wpAny_pure ?_))
      have f3 := c3.off e3 u5.extBut D.TOi3.symm D.l3TO
      refine wpAny_bind (wpAny_bind (wpAny_onRaise ?_))
      show wpAny _ _ (Builtin.SmallTypes.nextOf (.ref i3) >>= _) _ _ _
      refine wpAny_bind (c3.fin _ _ k { s with heap := g5 } _ hA f3 hv fun g6 e u6 he => ?_)
      obtain ⟨oe, hoe, ce⟩ := he
      have hz6 : IsZip g6 z TI TO .ellipsis := u6 _ _ D.i3z.symm (u5.extBut _ _ D.TOz.symm (u4.extBut _ _ D.i2z.symm (u3.extBut _ _ D.TOz.symm (u2.extBut _ _ D.i1z.symm hz1))))
      have ez : e ≠ z := fun q => by subst q; rw [hz6] at hoe; cases hoe; simp at ce
      exact wpAny_setField_rec hz6 (by simp) fun g7 _ u7 => q g7 e (fun c o n1 n2 n3 n4 n5 ho => u7.extBut _ _ n1 (u6 _ _ n5 (u5.extBut _ _ n2 (u4.extBut _ _ n4 (u3.extBut _ _ n2 (u2.extBut _ _ n3 (u1.extBut _ _ n1 ho))))))) ⟨oe, u7.extBut _ _ ez hoe, ce⟩
end
def Itz3 (K : PySem.W.Frag) (n : Nat) (l1 l2 l3 : Addr) : It := ItP (fun i H => ∃ xs x ys y zs v, SqL K H l1 xs ∧ xs.length = n ∧ xs.reverse[i]? = some x ∧ SqL K H l2 ys ∧ ys[i]? = some y ∧ SqL K H l3 zs ∧ zs[i]? = some v) (fun i H => ∃ xs ys zs, SqL K H l1 xs ∧ xs.length = n ∧ SqL K H l2 ys ∧ SqL K H l3 zs ∧ min xs.length (min ys.length zs.length) = i)
  (fun i H vs => ∃ x y v, (∀ xs, SqL K H l1 xs → xs.reverse[i]? = some x) ∧ (∀ ys, SqL K H l2 ys → ys[i]? = some y) ∧ (∀ zs, SqL K H l3 zs → zs[i]? = some v) ∧ vs = [x, y, v])
theorem sure_zip3 {K : PySem.W.Frag} {l1 l2 l3 : Addr} {xs ys zs : List V} : Sure2 (Itz3 K xs.length l1 l2 l3) ((xs.reverse.zip (ys.zip zs)).map fun p => [p.1, p.2.1, p.2.2]) (fun H => SqL K H l1 xs ∧ SqL K H l2 ys ∧ SqL K H l3 zs) where
  go := fun i H hi h => by
    have hi' : i < xs.length ∧ i < ys.length ∧ i < zs.length := by simpa [Nat.lt_min] using hi
    exact ⟨xs, xs.reverse[i]'(by rw [List.length_reverse]; exact hi'.1), ys, ys[i], zs, zs[i], h.1, rfl, List.getElem?_eq_getElem _, h.2.1, by simp [hi'.2.1], h.2.2, by simp [hi'.2.2]⟩
  yld := fun i H v H' hi h z => by
    obtain ⟨T, vs, n, rfl, ⟨x, y, v, h1, h2, h3, rfl⟩, rfl⟩ := z
    refine ⟨T, _, n, rfl, rfl, ?_⟩
    have e2 : (ys.zip zs)[i]? = some (y, v) := List.getElem?_zip_eq_some.mpr (show ys[i]? = some (y, v).1 ∧ zs[i]? = some (y, v).2 from ⟨h2 ys h.2.1, h3 zs h.2.2⟩)
    rw [List.getElem?_map, List.getElem?_zip_eq_some.mpr (show xs.reverse[i]? = some (x, (y, v)).1 ∧ (ys.zip zs)[i]? = some (x, (y, v)).2 from ⟨h1 xs h.1, e2⟩)]
    rfl
  stop := fun H h => ⟨xs, ys, zs, h.1, rfl, h.2.1, h.2.2, by simp⟩
end L2
namespace L2
open PySem PySem.Spec PyProof.Rows
theorem typeCall_zip3 (a b c : Value) : checkTypeCall "zip" ⟨[a, b, c], []⟩ = pure () := by kernel_rfl
theorem newCall_zip3 (a b c : Value) : checkBuiltinCall "zip.__new__" ⟨[.type "zip", a, b, c], []⟩ = pure () := by kernel_rfl
theorem args_object_init4 (a b c d : Value) : argsOk "object.__init__" ⟨[a, b, c, d], []⟩ := by
  unfold argsOk; rw [signature?_of (id := "object.__init__") (n := ['_', '_', 't', 'i', 'n', 'i', '_', '_']) (o := ['t', 'c', 'e', 'j', 'b', 'o']) (by kernel_rfl) F.owner_object]; kernel_rfl
abbrev th1 (h : Heap) (l2 : Addr) : Heap := h.push (itO l2 false)
abbrev th2 (h : Heap) (l2 l3 : Addr) : Heap := (th1 h l2).push (itO l3 false)
abbrev th3 (h : Heap) (r l2 l3 : Addr) : Heap := (th2 h l2 l3).push { cls := .type "tuple", data := .seq #[.ref r, .ref h.objs.size, .ref (th1 h l2).objs.size] }
abbrev th4 (h : Heap) (r l2 l3 : Addr) : Heap := (th3 h r l2 l3).push { cls := .type "tuple", data := .seq #[.none, .none, .none] }
abbrev th5 (h : Heap) (r l2 l3 : Addr) : Heap := (th4 h r l2 l3).push { cls := .type "zip", data := .fields #[.none, .bool false, .bool false, .ref (th2 h l2 l3).objs.size, .ref (th3 h r l2 l3).objs.size] }
theorem meets_zip3 (r l1 l2 l3 : Addr) (k : Int) (ys zs : Array Value) :
    Meets (Builtin.«zip.__new__» ⟨[.type "zip", .ref r, .ref l2, .ref l3], []⟩) (fun _ R s => s.heap.IsRevIter r l1 k ∧ HasA s.heap l2 ys false ∧ HasA s.heap l3 zs false ∧ R (.ok (.ret (.ref (th4 s.heap r l2 l3).objs.size))) { s with heap := th5 s.heap r l2 l3 }) :=
  .of_wp fun prog w A R s h => by
    obtain ⟨hp, g, d, tk, os⟩ := s
    obtain ⟨m1, m2, m3, h⟩ := h
    have hsub := sub_zip
    have n1 : Heap.IsRevIter (Shared.heap ⟨hp, g, d, tk, os⟩) r l1 k := m1
    have n2 : HasA (Shared.heap ⟨hp, g, d, tk, os⟩) l2 ys false := m2
    have n3 : HasA (th1 hp l2) l3 zs false := by
      obtain ⟨o, ho, c, n, dd⟩ := (show hp.IsList l3 zs from m3)
      exact (show Heap.IsList _ l3 zs from ⟨o, Heap.get?_push_of_some _ ho, c, n, dd⟩)
    wp_walk using wpAny_pyIter_revIter n1, pyIterA n2, pyIterA n3
    exact ⟨_, rfl, h⟩
theorem call_zip3 {P : Program} {w : World} {A : Around} {E : Value → Shared → Prop} {s : Shared} {r l1 l2 l3 : Addr} {k : Int} {ys zs : Array Value} {Q : Value → Shared → Prop} (m1 : s.heap.IsRevIter r l1 k) (m2 : HasA s.heap l2 ys false) (m3 : HasA s.heap l3 zs false)
    (q : ∀ h', IsZip h' (s.heap.objs.size + 4) (s.heap.objs.size + 2) (s.heap.objs.size + 3) .none → IsTri h' (s.heap.objs.size + 2) (.ref r) (.ref s.heap.objs.size) (.ref (s.heap.objs.size + 1)) →
      IsTri h' (s.heap.objs.size + 3) .none .none .none → ItA h' s.heap.objs.size l2 0 false → ItA h' (s.heap.objs.size + 1) l3 0 false → (∀ c o, s.heap.get? c = some o → h'.get? c = some o) → Q (.ref (s.heap.objs.size + 4)) { s with heap := h' }) :
    wpAny (model P w) A (call (.type "zip") [.ref r, .ref l2, .ref l3]) Q E s := by
  refine callType_new F.called_zip (by decide) (typeCall_zip3 _ _ _) (newCall_zip3 _ _ _) (fun ob => args_object_init4 ob _ _ _) F.entry_zip_new (meets_zip3 r l1 l2 l3 k ys zs) ⟨m1, m2, m3, ?_⟩
  have k1 : (th1 s.heap l2).objs.size = s.heap.objs.size + 1 := Heap.size_push ..
  have k2 : (th2 s.heap l2 l3).objs.size = s.heap.objs.size + 2 := by rw [Heap.size_push, k1]
  have k3 : (th3 s.heap r l2 l3).objs.size = s.heap.objs.size + 3 := by rw [Heap.size_push, k2]
  have k4 : (th4 s.heap r l2 l3).objs.size = s.heap.objs.size + 4 := by rw [Heap.size_push, k3]
  have fr : ∀ b l, (itO l b).isFreed = false := fun b l => by cases b <;> rfl
  have t5 : (th5 s.heap r l2 l3).get? (th4 s.heap r l2 l3).objs.size = some _ := Heap.get?_push_size _ rfl
  have t4 : (th5 s.heap r l2 l3).get? (th3 s.heap r l2 l3).objs.size = some _ := Heap.get?_push_of_some _ (Heap.get?_push_size _ rfl)
  have t3 : (th5 s.heap r l2 l3).get? (th2 s.heap l2 l3).objs.size = some _ := Heap.get?_push_of_some _ (Heap.get?_push_of_some _ (Heap.get?_push_size _ rfl))
  have t2 : (th5 s.heap r l2 l3).get? (th1 s.heap l2).objs.size = some (itO l3 false) := Heap.get?_push_of_some _ (Heap.get?_push_of_some _ (Heap.get?_push_of_some _ (Heap.get?_push_size _ (fr _ _))))
  have t1 : (th5 s.heap r l2 l3).get? s.heap.objs.size = some (itO l2 false) := Heap.get?_push_of_some _ (Heap.get?_push_of_some _ (Heap.get?_push_of_some _ (Heap.get?_push_of_some _ (Heap.get?_push_size _ (fr _ _)))))
  show _ ∧ _
  rw [k2, k3, k4] at t5
  rw [k1, k2] at t3
  rw [k3] at t4
  rw [k1] at t2
  rw [k4]
  exact ⟨⟨_, t5, rfl⟩, q _ t5 t3 t4 (itO_at t1) (itO_at t2) fun c o e => Heap.get?_push_of_some _ (Heap.get?_push_of_some _ (Heap.get?_push_of_some _ (Heap.get?_push_of_some _ (Heap.get?_push_of_some _ e))))⟩
theorem turn_zip3 {P : Program} {w : World} {K : PySem.W.Frag} {elts : List Expr} {k : Nat} {pos : Pos} (n : Nat) (l1 l2 l3 z TI TO i1 i2 i3 : Addr) (D : Apart3 z TI TO i1 i2 i3 l1 l2 l3) :
    Turn P w K (.Tuple elts k pos) (Itz3 K n l1 l2 l3) [z, TI, TO, i1, i2, i3] z (fun i h => IsZip h z TI TO .none ∧ IsTri h TI (.ref i1) (.ref i2) (.ref i3) ∧ (∃ a b c, IsTri h TO a b c) ∧ h.IsRevIter i1 l1 ((n : Int) - 1 - (i : Int)) ∧ ItA h i2 l2 i false ∧ ItA h i3 l3 i false) := by
  exact {
    mem := by simp
    obj := fun i h st b hb => by
      obtain ⟨h1, h2, ⟨a, b', c', h3⟩, h4, h5, h6⟩ := st
      obtain ⟨o4, e4, _, q4⟩ := h4
      obtain ⟨o5, e5, q5, _⟩ := h5.obj
      obtain ⟨o6, e6, q6, _⟩ := h6.obj
      have hb' : b = z ∨ b = TI ∨ b = TO ∨ b = i1 ∨ b = i2 ∨ b = i3 := by simpa using hb
      rcases hb' with e | e | e | e | e | e
      · rw [e]; exact ⟨_, h1, fun v z => by cases z⟩
      · rw [e]; exact ⟨_, h2, fun v z => by cases z⟩
      · rw [e]; exact ⟨_, h3, fun v z => by cases z⟩
      · rw [e]; exact ⟨o4, e4, fun v z => by rw [q4] at z; cases z⟩
      · rw [e]; exact ⟨o5, e5, fun v z => by rw [q5] at z; cases z⟩
      · rw [e]; exact ⟨o6, e6, fun v z => by rw [q6] at z; cases z⟩
    keep := fun i h h' st kk => by
      obtain ⟨h1, h2, ⟨a, b', c', h3⟩, h4, h5, h6⟩ := st
      exact ⟨kk z (by simp) _ h1, kk TI (by simp) _ h2, ⟨a, b', c', kk TO (by simp) _ h3⟩, h4.at fun o x => kk i1 (by simp) o x, ItA.at (fun o x => kk i2 (by simp) o x) h5, ItA.at (fun o x => kk i3 (by simp) o x) h6⟩
    item := by
      intro X hP hw hK hc i pins s σ H E I hf st hg
      subst hP hw hK
      obtain ⟨xs, x, ys, y, zs, v, hq1, hn, hx, hq2, hy, hq3, hv3⟩ := hg
      obtain ⟨its1, rv1, p1, hz1⟩ := I.list hq1
      have hn1 : its1.toArray.size = n := by rw [List.size_toArray, ← rv1.length]; exact hn
      obtain ⟨its2, rv2, p2, hz2⟩ := I.seqA (b := false) hq2
      obtain ⟨its3, rv3, p3, hz3⟩ := I.seqA (b := false) hq3
      have hi : i < xs.length := by have := (List.getElem?_eq_some_iff.mp hx).1; rwa [List.length_reverse] at this
      have hx' : xs[n - 1 - i]? = some x := by rw [List.getElem?_reverse hi, hn] at hx; exact hx
      obtain ⟨u, hu, ru⟩ := rv1.get hx'
      obtain ⟨v2, hv2, rvy⟩ := rv2.get hy
      obtain ⟨v3, hv3', rvv⟩ := rv3.get hv3
      obtain ⟨h1, h2, ⟨a0, b0, c0, h3⟩, h4, h5, h6⟩ := st
      have hT : s.TypeIs (.ref z) "zip" := ⟨_, h1, rfl⟩
      unfold pyNext
      refine wpAny_bind (wpAny_attempt (wpAny_callSpecial?_slot (name := Str.ofString "__next__") hT F.slot_zip_next (wpAny_call_entry F.slot_zip_next hT F.entry_zip_next
        (zip3_item (src_rev i1 l1 D.l1i1 n its1.toArray hn1) (srcA i2 l2 D.l2i2 its2.toArray false) (srcA i3 l3 D.l3i3 its3.toArray false) D h1 h2 h3 ⟨h4, p1.isList⟩ ⟨h5, p2⟩ ⟨h6, p3⟩ (rev_get hn1 (by omega) hu) (by simpa using hv2) (by simpa using hv3') fun h' T y1 y2 y3 y4 y4b y5 y6 y7 y8 y9 y10 y10b kk => wpAny_pure ?_) (F.args_zip_next_1 _))))
      refine ⟨_, rfl, ?_⟩
      refine wpAny_letOwnedTupleGo_zip (s := { s with heap := h' }) y1 fun h2' y11 u11 => ?_
      have nTI : T ≠ TI := Nat.ne_of_gt (Nat.lt_of_lt_of_le (Heap.lt_size h2) y6)
      have kk2 : ∀ b o, b ∉ [z, TI, TO, i1, i2, i3] → s.heap.get? b = some o → h2'.get? b = some o := fun b o hb e => by
        have hb' : b ≠ z ∧ b ≠ TI ∧ b ≠ TO ∧ b ≠ i1 ∧ b ≠ i2 ∧ b ≠ i3 := by simpa using hb
        exact u11.extBut _ _ hb'.1 (kk b o hb'.1 hb'.2.2.1 hb'.2.2.2.1 hb'.2.2.2.2.1 hb'.2.2.2.2.2 e)
      refine ⟨.ref T, upd H T (.tup [x, y, v]), I.newTup (ch := [z, TI, TO, i1, i2, i3]) (t' := s.toks) (its := [u, v2, v3]) hf kk2 y6 (.cons ru (.cons rvy (.cons rvv .nil))) ⟨⟨_, u11.extBut _ _ y7 y5, rfl, _, rfl⟩, _, u11.extBut _ _ y7 y5, rfl⟩ (by show 3 ≤ sizeLine; decide), rfl,
        ⟨T, _, I.hok.fresh y6, rfl, ⟨x, y, v, fun zs hz => by rw [I.list_inj hz hq1]; exact hx, fun zs hz => I.seqA_inj (b := false) hq2 hz hy, fun zs hz => I.seqA_inj (b := false) hq3 hz hv3, rfl⟩, rfl⟩, ⟨y11, u11.extBut _ _ D.TIz (kk _ _ D.TIz D.TITO D.TIi1 D.TIi2 D.TIi3 h2), ⟨_, _, _, u11.extBut _ _ D.TOz y2⟩, y3.1.at fun o e => u11.extBut _ _ D.i1z e, ItA.at (fun o e => u11.extBut _ _ D.i2z e) y4.1, ItA.at (fun o e => u11.extBut _ _ D.i3z e) y4b.1⟩, fun b hb => ?_⟩
      have nb : b ≠ T := fun q => by
        have hb' : b = z ∨ b = TI ∨ b = TO ∨ b = i1 ∨ b = i2 ∨ b = i3 := by simpa using hb
        rw [q] at hb'
        rcases hb' with e | e | e | e | e | e
        · exact y7 e
        · exact nTI e
        · exact y8 e
        · exact y9 e
        · exact y10 e
        · exact y10b e
      rw [upd_ne nb]; exact (hf b hb).1
    done := by
      intro X hP hw hK hc i pins s σ H E I hf st hg
      subst hP hw hK
      obtain ⟨xs, ys, zs, hq1, hn, hq2, hq3, hi⟩ := hg
      obtain ⟨its1, rv1, p1, hz1⟩ := I.list hq1
      have hn1 : its1.toArray.size = n := by rw [List.size_toArray, ← rv1.length]; exact hn
      obtain ⟨its2, rv2, p2, hz2⟩ := I.seqA (b := false) hq2
      obtain ⟨its3, rv3, p3, hz3⟩ := I.seqA (b := false) hq3
      obtain ⟨h1, h2, ⟨a0, b0, c0, h3⟩, h4, h5, h6⟩ := st
      have hT : s.TypeIs (.ref z) "zip" := ⟨_, h1, rfl⟩
      have hend : its1.toArray.reverse[i]? = none ∨ its2.toArray[i]? = none ∨ its3.toArray[i]? = none := by
        have e1 := rv1.length
        have e2 := rv2.length
        have e3 := rv3.length
        have : xs.length ≤ i ∨ ys.length ≤ i ∨ zs.length ≤ i := by omega
        rcases this with h | h | h
        · exact .inl (by simp; omega)
        · exact .inr (.inl (by simp; omega))
        · exact .inr (.inr (by simp; omega))
      unfold pyNext
      refine wpAny_bind (wpAny_attempt (wpAny_callSpecial?_slot (name := Str.ofString "__next__") hT F.slot_zip_next (wpAny_call_entry F.slot_zip_next hT F.entry_zip_next
        (zip3_end (I.ok.hd hc) (src_rev i1 l1 D.l1i1 n its1.toArray hn1) (srcA i2 l2 D.l2i2 its2.toArray false) (srcA i3 l3 D.l3i3 its3.toArray false) D h1 h2 h3 ⟨h4, p1.isList⟩ ⟨h5, p2⟩ ⟨h6, p3⟩ hend fun h' e kk he => ?_) (F.args_zip_next_1 _))))
      obtain ⟨oe, hoe, ce⟩ := he
      refine wpAny_bind (wpAny_isInstance (T := "StopIteration") (b := true) ⟨oe, hoe, ce⟩ isSubtype_stop (wpAny_pure ⟨rfl, ?_⟩))
      have kk' : ∀ b o, b ∉ [z, TO, i1, i2, i3] → s.heap.get? b = some o → h'.get? b = some o := fun b o hb e => by
        have hb' : b ≠ z ∧ b ≠ TO ∧ b ≠ i1 ∧ b ≠ i2 ∧ b ≠ i3 := by simpa using hb
        exact kk b o hb'.1 hb'.2.1 hb'.2.2.1 hb'.2.2.2.1 hb'.2.2.2.2 e
      have inf : ∀ b, b ∈ [z, TO, i1, i2, i3] → b ∈ [z, TI, TO, i1, i2, i3] := fun b hb => by simp at hb ⊢; rcases hb with e | e | e | e | e <;> simp [e]
      refine I.step (t' := s.toks) (g' := s.gens) (d' := s.drawn) (ch := [z, TO, i1, i2, i3]) (fun b hb => ?_) (fun b o _ _ hc e _ => kk' b o hc e) (fun b o _ _ hc e _ => ⟨o.slots, kk' b o hc e⟩) (fun _ _ _ _ n => n)
        (fun b o hc e => ⟨o, kk' b o hc e⟩) (fun _ _ e => e) (fun _ _ _ e => e) (fun b ps e => ⟨#[], by rw [e]; simp⟩) (fun m hm => ?_) (fun b u e => ?_) I.bare
      · obtain ⟨_, a1, _, a2, a3, a4⟩ := hf b (inf b hb)
        exact ⟨a2, a1, a3, a4⟩
      · obtain ⟨o, es, ep, ho, r⟩ := hm
        exact ⟨o, es, ep, kk' _ o (fun q => (hf _ (inf _ q)).2.1 rfl) ho, r⟩
      · have nch : ∀ b u, H b = some u → b ∉ [z, TO, i1, i2, i3] := fun b u e hb => by
          rw [(hf b (inf b hb)).1] at e; cases e
        refine (I.hok b u e).stay (fun c v hc q => kk' c v ?_ q) (fun _ q => q) fun _ _ q => q
        rcases hc with z' | z'
        · rw [z']; exact nch b u e
        · exact nch c _ z'
    self := fun _ _ _ _ _ st h => wpAny_pyIter_zip st.1 h }
def iZip3 (K : PySem.W.Frag) (ta tb : TA) : TI := fun σ H R => ta σ H fun vs H1 => ∃ a xs, vs = [.ref a] ∧ SqL K H1 a xs ∧ tb σ H1 fun us H2 => ∃ b ys c zs, us = [.ref b, .ref c] ∧ SqL K H2 b ys ∧ SqL K H2 c zs ∧ SqL K H2 a xs ∧ R (Itz3 K xs.length a b c) H2
theorem pi_zip3 {X : Cx} {l l' l'' : Expr} {ta tb : TA} {elts : List Expr} {k : Nat} {tp p pr pos pos' : Pos} (hg : Gl X "zip") (hm : X.mg "zip" = none) (hgr : Gl X "reversed") (hmr : X.mg "reversed" = none) (hl : PA X [l] ta) (hl' : PA X [l', l''] tb)
    (hs : starEach [.Call (.Name "reversed" pr) [l] [] pos', l', l''] X.env = (false, eval (.Call (.Name "reversed" pr) [l] [] pos') X.env) :: starEach [l', l''] X.env := by rfl) (hs2 : starEach [l', l''] X.env = [(false, eval l' X.env), (false, eval l'' X.env)] := by rfl) (hs3 : starEach [l] X.env = [(false, eval l X.env)] := by rfl) :
    PI X (.Tuple elts k tp) (.Call (.Name "zip" p) [.Call (.Name "reversed" pr) [l] [] pos', l', l''] [] pos) (iZip3 X.K ta tb) := by
  intro pins s σ H R I h
  refine Call_ (ld_blt I hg hm (by first | exact boot_zip | decide +kernel) (PyProof.Rows.callWith_type1 ?_ hs (by rw [hs2]; rfl)))
  rw [hs]
  show wpAny _ _ (spliced ((false, eval (.Call (.Name "reversed" pr) [l] [] pos') X.env) :: backTo pos (starEach [l', l''] X.env))) _ _ s
  refine Calls.spliced_cons ?_
  refine Call_ (ld_blt I hgr hmr (show bootBuiltins "reversed" = some (.type "reversed") by decide +kernel) (PyProof.Rows.callWith_type1 (thn (hl pos' pins s σ H _ I h) fun us s1 ⟨vs, H1, I1, r1, q1⟩ => ?_) hs3 rfl))
  obtain ⟨a, xs, e, hq, q⟩ := q1
  subst e
  cases r1 with
  | cons r rr =>
    cases rr
    cases r
    obtain ⟨its, rv, pl, hz⟩ := I1.list hq
    refine call_reversed_list pl.isList ?_
    have e1 : ((its.toArray.size : Nat) : Int) - 1 = (xs.length : Int) - 1 - ((0 : Nat) : Int) := by rw [List.size_toArray, ← rv.length]; simp
    rw [e1]
    have hf0 : H1 s1.heap.objs.size = none := I1.hok.fresh (Nat.le_refl _)
    have fp := I1.fpOk (H' := H1) (Nat.le_refl _) hf0
    have I2 : Inv X pins σ H1 { s1 with heap := s1.heap.push (revObj a ((xs.length : Int) - 1 - ((0 : Nat) : Int))) } := I1.kept (t' := s1.toks) fun b o e => Heap.get?_push_of_some _ e
    have I3 : Inv X ((s1.heap.objs.size, revObj a ((xs.length : Int) - 1 - ((0 : Nat) : Int))) :: pins) σ H1 { s1 with heap := s1.heap.push (revObj a ((xs.length : Int) - 1 - ((0 : Nat) : Int))) } := I2.pins_of fun p hp => by
      rcases List.mem_cons.mp hp with rfl | hp
      · exact ⟨Heap.get?_push_size _ rfl, hf0, fp.2.1, fp.2.2.1, fun v z => by cases z⟩
      · exact I2.pin p (List.mem_append_right _ hp)
    refine thn (hl' pos _ _ σ H1 _ I3 q) fun us s2 ⟨vs, H2, I4, r2, b, ys, c, zs, e, hq2, hqc, hq3, q2⟩ => ?_
    subst e
    cases r2 with
    | cons r rr =>
      cases rr with
      | cons r' rr' =>
        cases rr'
        cases r
        cases r'
        have hpin := I4.pin (s1.heap.objs.size, revObj a ((xs.length : Int) - 1 - ((0 : Nat) : Int))) (List.mem_append_right _ List.mem_cons_self)
        have I5 : Inv X pins σ H2 s2 := I4.pins_of fun p hp => I4.pin p (List.mem_append_right _ (List.mem_cons_of_mem _ hp))
        have st : s2.heap.IsRevIter s1.heap.objs.size a ((xs.length : Int) - 1 - ((0 : Nat) : Int)) := ⟨_, hpin.1, rfl, rfl⟩
        obtain ⟨its2, rv2, p2, hz2⟩ := I5.seqA (b := false) hq2
        obtain ⟨its3, rv3, p3, hz3⟩ := I5.seqA (b := false) hq3
        obtain ⟨its4, rv4, p4, hz4⟩ := I5.seqA (b := false) hqc
        have lr := Heap.lt_size hpin.1
        have off : ∀ {d : Addr} {ws : Array Value}, HasA s2.heap d ws false → d < s2.heap.objs.size ∧ d ≠ s1.heap.objs.size := fun {d ws} pd => by
          obtain ⟨od, hod, cd, _⟩ := pd.obj
          refine ⟨Heap.lt_size hod, fun z => ?_⟩
          rw [z] at hod
          rw [hpin.1] at hod
          have hod' := Option.some.inj hod
          rw [← hod'] at cd
          rcases cd with cd | cd <;> (replace cd : Value.type "list_reverseiterator" = Value.type _ := cd; injection cd with cd; exact absurd cd (by decide))
        obtain ⟨la, nar⟩ := off p3
        obtain ⟨lb, nbr⟩ := off p2
        obtain ⟨lc, ncr⟩ := off p4
        refine call_zip3 st p2 p4 fun h' hz' hTI hTO hi2 hi3 kk => ?_
        have I6 : Inv X pins σ H2 { s2 with heap := h' } := I5.kept (t' := s2.toks) kk
        refine wpAny_pyIter_zip (s := { s2 with heap := h' }) hz' ?_
        have nn : ∀ {c : Addr} (j : Nat), c < s2.heap.objs.size → c ≠ s2.heap.objs.size + j := fun j hc => Nat.ne_of_lt (Nat.lt_of_lt_of_le hc (Nat.le_add_right _ _))
        have st' : Heap.IsRevIter h' s1.heap.objs.size a ((xs.length : Int) - 1 - ((0 : Nat) : Int)) := st.at fun o e => kk _ _ e
        have D : Apart3 (s2.heap.objs.size + 4) (s2.heap.objs.size + 2) (s2.heap.objs.size + 3) s1.heap.objs.size s2.heap.objs.size (s2.heap.objs.size + 1) a b c :=
          ⟨by simp, by simp, nn 4 lr, by simp, by simp, by simp, (nn 2 lr).symm, by simp, by simp, (nn 3 lr).symm, by simp, by simp, nn 0 lr, nn 1 lr, by simp, nn 4 la, nn 3 la, nar, nn 0 la, nn 1 la, nn 4 lb, nn 3 lb, nbr, nn 0 lb, nn 1 lb, nn 4 lc, nn 3 lc, ncr, nn 0 lc, nn 1 lc⟩
        refine ⟨s2.heap.objs.size + 4, [s2.heap.objs.size + 4, s2.heap.objs.size + 2, s2.heap.objs.size + 3, s1.heap.objs.size, s2.heap.objs.size, s2.heap.objs.size + 1], _, _, H2, rfl, I6,
          turn_zip3 xs.length a b c _ _ _ _ _ _ D, ⟨hz', hTI, ⟨_, _, _, hTO⟩, st', hi2, hi3⟩, fun c hb => ?_, q2⟩
        have hb' : c = s2.heap.objs.size + 4 ∨ c = s2.heap.objs.size + 2 ∨ c = s2.heap.objs.size + 3 ∨ c = s1.heap.objs.size ∨ c = s2.heap.objs.size ∨ c = s2.heap.objs.size + 1 := by simpa using hb
        have fresh : s2.heap.objs.size ≤ c → FpOk X pins H2 c := fun hc => I5.fpOk hc (I5.hok.fresh hc)
        rcases hb' with e | e | e | e | e | e
        · exact fresh (by rw [e]; exact Nat.le_add_right _ _)
        · exact fresh (by rw [e]; exact Nat.le_add_right _ _)
        · exact fresh (by rw [e]; exact Nat.le_add_right _ _)
        · rw [e]; exact ⟨hpin.2.1, fp.2⟩
        · exact fresh (by rw [e]; exact Nat.le_refl _)
        · exact fresh (by rw [e]; exact Nat.le_add_right _ _)
theorem pi_zip3K {X : Cx} (K : PySem.W.Frag) {l l' l'' : Expr} {ta tb : TA} {elts : List Expr} {k : Nat} {tp p pr pos pos' : Pos} (hg : Gl X "zip") (hm : X.mg "zip" = none) (hgr : Gl X "reversed") (hmr : X.mg "reversed" = none) (hl : PA X [l] ta) (hl' : PA X [l', l''] tb)
    (hs : starEach [.Call (.Name "reversed" pr) [l] [] pos', l', l''] X.env = (false, eval (.Call (.Name "reversed" pr) [l] [] pos') X.env) :: starEach [l', l''] X.env := by rfl) (hs2 : starEach [l', l''] X.env = [(false, eval l' X.env), (false, eval l'' X.env)] := by rfl) (hs3 : starEach [l] X.env = [(false, eval l X.env)] := by rfl) (hK : X.K = K := by rfl) :
    PI X (.Tuple elts k tp) (.Call (.Name "zip" p) [.Call (.Name "reversed" pr) [l] [] pos', l', l''] [] pos) (iZip3 K ta tb) := by subst hK; exact pi_zip3 hg hm hgr hmr hl hl' hs hs2 hs3
end L2
namespace L2
open PySem PySem.Spec PyProof.Rows
def NoStar (e : Expr) : Prop := ∀ (es : List Expr) (env : Env), starEach (e :: es) env = (false, eval e env) :: starEach es env
theorem ns_C {c j p} : NoStar (.Constant c j p) := fun _ _ => rfl
theorem ns_T {a b p} : NoStar (.Tuple a b p) := fun _ _ => rfl
theorem ns_L {a p} : NoStar (.List a p) := fun _ _ => rfl
theorem ns_N {a p} : NoStar (.Name a p) := fun _ _ => rfl
end L2
namespace L2
open PySem PySem.Spec PyProof.Rows PySem.SeqAt
end L2
namespace L2
open PySem PySem.Spec PyProof.Rows PySem.SeqAt
def rEqL0 (K : PySem.W.Frag) : R2 := fun x y H Q => ∃ (a b : Addr) (xs : List V), x = .ref a ∧ y = .ref b ∧ SqL K H a xs ∧ SqL K H b [] ∧ Q (.bl xs.isEmpty) H
theorem op_eqL0 {X : Cx} (hu : X.A.units + 64 < cLine) : OpR X (compareOp .Eq) (rEqL0 X.K) := by
  intro pins s σ H x y u v Q I rx ry h
  obtain ⟨a, b, xs, rfl, rfl, ha, hb, q⟩ := h
  cases rx
  cases ry
  obtain ⟨i1, r1, p1, _⟩ := I.list ha
  obtain ⟨i2, r2, p2, _⟩ := I.list hb
  cases r2
  cases xs with
  | nil =>
    cases r1
    exact PySem.SeqAt.RcAt.lists (e := fun _ => true) p1.isList p2.isList rfl (show X.A.units < cLine by omega) (fun j h1 h2 => absurd h2 (by simp)) X.prog X.w _ _ ⟨.bl true, H, I, rfl, q⟩
  | cons x xs =>
    cases r1
    exact PySem.SeqAt.RcAt.lists_lengths p1.isList p2.isList (by simp) (show X.A.units < cLine by omega) X.prog X.w _ _ ⟨.bl false, H, I, rfl, q⟩
theorem op_eqL0K {X : Cx} (K : PySem.W.Frag) (hu : X.A.units + 64 < cLine) (hK : X.K = K := by rfl) : OpR X (compareOp .Eq) (rEqL0 K) := by subst hK; exact op_eqL0 hu
def rNeS (K : PySem.W.Frag) : R2 := fun x y H Q => (scal x y = true ∧ x = y ∧ Q (.bl false) H) ∨ rSameV K false x y H Q ∨
  ∃ (a b : Addr) (us : List V) (t : Bool), x = .ref a ∧ y = .ref b ∧ SqA K H a us t ∧ SqA K H b us t ∧ (∀ u ∈ us, flatV u = true ∨ ∃ c, u = .ref c) ∧ Q (.bl false) H
theorem op_neS {X : Cx} (hu : X.A.units + 64 < cLine) : OpR X (compareOp .NotEq) (rNeS X.K) := by
  intro pins s σ H x y u v Q I rx ry h
  rcases h with ⟨h, e, q⟩ | h | ⟨a, b, us, t, rfl, rfl, ha, hb, hf, q⟩
  · exact op_ne pins s σ H x y u v Q I rx ry ⟨h, by rw [decide_eq_true e]; exact q⟩
  · exact op_neV hu pins s σ H x y u v Q I rx ry h
  · cases rx
    cases ry
    obtain ⟨i1, r1, p1, _⟩ := I.seqA ha
    obtain ⟨i2, r2, p2, _⟩ := I.seqA hb
    refine rcne_seq p1 p2 (by rw [← r1.length, ← r2.length]) (by omega) (items_same (n := 0) r1 r2 fun i x y u v e1 e2 g1 g2 => ?_) X.prog X.w _ _ ⟨.bl false, H, I, rfl, q⟩
    rw [e1] at e2
    cases e2
    rcases hf x (List.mem_of_getElem? e1) with h | ⟨c, rfl⟩
    · have := eqAt_V (A := X.A.in1) (s := s) g1 g2 h h
      rwa [eqV_refl h] at this
    · cases g1
      cases g2
      exact PySem.SeqAt.EqAt.same _
theorem op_neSK {X : Cx} (K : PySem.W.Frag) (hu : X.A.units + 64 < cLine) (hK : X.K = K := by rfl) : OpR X (compareOp .NotEq) (rNeS K) := by subst hK; exact op_neS hu
theorem ps_eq {X : Cx} {a b : Stmt} {t : TS} (h : a = b) (p : PS X b t) : PS X a t := h ▸ p
theorem ps_ret6 {X : Cx} {st : Stmt} {e1 e2 e3 e4 e5 e6 b : Expr} {t1 t2 t3 t4 t5 t6 tb : TE} {r : R2} {p p2 pos : Pos} (hst : st = .Return (some (.Subscript (.List [e1, e2, e3, e4, e5, e6] p) b p2)) pos) (hr : IxR X r) (h1 : PE X e1 t1) (h2 : PE X e2 t2) (h3 : PE X e3 t3) (h4 : PE X e4 t4) (h5 : PE X e5 t5) (h6 : PE X e6 t6) (hb : PE X b tb) (hs : PlainIx b) (n1 : NoStar e1) (n2 : NoStar e2) (n3 : NoStar e3) (n4 : NoStar e4) (n5 : NoStar e5) (n6 : NoStar e6) :
    PS X st (tRet (tOp r (tLst (tCons t1 (tCons t2 (tCons t3 (tCons t4 (tCons t5 (tCons t6 tNil))))))) tb)) := by
  subst hst
  exact ps_ret (pe_ix hr (pe_lst (pa_cons h1 (pa_cons h2 (pa_cons h3 (pa_cons h4 (pa_cons h5 (pa_cons h6 pa_nil (n6 _ _)) (n5 _ _)) (n4 _ _)) (n3 _ _)) (n2 _ _)) (n1 _ _))) hb hs)
theorem ps_set5 {X : Cx} (i : Nat) {st : Stmt} {x : Str} {e1 e2 e3 e4 e5 : Expr} {t1 t2 t3 t4 t5 : TE} {p pos pos' : Pos} (hst : st = .Assign [.Name x pos'] (.List [e1, e2, e3, e4, e5] p) pos) (h1 : PE X e1 t1) (h2 : PE X e2 t2) (h3 : PE X e3 t3) (h4 : PE X e4 t4) (h5 : PE X e5 t5) (hN : X.N.Nodup) (hi : X.N[i]? = some x) (hx : Loc X.env.scope x) (hf : X.fn x = true ∨ X.env.scope.names.lookup x = some .local) (n1 : NoStar e1) (n2 : NoStar e2) (n3 : NoStar e3) (n4 : NoStar e4) (n5 : NoStar e5) :
    PS X st (tAsg (tLst (tCons t1 (tCons t2 (tCons t3 (tCons t4 (tCons t5 tNil)))))) (gName i)) := by
  subst hst
  exact ps_set hN hi hx (pe_lst (pa_cons h1 (pa_cons h2 (pa_cons h3 (pa_cons h4 (pa_cons h5 pa_nil (n5 _ _)) (n4 _ _)) (n3 _ _)) (n2 _ _)) (n1 _ _))) rfl hf
theorem ps_add5 {X : Cx} (i : Nat) {st : Stmt} {x : Str} {e0 e1 e2 e3 e4 e5 : Expr} {t0 t1 t2 t3 t4 t5 : TE} {p p2 pos pos' : Pos} (hst : st = .Assign [.Name x pos'] (.BinOp e0 .Add (.List [e1, e2, e3, e4, e5] p) p2) pos) (h0 : PE X e0 t0) (h1 : PE X e1 t1) (h2 : PE X e2 t2) (h3 : PE X e3 t3) (h4 : PE X e4 t4) (h5 : PE X e5 t5) (hN : X.N.Nodup) (hi : X.N[i]? = some x) (hx : Loc X.env.scope x) (hf : X.fn x = true ∨ X.env.scope.names.lookup x = some .local) (n1 : NoStar e1) (n2 : NoStar e2) (n3 : NoStar e3) (n4 : NoStar e4) (n5 : NoStar e5) :
    PS X st (tAsg (tOp rCat t0 (tLst (tCons t1 (tCons t2 (tCons t3 (tCons t4 (tCons t5 tNil))))))) (gName i)) := by
  subst hst
  exact ps_set hN hi hx (pe_op op_cat h0 (pe_lst (pa_cons h1 (pa_cons h2 (pa_cons h3 (pa_cons h4 (pa_cons h5 pa_nil (n5 _ _)) (n4 _ _)) (n3 _ _)) (n2 _ _)) (n1 _ _)))) rfl hf
end L2
namespace Lw
open PySem L2
abbrev tx (w : List Nat) : V := .str ⟨w.toArray⟩
abbrev Rule := Nat × List Nat
structure Good (first : List Nat) (rs : List Rule) : Prop where
  few : rs.length ≤ 8
  rise : (rs.map (·.1)).Pairwise (· < ·)
  abc : ∀ q ∈ rs, 97 ≤ q.1 ∧ q.1 ≤ 122
  wl : ∀ q ∈ rs, q.2.length ≤ 6
  win : ∀ q ∈ rs, ∀ c ∈ q.2, c ∈ rs.map (·.1)
  fl : first.length ≤ 12
  fin : ∀ c ∈ first, c ∈ rs.map (·.1)
inductive RulesAt (H : Hp) : List Addr → List Rule → Prop where
  | nil : RulesAt H [] []
  | cons {p : Addr} {ps : List Addr} {c : Nat} {w : List Nat} {rs : List Rule} : H p = some (.tup [sign c, tx w]) → RulesAt H ps rs → RulesAt H (p :: ps) ((c, w) :: rs)
structure BookAt (H : Hp) (t : Addr) (first : List Nat) (rs : List Rule) : Prop where
  ex : ∃ r ps, H t = some (.tup [tx first, .ref r]) ∧ H r = some (.tup (ps.map V.ref)) ∧ RulesAt H ps rs
def TupS (H H' : Hp) : Prop := ∀ c xs, H c = some (.tup xs) → H' c = some (.tup xs)
theorem TupS.refl (H : Hp) : TupS H H := fun _ _ h => h
theorem TupS.trans {H H1 H2 : Hp} (a : TupS H H1) (b : TupS H1 H2) : TupS H H2 := fun c xs h => b c xs (a c xs h)
theorem TupS.same {H H' : Hp} (s : Same H H') : TupS H H' := fun c xs h => s c _ h
theorem RulesAt.mono {H H' : Hp} (s : TupS H H') : ∀ {ps : List Addr} {rs : List Rule}, RulesAt H ps rs → RulesAt H' ps rs
  | _, _, .nil => .nil
  | _, _, .cons h r => .cons (s _ _ h) (r.mono s)
theorem BookAt.mono {H H' : Hp} {t : Addr} {first : List Nat} {rs : List Rule} (s : TupS H H') (b : BookAt H t first rs) : BookAt H' t first rs := by
  obtain ⟨r, ps, h1, h2, h3⟩ := b.ex
  exact ⟨r, ps, s _ _ h1, s _ _ h2, h3.mono s⟩
theorem RulesAt.len {H : Hp} : ∀ {ps : List Addr} {rs : List Rule}, RulesAt H ps rs → ps.length = rs.length
  | _, _, .nil => rfl
  | _, _, .cons _ r => congrArg (· + 1) r.len
theorem RulesAt.get {H : Hp} : ∀ {ps : List Addr} {rs : List Rule} {i : Nat} {p : Addr}, RulesAt H ps rs → ps[i]? = some p → ∃ c w, rs[i]? = some (c, w) ∧ H p = some (.tup [sign c, tx w])
  | _, _, i, p, .nil, e => by cases i <;> cases e
  | _, _, 0, p, .cons (c := c) (w := w) h r, e => by
    have e' := Option.some.inj e
    subst e'
    exact ⟨c, w, rfl, h⟩
  | _, _, i + 1, p, .cons h r, e => r.get (i := i) e
theorem Same.add {H : Hp} {l : Addr} {o : HO} (h : H l = none) : Same H (upd H l o) := fun b u e => by rw [upd_ne (ne_of_none e h)]; exact e
theorem take_snoc {α β : Type} {xs : List α} {i : Nat} {x : α} (f : α → β) (h : xs[i]? = some x) : (xs.take (i + 1)).map f = (xs.take i).map f ++ [f x] := by
  rw [List.take_add_one, h, List.map_append]
  rfl
theorem take_all {α : Type} (xs : List α) : xs.take xs.length = xs := List.take_length
end Lw
namespace Lw
open PySem L2
theorem join_go : ∀ (r : List Str) (acc : Array Nat), r.foldl (fun acc p => acc ++ (#[] : Array Nat) ++ p.cps) acc = acc ++ ((r.map fun p => p.cps.toList).flatten).toArray
  | [], acc => by simp
  | p :: r, acc => by
    rw [List.foldl_cons, join_go r]
    apply Array.ext'
    simp
theorem join_eq (ss : List Str) : Txt.join ⟨#[]⟩ ss = ⟨((ss.map fun p => p.cps.toList).flatten).toArray⟩ := by
  unfold Txt.join Builtin.Str.glued
  cases ss with
  | nil => rfl
  | cons a r =>
    show (⟨r.foldl (fun acc p => acc ++ (#[] : Array Nat) ++ p.cps) a.cps⟩ : Str) = _
    rw [join_go]
    congr 1
    apply Array.ext'
    simp
theorem join_signs (cs : List Nat) : Txt.join ⟨#[]⟩ (cs.map fun c => (⟨#[c]⟩ : Str)) = ⟨cs.toArray⟩ := by
  rw [join_eq]
  congr 2
  induction cs with
  | nil => rfl
  | cons c r ih =>
    simp only [List.map_cons, List.flatten_cons]
    rw [ih]
    rfl
theorem sum_ones (cs : List Nat) : ((cs.map fun c => (⟨#[c]⟩ : Str)).map (·.length)).sum = cs.length := by
  induction cs with
  | nil => rfl
  | cons c r ih =>
    simp only [List.map_cons, List.sum_cons, List.length_cons]
    rw [ih]
    show 1 + r.length = r.length + 1
    omega
end Lw
namespace Lw
open PySem L2
structure RowsAt (H0 H : Hp) (ls : List Addr) (vs : List (List V)) : Prop where
  len : ls.length = vs.length
  at_ : ∀ (i : Nat) a v, ls[i]? = some a → vs[i]? = some v → H a = some (.lst v)
  new : ∀ a ∈ ls, H0 a = none
  nd : ls.Nodup
theorem RowsAt.nil {H0 H : Hp} : RowsAt H0 H [] [] := ⟨rfl, (fun i a v e _ => by simp at e), (fun a h => by simp at h), List.nodup_nil⟩
theorem RowsAt.mono {H0 H H' : Hp} {ls : List Addr} {vs : List (List V)} (r : RowsAt H0 H ls vs) (s : Same H H') : RowsAt H0 H' ls vs := ⟨r.len, fun i a v e1 e2 => s _ _ (r.at_ i a v e1 e2), r.new, r.nd⟩
theorem RowsAt.there {H0 H : Hp} {ls : List Addr} {vs : List (List V)} (r : RowsAt H0 H ls vs) {a : Addr} (h : a ∈ ls) : ∃ v, H a = some (.lst v) ∧ v ∈ vs := by
  obtain ⟨i, e⟩ := List.mem_iff_getElem?.mp h
  have hi : i < vs.length := by rw [← r.len]; exact (List.getElem?_eq_some_iff.mp e).1
  exact ⟨vs[i], r.at_ i a _ e (by simp [hi]), List.getElem_mem hi⟩
theorem RowsAt.snoc {H0 H H' : Hp} {ls : List Addr} {vs : List (List V)} {a : Addr} {v : List V} (r : RowsAt H0 H ls vs) (s : Same H H') (h0 : H0 a = none) (h1 : H a = none) (h2 : H' a = some (.lst v)) : RowsAt H0 H' (ls ++ [a]) (vs ++ [v]) := by
  have na : a ∉ ls := fun h => by
    obtain ⟨w, e, _⟩ := r.there h
    rw [h1] at e; cases e
  refine ⟨by rw [List.length_append, List.length_append, r.len]; rfl, fun i b u e1 e2 => ?_, fun b hb => ?_, ?_⟩
  · by_cases hi : i < ls.length
    · rw [List.getElem?_append_left hi] at e1
      rw [List.getElem?_append_left (by rw [← r.len]; exact hi)] at e2
      exact s _ _ (r.at_ i b u e1 e2)
    · rw [List.getElem?_append_right (by omega)] at e1
      rw [List.getElem?_append_right (by rw [← r.len]; omega), ← r.len] at e2
      cases z : i - ls.length with
      | zero =>
        rw [z] at e1 e2
        cases e1
        cases e2
        exact h2
      | succ n => rw [z] at e1; cases e1
  · rcases List.mem_append.mp hb with z | z
    · exact r.new b z
    · have z : b = a := by simpa using z
      rw [z]; exact h0
  · exact L2.nd_snoc r.nd na
structure TabAt (H0 H : Hp) (l : Addr) (ls : List Addr) (vs : List (List V)) : Prop where
  top : H l = some (.lst (ls.map V.ref))
  rows : RowsAt H0 H ls vs
  new : H0 l = none
  out : l ∉ ls
theorem TabAt.mono {H0 H H' : Hp} {l : Addr} {ls : List Addr} {vs : List (List V)} (t : TabAt H0 H l ls vs) (s : Same H H') : TabAt H0 H' l ls vs := ⟨s _ _ t.top, t.rows.mono s, t.new, t.out⟩
theorem TabAt.elder {H00 H0 H : Hp} {l : Addr} {ls : List Addr} {vs : List (List V)} (t : TabAt H0 H l ls vs) (s : Same H00 H0) : TabAt H00 H l ls vs := ⟨t.top, ⟨t.rows.len, t.rows.at_, fun a h => s.free (t.rows.new a h), t.rows.nd⟩, s.free t.new, t.out⟩
end Lw
namespace Lw
open PySem PySem.Spec L2 PyProof.Rows
abbrev one (c : Nat) : Str := ⟨#[c]⟩
theorem rising_le : ∀ (a : Nat) (r : List Nat), risingS (one a) (r.map one) = true → (a :: r).Pairwise (· ≤ ·)
  | a, [], _ => by simp
  | a, b :: r, h => by
    have h' : (!ltCps (one b).cps.toList (one a).cps.toList && risingS (one b) (r.map one)) = true := h
    obtain ⟨h1, h2⟩ := Bool.and_eq_true_iff.mp h'
    have ih := rising_le b r h2
    have hab : a ≤ b := by
      have h3 : (decide (b < a) || (b == a && false)) = false := by
        have : ltCps [b] [a] = false := by simpa using h1
        exact this
      have := (Bool.or_eq_false_iff.mp h3).1
      have := of_decide_eq_false this
      omega
    refine List.pairwise_cons.mpr ⟨fun x hx => ?_, ih⟩
    rcases List.mem_cons.mp hx with e | hx
    · rw [e]; exact hab
    · exact Nat.le_trans hab ((List.pairwise_cons.mp ih).1 x hx)
theorem sorted_lt {cs : List Nat} (h : sortedS (cs.map one) = true) (nd : cs.Nodup) : cs.Pairwise (· < ·) := by
  have h1 : cs.Pairwise (· ≤ ·) := by
    cases cs with
    | nil => exact List.Pairwise.nil
    | cons a r => exact rising_le a r h
  exact (h1.and nd).imp fun ⟨a, b⟩ => Nat.lt_of_le_of_ne a b
theorem perm_ones {cs : List Nat} {ss : List Str} (h : ss.Perm (cs.map one)) : ∃ cs' : List Nat, cs'.Perm cs ∧ ss = cs'.map one := by
  refine ⟨ss.map fun z => z.cps.getD 0 0, ?_, ?_⟩
  · have := h.map fun z : Str => z.cps.getD 0 0
    rw [List.map_map] at this
    have e : (fun z : Str => z.cps.getD 0 0) ∘ one = id := by funext c; rfl
    rw [e, List.map_id] at this
    exact this
  · rw [List.map_map]
    conv => lhs; rw [← List.map_id ss]
    refine List.map_congr_left fun z hz => ?_
    obtain ⟨c, _, rfl⟩ := List.mem_map.mp (h.mem_iff.mp hz)
    rfl
end Lw
namespace Lw
open PySem L2
theorem RulesAt.snoc {H : Hp} {p : Addr} {c : Nat} {w : List Nat} (h : H p = some (.tup [sign c, tx w])) : ∀ {ps : List Addr} {rs : List Rule}, RulesAt H ps rs → RulesAt H (ps ++ [p]) (rs ++ [(c, w)])
  | _, _, .nil => .cons h .nil
  | _, _, .cons h1 r => .cons h1 (r.snoc h)
def kvz (cs : List Nat) (ws : List (List Nat)) : List (Key × V) := List.zipWith (fun c w => ((Sum.inr (one c) : Key), tx w)) cs ws
theorem one_inj {a b : Nat} (h : one a = one b) : a = b := by
  have := congrArg (fun z : Str => z.cps.getD 0 0) h
  exact this
theorem kvz_keys : ∀ {cs : List Nat} {ws : List (List Nat)}, ws.length = cs.length → (kvz cs ws).map (·.1) = (cs.map one).map Sum.inr
  | [], [], _ => rfl
  | c :: cs, w :: ws, h => by
    show Sum.inr (one c) :: (kvz cs ws).map (·.1) = _
    rw [kvz_keys (Nat.succ.inj h)]
    rfl
  | [], _ :: _, h => by cases h
  | _ :: _, [], h => by cases h
theorem kvz_none : ∀ {cs : List Nat} {ws : List (List Nat)} {c : Nat}, c ∉ cs → valV (kvz cs ws) (Sum.inr (one c) : Key) = none
  | [], _, _, _ => rfl
  | _ :: _, [], _, _ => rfl
  | a :: cs, w :: ws, c, h => by
    have ih := kvz_none (cs := cs) (ws := ws) (c := c) fun z => h (List.mem_cons_of_mem _ z)
    unfold valV at ih ⊢
    show Option.map _ (List.find? _ (((Sum.inr (one a) : Key), tx w) :: kvz cs ws)) = none
    rw [List.find?_cons_of_neg]
    · exact ih
    · intro z
      have z' : (Sum.inr (one a) : Key) = Sum.inr (one c) := of_decide_eq_true z
      exact h (by rw [one_inj (Sum.inr.inj z')]; exact List.mem_cons_self)
theorem kvz_some : ∀ {cs : List Nat} {ws : List (List Nat)} {c : Nat}, ws.length = cs.length → c ∈ cs → ∃ w ∈ ws, valV (kvz cs ws) (Sum.inr (one c) : Key) = some (tx w)
  | a :: cs, w :: ws, c, hl, h => by
    by_cases e : a = c
    · subst e
      refine ⟨w, List.mem_cons_self, ?_⟩
      unfold valV
      show Option.map _ (List.find? _ (((Sum.inr (one a) : Key), tx w) :: kvz cs ws)) = _
      rw [List.find?_cons_of_pos]
      · rfl
      · exact decide_eq_true rfl
    · have hc : c ∈ cs := by
        rcases List.mem_cons.mp h with z | z
        · exact absurd z.symm e
        · exact z
      obtain ⟨w', hw, ih⟩ := kvz_some (Nat.succ.inj hl) hc
      refine ⟨w', List.mem_cons_of_mem _ hw, ?_⟩
      unfold valV at ih ⊢
      show Option.map _ (List.find? _ (((Sum.inr (one a) : Key), tx w) :: kvz cs ws)) = _
      rw [List.find?_cons_of_neg]
      · exact ih
      · intro z
        have z' : (Sum.inr (one a) : Key) = Sum.inr (one c) := of_decide_eq_true z
        exact e (one_inj (Sum.inr.inj z'))
  | [], _, _, _, h => by simp at h
  | _ :: _, [], _, hl, _ => by cases hl
theorem kvz_snoc {cs : List Nat} {ws : List (List Nat)} {i c : Nat} {w : List Nat} (hl : ws.length = (cs.take i).length) (e : cs[i]? = some c) : kvz (cs.take i) ws ++ [((Sum.inr (one c) : Key), tx w)] = kvz (cs.take (i + 1)) (ws ++ [w]) := by
  unfold kvz
  rw [List.take_add_one, e, List.zipWith_append hl.symm]
  rfl
theorem kvz_len (cs : List Nat) (ws : List (List Nat)) : (kvz cs ws).length ≤ cs.length := by
  unfold kvz
  rw [List.length_zipWith]
  omega
end Lw
namespace Lw
def dot (xs ys : List Int) : Int := (List.zipWith (· * ·) xs ys).sum
theorem dot_cons (x y : Int) (xs ys : List Int) : dot (x :: xs) (y :: ys) = x * y + dot xs ys := by
  unfold dot
  rw [List.zipWith_cons_cons, List.sum_cons]
theorem dot_nil_l (ys : List Int) : dot [] ys = 0 := by unfold dot; simp
theorem dot_nil_r (xs : List Int) : dot xs [] = 0 := by unfold dot; simp
def colAt (T : List (List Int)) (j : Nat) : List Int := T.map fun r => r.getD j 0
def stepC (k : Nat) (T : List (List Int)) (c : List Int) : List Int := (List.range k).map fun j => dot c (colAt T j)
def stepL (T : List (List Int)) (l : List Int) : List Int := T.map fun r => dot r l
def cntN (k : Nat) (T : List (List Int)) (c : List Int) : Nat → List Int
  | 0 => c
  | n + 1 => stepC k T (cntN k T c n)
def lenN (k : Nat) (T : List (List Int)) : Nat → List Int
  | 0 => List.replicate k 1
  | n + 1 => stepL T (lenN k T n)
theorem dot_lin {α : Type} (x : Int) (f g : α → Int) : ∀ (L : List α) (l : List Int), dot (L.map fun j => x * f j + g j) l = x * dot (L.map f) l + dot (L.map g) l
  | [], l => by simp [dot_nil_l]
  | a :: L, [] => by rw [dot_nil_r, dot_nil_r, dot_nil_r]; omega
  | a :: L, y :: l => by
    rw [List.map_cons, List.map_cons, List.map_cons, dot_cons, dot_cons, dot_cons, dot_lin x f g L l, Int.add_mul, Int.mul_add, Int.mul_assoc]
    omega
theorem dot_zero {α : Type} : ∀ (L : List α) (l : List Int), dot (L.map fun _ => 0) l = 0
  | [], l => dot_nil_l _
  | a :: L, [] => dot_nil_r _
  | a :: L, y :: l => by
    rw [List.map_cons, dot_cons, dot_zero L l]
    omega
theorem range_getD {r : List Int} {k : Nat} (h : r.length = k) : (List.range k).map (fun j => r.getD j 0) = r := by
  subst h
  refine List.ext_getElem (by simp) fun i h1 h2 => ?_
  simp [List.getElem_map]
  rw [List.getElem?_eq_getElem h2]
  rfl
theorem dot_exch (k : Nat) (l : List Int) : ∀ (T : List (List Int)) (c : List Int), (∀ r ∈ T, r.length = k) → c.length = T.length → dot c (stepL T l) = dot (stepC k T c) l
  | [], c, _, _ => by
    show dot c [] = dot ((List.range k).map fun j => dot c []) l
    simp only [dot_nil_r]
    rw [dot_zero]
  | r :: T, [], _, hc => by cases hc
  | r :: T, x :: c, hT, hc => by
    have ih := dot_exch k l T c (fun r hr => hT r (List.mem_cons_of_mem _ hr)) (Nat.succ.inj hc)
    show dot (x :: c) (dot r l :: stepL T l) = dot ((List.range k).map fun j => dot (x :: c) (r.getD j 0 :: colAt T j)) l
    rw [dot_cons, ih]
    simp only [dot_cons]
    rw [dot_lin x (fun j => r.getD j 0) (fun j => dot c (colAt T j)), range_getD (hT r List.mem_cons_self)]
    rfl
theorem dot_ones : ∀ c : List Int, dot c (List.replicate c.length 1) = c.sum
  | [] => rfl
  | x :: c => by
    rw [List.length_cons, List.replicate_succ, dot_cons, dot_ones c, List.sum_cons]
    omega
theorem stepC_len (k : Nat) (T : List (List Int)) (c : List Int) : (stepC k T c).length = k := by unfold stepC; simp
theorem cntN_len {k : Nat} {T : List (List Int)} {c : List Int} (h : c.length = k) : ∀ n, (cntN k T c n).length = k
  | 0 => h
  | n + 1 => stepC_len _ _ _
theorem lenN_len {k : Nat} {T : List (List Int)} (h : T.length = k) : ∀ n, (lenN k T n).length = k
  | 0 => by unfold lenN; simp
  | n + 1 => by unfold lenN stepL; rw [List.length_map, h]
theorem parted {k : Nat} {T : List (List Int)} (hT : ∀ r ∈ T, r.length = k) (hk : T.length = k) : ∀ (m a : Nat) (c : List Int), c.length = k → (cntN k T c (a + m)).sum = dot (cntN k T c a) (lenN k T m)
  | 0, a, c, hc => by
    rw [Nat.add_zero]
    have := dot_ones (cntN k T c a)
    rw [cntN_len hc] at this
    exact this.symm
  | m + 1, a, c, hc => by
    show _ = dot (cntN k T c a) (stepL T (lenN k T m))
    rw [dot_exch k _ T _ hT (by rw [cntN_len hc, hk])]
    have ih := parted hT hk m (a + 1) c hc
    rw [show a + (m + 1) = a + 1 + m by omega, ih]
    rfl
def Bd (e : Nat) (c : List Int) : Prop := ∀ x ∈ c, 0 ≤ x ∧ x < 2 ^ e
end Lw
namespace Lw
open PySem L2
def Bz (e : Nat) (c : List Int) : Prop := ∀ x ∈ c, x.natAbs < 2 ^ e
theorem Bd.z {e : Nat} {c : List Int} (h : Bd e c) : Bz e c := fun x hx => by
  obtain ⟨h1, h2⟩ := h x hx
  have h3 : ((x.natAbs : Nat) : Int) = x := Int.natAbs_of_nonneg h1
  have h4 : ((2 ^ e : Nat) : Int) = (2 : Int) ^ e := by push_cast; rfl
  rw [← h3, ← h4] at h2
  exact Int.ofNat_lt.mp h2
structure TabV (H : Hp) (l : Addr) (ls : List Addr) (vs : List (List Int)) : Prop where
  top : H l = some (.lst (ls.map V.ref))
  len : ls.length = vs.length
  at_ : ∀ (i : Nat) a v, ls[i]? = some a → vs[i]? = some v → H a = some (.lst (v.map V.int))
theorem TabV.mono {H H' : Hp} {l : Addr} {ls : List Addr} {vs : List (List Int)} (t : TabV H l ls vs) (s : Same H H') : TabV H' l ls vs := ⟨s _ _ t.top, t.len, fun i a v e1 e2 => s _ _ (t.at_ i a v e1 e2)⟩
theorem TabV.get {H : Hp} {l : Addr} {ls : List Addr} {vs : List (List Int)} (t : TabV H l ls vs) {i : Nat} {v : List Int} (e : vs[i]? = some v) : ∃ a, ls[i]? = some a ∧ H a = some (.lst (v.map V.int)) := by
  have hi : i < ls.length := by rw [t.len]; exact (List.getElem?_eq_some_iff.mp e).1
  exact ⟨ls[i], List.getElem?_eq_getElem hi, t.at_ i _ v (List.getElem?_eq_getElem hi) e⟩
def tabI (rs : List Rule) : List (List Int) := rs.map fun q => rs.map fun q' => ((q.2.count q'.1 : Nat) : Int)
def c0 (rs : List Rule) (w : List Nat) : List Int := rs.map fun q => ((w.count q.1 : Nat) : Int)
theorem tabI_len (rs : List Rule) : (tabI rs).length = rs.length := by unfold tabI; rw [List.length_map]
theorem c0_len (rs : List Rule) (f : List Nat) : (c0 rs f).length = rs.length := by unfold c0; rw [List.length_map]
theorem tabI_row {rs : List Rule} {r : List Int} (h : r ∈ tabI rs) : r.length = rs.length := by
  unfold tabI at h
  obtain ⟨q, _, rfl⟩ := List.mem_map.mp h
  rw [List.length_map]
theorem rng_at {n i : Nat} {x : V} (h : (rngV 0 n)[i]? = some x) : i < n ∧ x = .int (i : Int) := by
  have h1 : i < n := by
    have := (List.getElem?_eq_some_iff.mp h).1
    rwa [rngV_length] at this
  refine ⟨h1, ?_⟩
  unfold rngV at h
  rw [List.getElem?_map, List.getElem?_range h1] at h
  have := (Option.some.inj h).symm
  rw [this]
  show V.int (0 + (i : Int)) = _
  rw [Int.zero_add]
def lk : List Nat → List Int → Nat → Int
  | c :: cs, n :: ns, x => if c = x then n else lk cs ns x
  | _, _, _ => 0
def dkI (cs : List Nat) (ns : List Int) : List (Key × V) := List.zipWith (fun c n => ((Sum.inr (one c) : Key), V.int n)) cs ns
theorem dkI_val : ∀ {cs : List Nat} {ns : List Int} {c : Nat}, ns.length = cs.length → c ∈ cs → valV (dkI cs ns) (Sum.inr (one c) : Key) = some (.int (lk cs ns c))
  | a :: cs, n :: ns, c, hl, h => by
    by_cases e : a = c
    · subst e
      unfold valV lk
      show Option.map _ (List.find? _ (((Sum.inr (one a) : Key), V.int n) :: dkI cs ns)) = _
      rw [List.find?_cons_of_pos, if_pos rfl]
      · rfl
      · exact decide_eq_true rfl
    · have hc : c ∈ cs := by
        rcases List.mem_cons.mp h with z | z
        · exact absurd z.symm e
        · exact z
      have ih := dkI_val (ns := ns) (Nat.succ.inj hl) hc
      unfold valV at ih ⊢
      show Option.map _ (List.find? _ (((Sum.inr (one a) : Key), V.int n) :: dkI cs ns)) = some (V.int (if a = c then n else lk cs ns c))
      rw [List.find?_cons_of_neg, if_neg e]
      · exact ih
      · intro z
        have z' : (Sum.inr (one a) : Key) = Sum.inr (one c) := of_decide_eq_true z
        exact e (one_inj (Sum.inr.inj z'))
  | [], _, _, _, h => by simp at h
  | _ :: _, [], _, hl, _ => by cases hl
theorem dkI_keys : ∀ {cs : List Nat} {ns : List Int}, ns.length = cs.length → (dkI cs ns).map (·.1) = cs.map fun c => (Sum.inr (one c) : Key)
  | [], [], _ => rfl
  | c :: cs, n :: ns, h => by
    show Sum.inr (one c) :: (dkI cs ns).map (·.1) = _
    rw [dkI_keys (Nat.succ.inj h)]
    rfl
  | [], _ :: _, h => by cases h
  | _ :: _, [], h => by cases h
theorem dkI_len {cs : List Nat} {ns : List Int} (h : ns.length = cs.length) : (dkI cs ns).length = cs.length := by
  have := congrArg List.length (dkI_keys h)
  rwa [List.length_map, List.length_map] at this
theorem dkI_snoc {cs : List Nat} {ns : List Int} {c : Nat} {n : Int} (h : ns.length = cs.length) : dkI cs ns ++ [((Sum.inr (one c) : Key), V.int n)] = dkI (cs ++ [c]) (ns ++ [n]) := by
  unfold dkI
  rw [List.zipWith_append h.symm]
  rfl
theorem keys_nd {cs : List Nat} (h : cs.Nodup) : (cs.map fun c => (Sum.inr (one c) : Key)).Nodup :=
  List.Pairwise.map _ (fun a b hab z => hab (one_inj (Sum.inr.inj z))) h
theorem lk_cons_sum (c : Nat) (n : Int) (cs : List Nat) (ns : List Int) (hc : c ∉ cs) : ∀ w : List Nat, (w.map (lk (c :: cs) (n :: ns))).sum = (w.count c : Nat) * n + (w.map (lk cs ns)).sum - (w.count c : Nat) * lk cs ns c
  | [] => by simp
  | x :: w => by
    have ih := lk_cons_sum c n cs ns hc w
    rw [List.map_cons, List.map_cons, List.sum_cons, List.sum_cons, ih]
    by_cases e : c = x
    · subst e
      rw [List.count_cons_self]
      have : lk (c :: cs) (n :: ns) c = n := by unfold lk; rw [if_pos rfl]
      rw [this]
      push_cast
      rw [Int.add_mul, Int.add_mul]
      omega
    · rw [List.count_cons_of_ne (by simpa using fun z : x = c => e z.symm)]
      have : lk (c :: cs) (n :: ns) x = lk cs ns x := by
        show (if c = x then n else lk cs ns x) = _
        rw [if_neg e]
      rw [this]
      omega
theorem lk_out : ∀ {cs : List Nat} {ns : List Int} {c : Nat}, c ∉ cs → lk cs ns c = 0
  | [], _, _, _ => by unfold lk; rfl
  | _ :: _, [], _, _ => by unfold lk; rfl
  | a :: cs, n :: ns, c, h => by
    unfold lk
    rw [if_neg fun z => h (by rw [z]; exact List.mem_cons_self)]
    exact lk_out fun z => h (List.mem_cons_of_mem _ z)
theorem lk_sum : ∀ {cs : List Nat} {ns : List Int} (w : List Nat), cs.Nodup → ns.length = cs.length → (w.map (lk cs ns)).sum = dot (cs.map fun c => ((w.count c : Nat) : Int)) ns
  | [], [], w, _, _ => by
    rw [dot_nil_r]
    induction w with
    | nil => rfl
    | cons x w ih =>
      rw [List.map_cons, List.sum_cons, ih]
      unfold lk
      rfl
  | c :: cs, n :: ns, w, nd, hl => by
    rw [lk_cons_sum c n cs ns (List.nodup_cons.mp nd).1 w, List.map_cons, dot_cons, lk_sum w (List.nodup_cons.mp nd).2 (Nat.succ.inj hl), lk_out (List.nodup_cons.mp nd).1]
    omega
  | [], _ :: _, _, _, h => by cases h
  | _ :: _, [], _, _, h => by cases h
def ltr (rs : List Rule) : List Nat := rs.map (·.1)
theorem Good.nd {first : List Nat} {rs : List Rule} (h : Good first rs) : (ltr rs).Nodup := h.rise.imp fun a => Nat.ne_of_lt a
theorem c0_eq (rs : List Rule) (w : List Nat) : c0 rs w = (ltr rs).map fun c => ((w.count c : Nat) : Int) := by unfold c0 ltr; rw [List.map_map]; rfl
def sumN (T : List (List Int)) (w0 : List Int) : Nat → List Int
  | 0 => w0
  | n + 1 => stepL T (sumN T w0 n)
theorem sumN_len {k : Nat} {T : List (List Int)} {w0 : List Int} (hT : T.length = k) (h : w0.length = k) : ∀ n, (sumN T w0 n).length = k
  | 0 => h
  | n + 1 => by unfold sumN stepL; rw [List.length_map, hT]
theorem lenN_eq (k : Nat) (T : List (List Int)) : ∀ n, lenN k T n = sumN T (List.replicate k 1) n
  | 0 => rfl
  | n + 1 => by unfold lenN sumN; rw [lenN_eq k T n]
end Lw
namespace Lw
open PySem L2
theorem atI_last {α : Type} {xs : List α} {j : Nat} {v : α} (hl : xs.length = j + 1) (h : xs[j]? = some v) : atI xs (-1) = some v := by
  unfold atI ixN
  rw [if_neg (by omega), if_pos (by omega)]
  have : (-1 + (xs.length : Int)).toNat = j := by omega
  rw [this]
  exact h
theorem cut_take (xs : List V) (m : Nat) : cutV xs none (some (m : Int)) = xs.take m := by
  unfold cutV HT.sIx
  rw [List.drop_zero]
  simp only [Nat.sub_zero]
  by_cases h : m ≤ xs.length
  · congr 1
    first | (split <;> omega) | omega | simp [h] <;> omega
  · rw [List.take_of_length_le (l := xs) (i := m) (by omega)]
    refine List.take_of_length_le ?_
    first | (split <;> omega) | omega
theorem TabV.snoc {H H' : Hp} {l d : Addr} {ls : List Addr} {vs : List (List Int)} {v : List Int} (t : TabV H l ls vs) (s : ∀ a ∈ ls, ∀ o, H a = some o → H' a = some o) (h1 : H' l = some (.lst (ls.map V.ref ++ [V.ref d]))) (h2 : H' d = some (.lst (v.map V.int))) : TabV H' l (ls ++ [d]) (vs ++ [v]) := by
  refine ⟨by rw [h1, List.map_append]; rfl, by rw [List.length_append, List.length_append, t.len]; rfl, fun i a u e1 e2 => ?_⟩
  by_cases hi : i < ls.length
  · rw [List.getElem?_append_left hi] at e1
    rw [List.getElem?_append_left (by rw [← t.len]; exact hi)] at e2
    exact s a (List.mem_of_getElem? e1) _ (t.at_ i a u e1 e2)
  · rw [List.getElem?_append_right (by omega)] at e1
    rw [List.getElem?_append_right (by rw [← t.len]; omega), ← t.len] at e2
    cases z : i - ls.length with
    | zero =>
      rw [z] at e1 e2
      cases e1
      cases e2
      exact h2
    | succ n => rw [z] at e1; cases e1
theorem TabV.take {H H' : Hp} {l d : Addr} {ls : List Addr} {vs : List (List Int)} (m : Nat) (t : TabV H l ls vs) (s : Same H H') (h : H' d = some (.lst ((ls.map V.ref).take m))) : TabV H' d (ls.take m) (vs.take m) := by
  refine ⟨by rw [h, List.map_take], by rw [List.length_take, List.length_take, t.len], fun i a u e1 e2 => ?_⟩
  rw [List.getElem?_take] at e1 e2
  split at e1
  · rename_i hi
    rw [if_pos hi] at e2
    exact s _ _ (t.at_ i a u e1 e2)
  · cases e1
theorem upd_in {H : Hp} {l : Addr} {o : HO} {c : Addr} {u : HO} (h : H c = some u) (n : c ≠ l) : upd H l o c = some u := by rw [upd_ne n]; exact h
end Lw
namespace Lw
end Lw
namespace Lw
open PySem
def inner : Stmt → List Stmt
  | .For _ _ b _ _ => b
  | .While _ b _ _ => b
  | .If _ a _ _ => a
  | _ => []
end Lw
namespace Lw
open PySem L2
end Lw
namespace Lw
open PySem L2
def wd : List Rule → Nat → List Nat
  | [], _ => []
  | q :: rs, c => if q.1 = c then q.2 else wd rs c
def nxt (rs : List Rule) (x : List Nat) : List Nat := (x.map (wd rs)).flatten
def rowN (rs : List Rule) (x : List Nat) : Nat → List Nat
  | 0 => x
  | n + 1 => nxt rs (rowN rs x n)
theorem wd_mem : ∀ {rs : List Rule} {c : Nat}, c ∈ ltr rs → ∃ q ∈ rs, q.1 = c ∧ wd rs c = q.2
  | [], c, h => by simp [ltr] at h
  | q :: rs, c, h => by
    by_cases e : q.1 = c
    · exact ⟨q, List.mem_cons_self, e, by unfold wd; rw [if_pos e]⟩
    · have h' : c ∈ ltr rs := by
        rcases List.mem_cons.mp (show c ∈ q.1 :: ltr rs from h) with z | z
        · exact absurd z.symm e
        · exact z
      obtain ⟨q', a, b, d⟩ := wd_mem h'
      exact ⟨q', List.mem_cons_of_mem _ a, b, by unfold wd; rw [if_neg e]; exact d⟩
theorem lk_wd (f : List Nat → Int) : ∀ {rs : List Rule} {c : Nat}, c ∈ ltr rs → lk (ltr rs) (rs.map fun q => f q.2) c = f (wd rs c)
  | [], c, h => by simp [ltr] at h
  | q :: rs, c, h => by
    show (if q.1 = c then f q.2 else lk (ltr rs) (rs.map fun q => f q.2) c) = f (if q.1 = c then q.2 else wd rs c)
    by_cases e : q.1 = c
    · rw [if_pos e, if_pos e]
    · have h' : c ∈ ltr rs := by
        rcases List.mem_cons.mp (show c ∈ q.1 :: ltr rs from h) with z | z
        · exact absurd z.symm e
        · exact z
      rw [if_neg e, if_neg e]
      exact lk_wd f h'
theorem nxt_in {first : List Nat} {rs : List Rule} (hG : Good first rs) {x : List Nat} (hx : ∀ c ∈ x, c ∈ ltr rs) : ∀ c ∈ nxt rs x, c ∈ ltr rs := fun c hc => by
  unfold nxt at hc
  obtain ⟨l, hl, hc⟩ := List.mem_flatten.mp hc
  obtain ⟨a, ha, rfl⟩ := List.mem_map.mp hl
  obtain ⟨q, hq, _, e⟩ := wd_mem (hx a ha)
  rw [e] at hc
  exact hG.win q hq c hc
theorem rowN_in {first : List Nat} {rs : List Rule} (hG : Good first rs) {x : List Nat} (hx : ∀ c ∈ x, c ∈ ltr rs) : ∀ n, ∀ c ∈ rowN rs x n, c ∈ ltr rs
  | 0 => hx
  | n + 1 => nxt_in hG (rowN_in hG hx n)
theorem count_nxt {rs : List Rule} (d : Nat) : ∀ {x : List Nat}, (∀ c ∈ x, c ∈ ltr rs) → (((nxt rs x).count d : Nat) : Int) = (x.map (lk (ltr rs) (rs.map fun q => ((q.2.count d : Nat) : Int)))).sum
  | [], _ => rfl
  | c :: x, h => by
    have ih := count_nxt (rs := rs) d (x := x) fun c hc => h c (List.mem_cons_of_mem _ hc)
    have e : nxt rs (c :: x) = wd rs c ++ nxt rs x := by unfold nxt; rw [List.map_cons, List.flatten_cons]
    rw [e, List.count_append, List.map_cons, List.sum_cons, ← ih, lk_wd (fun w => ((w.count d : Nat) : Int)) (h c List.mem_cons_self)]
    push_cast
    rfl
theorem col_tabI (rs : List Rule) {j : Nat} {q : Rule} (h : rs[j]? = some q) : colAt (tabI rs) j = rs.map fun p => ((p.2.count q.1 : Nat) : Int) := by
  unfold colAt tabI
  rw [List.map_map]
  refine List.map_congr_left fun p _ => ?_
  show (rs.map fun q' => ((p.2.count q'.1 : Nat) : Int)).getD j 0 = _
  rw [List.getD_eq_getElem?_getD, List.getElem?_map, h]
  rfl
theorem word_sum' {first : List Nat} {rs : List Rule} (hG : Good first rs) (ns : List Int) (hl : ns.length = rs.length) (x : List Nat) : (x.map (lk (ltr rs) ns)).sum = dot (c0 rs x) ns := by
  rw [lk_sum x hG.nd (by rw [hl]; unfold ltr; rw [List.length_map]), c0_eq]
theorem c0_nxt {first : List Nat} {rs : List Rule} (hG : Good first rs) {x : List Nat} (hx : ∀ c ∈ x, c ∈ ltr rs) : c0 rs (nxt rs x) = stepC rs.length (tabI rs) (c0 rs x) := by
  refine List.ext_getElem? fun j => ?_
  unfold stepC
  rw [List.getElem?_map]
  by_cases hj : j < rs.length
  · have e := List.getElem?_eq_getElem hj
    rw [List.getElem?_range hj]
    unfold c0
    rw [List.getElem?_map, e]
    show some (((nxt rs x).count rs[j].1 : Nat) : Int) = some (dot (c0 rs x) (colAt (tabI rs) j))
    rw [col_tabI rs e, count_nxt _ hx, word_sum' hG _ (by rw [List.length_map])]
  · rw [List.getElem?_eq_none (by rw [c0_len]; omega), List.getElem?_eq_none (by rw [List.length_range]; omega)]
    rfl
theorem cnt_row {first : List Nat} {rs : List Rule} (hG : Good first rs) {x : List Nat} (hx : ∀ c ∈ x, c ∈ ltr rs) : ∀ n, cntN rs.length (tabI rs) (c0 rs x) n = c0 rs (rowN rs x n)
  | 0 => rfl
  | n + 1 => by
    show stepC rs.length (tabI rs) (cntN rs.length (tabI rs) (c0 rs x) n) = c0 rs (nxt rs (rowN rs x n))
    rw [cnt_row hG hx n, c0_nxt hG (rowN_in hG hx n)]
theorem lk_ones : ∀ {cs : List Nat} {c : Nat}, c ∈ cs → lk cs (List.replicate cs.length 1) c = 1
  | [], c, h => by simp at h
  | a :: cs, c, h => by
    show (if a = c then (1 : Int) else lk cs (List.replicate cs.length 1) c) = 1
    by_cases e : a = c
    · rw [if_pos e]
    · rw [if_neg e]
      rcases List.mem_cons.mp h with z | z
      · exact absurd z.symm e
      · exact lk_ones z
theorem c0_sum {first : List Nat} {rs : List Rule} (hG : Good first rs) {x : List Nat} (hx : ∀ c ∈ x, c ∈ ltr rs) : (c0 rs x).sum = (x.length : Int) := by
  have h1 := dot_ones (c0 rs x)
  have ll : (ltr rs).length = rs.length := by unfold ltr; rw [List.length_map]
  rw [c0_len, ← word_sum' hG _ (by rw [List.length_replicate]), ← ll] at h1
  rw [← h1]
  clear h1
  induction x with
  | nil => rfl
  | cons a x ih =>
    rw [List.map_cons, List.sum_cons, lk_ones (hx a List.mem_cons_self), ih fun c hc => hx c (List.mem_cons_of_mem _ hc)]
    rw [List.length_cons]
    push_cast
    omega
theorem one_miss (c : Nat) : ∀ (cs : List Nat) (l : List Int), c ∉ cs → dot (cs.map fun x => (([c].count x : Nat) : Int)) l = 0
  | [], l, _ => dot_nil_l _
  | x :: cs, [], _ => dot_nil_r _
  | x :: cs, y :: l, h => by
    have hx : [c].count x = 0 := List.count_eq_zero.mpr fun z => h (by
      have : x = c := by simpa using z
      rw [this]; exact List.mem_cons_self)
    rw [List.map_cons, dot_cons, one_miss c cs l (fun z => h (List.mem_cons_of_mem _ z)), hx]
    simp
theorem one_hit (c : Nat) : ∀ (cs : List Nat) (l : List Int) (j : Nat) (v : Int), cs.Nodup → cs[j]? = some c → l[j]? = some v → dot (cs.map fun x => (([c].count x : Nat) : Int)) l = v
  | [], l, j, v, _, e, _ => by simp at e
  | x :: cs, [], j, v, _, _, e => by simp at e
  | x :: cs, y :: l, 0, v, nd, e1, e2 => by
    have e1' : x = c := Option.some.inj e1
    have e2' : y = v := Option.some.inj e2
    subst e1' e2'
    rw [List.map_cons, dot_cons, one_miss _ cs l (List.nodup_cons.mp nd).1]
    have : [x].count x = 1 := by simp
    rw [this]
    simp
  | x :: cs, y :: l, j + 1, v, nd, e1, e2 => by
    have e1' : cs[j]? = some c := e1
    have hne : x ≠ c := fun z => (List.nodup_cons.mp nd).1 (by rw [z]; exact List.mem_of_getElem? e1')
    have hx : [c].count x = 0 := List.count_eq_zero.mpr fun z => hne (by simpa using z)
    rw [List.map_cons, dot_cons, one_hit c cs l j v (List.nodup_cons.mp nd).2 e1' e2, hx]
    simp
theorem len_row {first : List Nat} {rs : List Rule} (hG : Good first rs) (n : Nat) : lenN rs.length (tabI rs) n = rs.map fun q => (((rowN rs [q.1] n).length : Nat) : Int) := by
  have ln := lenN_len (k := rs.length) (tabI_len rs) n
  refine List.ext_getElem? fun j => ?_
  by_cases hj : j < rs.length
  · have e := List.getElem?_eq_getElem hj
    have e2 := List.getElem?_eq_getElem (l := lenN rs.length (tabI rs) n) (i := j) (by rw [ln]; exact hj)
    have hx : ∀ c ∈ [rs[j].1], c ∈ ltr rs := fun c hc => by
      rw [List.mem_singleton.mp hc]
      exact List.mem_map_of_mem (f := (·.1)) (List.getElem_mem hj)
    have h1 := parted (k := rs.length) (T := tabI rs) (fun r hr => tabI_row hr) (tabI_len rs) n 0 (c0 rs [rs[j].1]) (c0_len rs _)
    rw [Nat.zero_add, cnt_row hG hx, c0_sum hG (rowN_in hG hx n)] at h1
    have h2 : dot (c0 rs [rs[j].1]) (lenN rs.length (tabI rs) n) = (lenN rs.length (tabI rs) n)[j]'(by rw [ln]; exact hj) := by
      rw [c0_eq]
      exact one_hit _ (ltr rs) _ j _ hG.nd (by unfold ltr; rw [List.getElem?_map, e]; rfl) e2
    rw [e2, List.getElem?_map, e]
    show some _ = some _
    rw [← h2]
    exact congrArg some h1.symm
  · rw [List.getElem?_eq_none (by rw [ln]; omega), List.getElem?_eq_none (by rw [List.length_map]; omega)]
end Lw
namespace Lw
open PySem L2
theorem nxt_app (rs : List Rule) (x y : List Nat) : nxt rs (x ++ y) = nxt rs x ++ nxt rs y := by
  unfold nxt
  rw [List.map_append, List.flatten_append]
theorem rowN_app (rs : List Rule) (x y : List Nat) : ∀ n, rowN rs (x ++ y) n = rowN rs x n ++ rowN rs y n
  | 0 => rfl
  | n + 1 => by
    show nxt rs (rowN rs (x ++ y) n) = nxt rs (rowN rs x n) ++ nxt rs (rowN rs y n)
    rw [rowN_app rs x y n, nxt_app]
theorem rowN_nil (rs : List Rule) : ∀ n, rowN rs [] n = []
  | 0 => rfl
  | n + 1 => by
    show nxt rs (rowN rs [] n) = []
    rw [rowN_nil rs n]
    rfl
theorem rowN_cons (rs : List Rule) (c : Nat) (x : List Nat) (n : Nat) : rowN rs (c :: x) n = rowN rs [c] n ++ rowN rs x n := rowN_app rs [c] x n
theorem rowN_next (rs : List Rule) (x : List Nat) : ∀ n, rowN rs x (n + 1) = rowN rs (nxt rs x) n
  | 0 => rfl
  | n + 1 => by
    show nxt rs (rowN rs x (n + 1)) = nxt rs (rowN rs (nxt rs x) n)
    rw [rowN_next rs x n]
theorem nxt_one (rs : List Rule) (c : Nat) : nxt rs [c] = wd rs c := by
  unfold nxt
  simp
def szN (rs : List Rule) (n c : Nat) : Nat := (rowN rs [c] n).length
theorem szN_row (rs : List Rule) (n : Nat) : ∀ x : List Nat, (rowN rs x n).length = (x.map (szN rs n)).sum
  | [] => by rw [rowN_nil]; rfl
  | c :: x => by
    rw [rowN_cons, List.length_append, szN_row rs n x, List.map_cons, List.sum_cons]
    rfl
theorem szN_succ (rs : List Rule) (n c : Nat) : szN rs (n + 1) c = (rowN rs (wd rs c) n).length := by
  unfold szN
  rw [rowN_next, nxt_one]
theorem lk_fst (g : Nat → Int) : ∀ {rs : List Rule} {c : Nat}, c ∈ ltr rs → lk (ltr rs) (rs.map fun q => g q.1) c = g c
  | [], c, h => by simp [ltr] at h
  | q :: rs, c, h => by
    show lk (q.1 :: ltr rs) (g q.1 :: rs.map fun q => g q.1) c = g c
    unfold lk
    by_cases e : q.1 = c
    · rw [if_pos (by first | exact e | exact e.symm | (rw [e]; exact beq_self_eq_true c)), e]
    · have h' : c ∈ ltr rs := by
        rcases List.mem_cons.mp (show c ∈ q.1 :: ltr rs from h) with z | z
        · exact absurd z.symm e
        · exact z
      rw [if_neg (by first | exact e | exact fun z => e z.symm | exact fun z => e (eq_of_beq z))]
      exact lk_fst g h'
theorem lk_size {first : List Nat} {rs : List Rule} (hG : Good first rs) (n : Nat) {c : Nat} (h : c ∈ ltr rs) : lk (ltr rs) (lenN rs.length (tabI rs) n) c = ((szN rs n c : Nat) : Int) := by
  rw [len_row hG n]
  exact lk_fst (fun c => ((szN rs n c : Nat) : Int)) h
def pick (f : Nat → Nat) : List Nat → Nat → Nat × Nat
  | [], l => (0, l)
  | c :: x, l => if f c ≤ l then ((pick f x (l - f c)).1 + 1, (pick f x (l - f c)).2) else (0, l)
theorem pick_at (f : Nat → Nat) : ∀ (x : List Nat) (j l : Nat) (c : Nat), x[j]? = some c → ((x.take j).map f).sum ≤ l → l < ((x.take j).map f).sum + f c → pick f x l = (j, l - ((x.take j).map f).sum)
  | [], j, l, c, e, _, _ => by simp at e
  | d :: x, 0, l, c, e, _, h2 => by
    have e' : d = c := Option.some.inj e
    subst e'
    have : ¬ f d ≤ l := by simp at h2; omega
    unfold pick
    rw [if_neg this]
    simp
  | d :: x, j + 1, l, c, e, h1, h2 => by
    rw [List.take_succ_cons, List.map_cons, List.sum_cons] at h1 h2 ⊢
    unfold pick
    rw [if_pos (by omega), pick_at f x j (l - f d) c e (by omega) (by omega)]
    show (j + 1, l - f d - _) = (j + 1, _)
    congr 1
    omega
end Lw
namespace Lw
open PySem L2
def gN (rs : List Rule) (g0 : Nat → Nat) : Nat → Nat → Nat
  | 0, c => g0 c
  | m + 1, c => ((wd rs c).map (gN rs g0 m)).sum
theorem gN_szN (rs : List Rule) : ∀ m c, gN rs (fun _ => 1) m c = szN rs m c
  | 0, c => rfl
  | m + 1, c => by
    show ((wd rs c).map (gN rs (fun _ => 1) m)).sum = _
    rw [szN_succ, szN_row]
    congr 1
    exact List.map_congr_left fun d _ => gN_szN rs m d
theorem natsum (f : Nat → Nat) : ∀ x : List Nat, (((x.map f).sum : Nat) : Int) = (x.map fun c => ((f c : Nat) : Int)).sum
  | [] => rfl
  | c :: x => by
    rw [List.map_cons, List.sum_cons, List.map_cons, List.sum_cons, ← natsum f x]
    omega
theorem sum_gN {rs : List Rule} {ns : List Int} {g : Nat → Nat} (h : ∀ c ∈ ltr rs, lk (ltr rs) ns c = ((g c : Nat) : Int)) {x : List Nat} (hx : ∀ c ∈ x, c ∈ ltr rs) : (x.map (lk (ltr rs) ns)).sum = (((x.map g).sum : Nat) : Int) := by
  rw [natsum]
  congr 1
  exact List.map_congr_left fun d hd => h d (hx d hd)
def wayG (rs : List Rule) (g : Nat → Nat → Nat) : Nat → List Nat → Nat → List (Nat × Nat)
  | 0, _, _ => []
  | k + 1, x, l => (x.getD (pick (g k) x l).1 0, (pick (g k) x l).1) :: wayG rs g k (wd rs (x.getD (pick (g k) x l).1 0)) (pick (g k) x l).2
def Way (rs : List Rule) : List Nat → List (Nat × Nat) → Prop
  | _, [] => True
  | x, p :: W => x[p.2]? = some p.1 ∧ Way rs (wd rs p.1) W
def ahd (rs : List Rule) (g : Nat → Nat → Nat) : List Nat → List (Nat × Nat) → Nat
  | _, [] => 0
  | x, p :: W => ((x.take p.2).map (g W.length)).sum + ahd rs g (wd rs p.1) W
def lastL : List (Nat × Nat) → Nat → Nat
  | [], d => d
  | p :: W, _ => lastL W p.1
theorem sum_part (f : Nat → Nat) : ∀ (x : List Nat) (j : Nat) {c : Nat}, x[j]? = some c → ((x.take j).map f).sum + f c ≤ (x.map f).sum
  | [], j, c, h => by simp at h
  | d :: x, 0, c, h => by
    have : d = c := Option.some.inj h
    subst this
    simp
  | d :: x, j + 1, c, h => by
    rw [List.take_succ_cons, List.map_cons, List.sum_cons, List.map_cons, List.sum_cons]
    have := sum_part f x j (show x[j]? = some c from h)
    omega
theorem way_back {rs : List Rule} {g0 : Nat → Nat} : ∀ (W : List (Nat × Nat)) (x : List Nat) (d k : Nat), Way rs x W → W.length = k + 1 → 0 < g0 (lastL W d) → ahd rs (gN rs g0) x W < (x.map (gN rs g0 k)).sum ∧ wayG rs (gN rs g0) (k + 1) x (ahd rs (gN rs g0) x W) = W
  | [], x, d, k, _, h, _ => by simp at h
  | [p], x, d, k, hW, h, hp => by
    obtain rfl : k = 0 := by simp at h; omega
    have hp' : 0 < gN rs g0 0 p.1 := hp
    have hc : x[p.2]? = some p.1 := hW.1
    have ea : ahd rs (gN rs g0) x [p] = ((x.take p.2).map (gN rs g0 0)).sum := Nat.add_zero _
    have sp := sum_part (gN rs g0 0) x p.2 hc
    rw [ea]
    refine ⟨by omega, ?_⟩
    have pk := pick_at (gN rs g0 0) x p.2 ((x.take p.2).map (gN rs g0 0)).sum p.1 hc (Nat.le_refl _) (by omega)
    show (x.getD (pick (gN rs g0 0) x _).1 0, (pick (gN rs g0 0) x _).1) :: [] = [p]
    rw [pk]
    show [(x.getD p.2 0, p.2)] = [p]
    rw [List.getD_eq_getElem?_getD, hc]
    rfl
  | p :: r :: W, x, d, k, hW, h, hp => by
    obtain ⟨m, rfl⟩ : ∃ m, k = m + 1 := ⟨k - 1, by simp at h; omega⟩
    have hc : x[p.2]? = some p.1 := hW.1
    have hl : (r :: W).length = m + 1 := by simp at h ⊢; omega
    obtain ⟨f1, f2⟩ := way_back (r :: W) (wd rs p.1) p.1 m hW.2 hl hp
    have f1' : ahd rs (gN rs g0) (wd rs p.1) (r :: W) < gN rs g0 (m + 1) p.1 := f1
    have ea : ahd rs (gN rs g0) x (p :: r :: W) = ((x.take p.2).map (gN rs g0 (m + 1))).sum + ahd rs (gN rs g0) (wd rs p.1) (r :: W) := by
      show ((x.take p.2).map (gN rs g0 (r :: W).length)).sum + _ = _
      rw [hl]
    have sp := sum_part (gN rs g0 (m + 1)) x p.2 hc
    rw [ea]
    refine ⟨by omega, ?_⟩
    have pk := pick_at (gN rs g0 (m + 1)) x p.2 (((x.take p.2).map (gN rs g0 (m + 1))).sum + ahd rs (gN rs g0) (wd rs p.1) (r :: W)) p.1 hc (by omega) (by omega)
    show (x.getD (pick (gN rs g0 (m + 1)) x _).1 0, (pick (gN rs g0 (m + 1)) x _).1) :: wayG rs (gN rs g0) (m + 1) (wd rs (x.getD (pick (gN rs g0 (m + 1)) x _).1 0)) (pick (gN rs g0 (m + 1)) x _).2 = p :: r :: W
    rw [pk]
    have eg : x.getD p.2 0 = p.1 := by rw [List.getD_eq_getElem?_getD, hc]; rfl
    show (x.getD p.2 0, p.2) :: wayG rs (gN rs g0) (m + 1) (wd rs (x.getD p.2 0)) (((x.take p.2).map (gN rs g0 (m + 1))).sum + ahd rs (gN rs g0) (wd rs p.1) (r :: W) - ((x.take p.2).map (gN rs g0 (m + 1))).sum) = p :: r :: W
    rw [eg, Nat.add_sub_cancel_left, f2]
end Lw
namespace Lw
open PySem L2
theorem Way.take {rs : List Rule} : ∀ (W : List (Nat × Nat)) (x : List Nat) (k : Nat), Way rs x W → Way rs x (W.take k)
  | _, _, 0, _ => by simp [Way]
  | [], x, k + 1, _ => by simp [Way]
  | p :: W, x, k + 1, h => ⟨h.1, Way.take W (wd rs p.1) k h.2⟩
theorem Way.drop {rs : List Rule} : ∀ (W : List (Nat × Nat)) (x : List Nat) (k d : Nat), Way rs x W → k + 1 ≤ W.length → Way rs (wd rs (lastL (W.take (k + 1)) d)) (W.drop (k + 1))
  | [], x, k, d, _, h => by simp at h
  | p :: W, x, 0, d, h, _ => h.2
  | p :: W, x, k + 1, d, h, hl => Way.drop W (wd rs p.1) k p.1 h.2 (by simp at hl; omega)
end Lw
namespace Lw
open PySem L2
def top (i : Nat) : Stmt := PySem.Challenge.pw_linegrow_k15_places_of_ways_and_back.main.body.getD i (.Pass ⟨0, 0, 0, 0⟩)
abbrev sWho : Stmt := top 22
abbrev sWin : Stmt := top 23
abbrev sIto : Stmt := top 24
abbrev sIsl : Stmt := top 25
abbrev sNag : Stmt := top 26
abbrev sTsm : Stmt := top 28
abbrev sWba : Stmt := top 29
abbrev sLsm : Stmt := top 30
abbrev sSsm : Stmt := top 31
abbrev sLns : Stmt := top 32
abbrev sNpl : Stmt := top 34
abbrev sWbh : Stmt := top 35
abbrev sWah : Stmt := top 36
abbrev sWay : Stmt := top 37
abbrev sIst : Stmt := top 38
abbrev sIsw : Stmt := top 39
abbrev sPlo : Stmt := top 40
abbrev sPen : Stmt := top 42
abbrev sTak : Stmt := top 43
abbrev sSig : Stmt := top 44
abbrev sTxt : Stmt := top 45
abbrev sWrd : Stmt := top 46
abbrev sBok : Stmt := top 47
abbrev sAge : Stmt := top 48
abbrev sWhl : Stmt := top 49
abbrev sSzs : Stmt := top 50
abbrev sRfl : Stmt := top 52
abbrev sWkd : Stmt := top 53
abbrev sDwn : Stmt := top 54
abbrev sSpo : Stmt := top 55
abbrev sTld : Stmt := top 56
abbrev sDue : Stmt := top 57
abbrev sLaw : Stmt := top 58
end Lw
namespace Lw
open PySem L2
structure Gf (K : PySem.W.Frag) (mg : Str → Option Value) (x : Str) (f : Addr) (fd : FuncData) (ps : List Str) : Prop where
  m : mg x = some (.ref f)
  k : PySem.W.keepIn K (.ref f) = true
  b : Binds K fd ps []
end Lw
namespace Lw
open PySem L2
structure PenAt (H : Hp) (p : Addr) (b : Nat) : Prop where
  ex : ∃ (a n f : Int), H p = some (.lst [.int a, .int n, .int f]) ∧ 0 ≤ n ∧ n ≤ b ∧ 0 ≤ f ∧ f < 2147483647
theorem PenAt.mono {H : Hp} {p : Addr} {b b' : Nat} (h : PenAt H p b) (hb : b ≤ b') : PenAt H p b' := by
  obtain ⟨a, n, f, e, h1, h2, h3⟩ := h.ex
  exact ⟨a, n, f, e, h1, by omega, h3⟩
def But (p : Addr) (H H' : Hp) : Prop := ∀ c o, H c = some o → c ≠ p → H' c = some o
theorem But.refl (p : Addr) (H : Hp) : But p H H := fun _ _ h _ => h
theorem But.trans {p : Addr} {H H1 H2 : Hp} (a : But p H H1) (b : But p H1 H2) : But p H H2 := fun c o h n => b c o (a c o h n) n
theorem But.same {p : Addr} {H H' : Hp} (s : Same H H') : But p H H' := fun c o h _ => s c o h
theorem But.free {p : Addr} {H H' : Hp} (e : But p H H') {l : Addr} (n : l ≠ p) (h : H' l = none) : H l = none := by
  cases q : H l with
  | none => rfl
  | some o => rw [e l o q n] at h; cases h
section
variable {P : Program} {w : World} {K : PySem.W.Frag} {mg : Str → Option Value} {base : Heap}
def spTak : Sp := fun vs H Q _ => ∃ (p : Addr) (b : Nat) (size : Int), vs = [.ref p, .int size] ∧ PenAt H p b ∧ b ≤ 1000000 ∧ 0 < size ∧ size ≤ 10000000000000000000000000000000000000000000000000000000000000000000000 ∧ ∀ (v : Int) H', 0 ≤ v → v < size → PenAt H' p (b + 1) → (∀ c, c ≠ p → H' c = H c) → Q (.int v) H'
theorem scTak : FnScope ["_law_pen_here", "_law_size_here", "_law_found", "_law_number"] ["_law_pen_here", "_law_size_here"] (defScope sTak) := ⟨rfl, rfl, rfl, by decide +kernel, rfl, by decide +kernel, by decide +kernel⟩
theorem ok_tak {f : Addr} {fd : FuncData} (F : Fun K "_law_take" "_law_take" sTak f fd) : FnOk P w K mg base CX0 1 f fd ["_law_pen_here", "_law_size_here"] spTak := by
  refine F.ok scTak (fun vs H Q E h => ?_) (fun cdv A outer s H vs Q E hr h => ?_)
  · obtain ⟨p, b, size, rfl, _⟩ := h
    rfl
  · obtain ⟨p, b, size, rfl, hp, hb, h1, h2, k⟩ := h
    obtain ⟨a, n, g, e, n1, n2, g1, g2⟩ := hp.ex
    refine ⟨_, pss_cons (ps_if (pt_cmpR op_gt (pe_ix ix_list (pv 0) pe_int (fun _ _ => rfl)) pe_int (nomark _))
        (pss_cons (ps_set (i := 2) scTak.nd rfl (Or.inl rfl) (pe_op op_mod (pe_ix ix_list (pv 0) pe_int (fun _ _ => rfl)) (pv 1)))
        (pss_cons (ps_asg (pe_op op_fdivB (pe_ix ix_list (pv 0) pe_int (fun _ _ => rfl)) (pv 1)) (pg_sub (pv 0) pe_int set_list))
        (pss_one (ps_ret (pv 2))))) pss_nil)
      (pss_cons (ps_asg (pe_op op_add (pe_ix ix_list (pv 0) pe_int (fun _ _ => rfl)) pe_int) (pg_sub (pv 0) pe_int set_list))
      (pss_cons (ps_set (i := 3) scTak.nd rfl (Or.inl rfl) (pe_op op_mod (pe_op op_pow (pe_op op_add (pe_ix ix_list (pv 0) pe_int (fun _ _ => rfl)) (pe_op op_mul pe_int (pe_ix ix_list (pv 0) pe_int (fun _ _ => rfl)))) pe_int) pe_int))
      (pss_cons (ps_set (i := 3) scTak.nd rfl (Or.inl rfl) (pe_op op_mod (pe_op op_pow (pe_op op_add (pv 3) (pe_op op_mul pe_int (pe_ix ix_list (pv 0) pe_int (fun _ _ => rfl)))) pe_int) pe_int))
      (pss_one (ps_ret (pe_op op_mod (pe_op op_fdiv (pv 3) pe_int) (pv 1))))))), ?_⟩
    refine ⟨_, rfl, p, _, _, _, rfl, rfl, SqL.of e, atI_nat (j := 0) rfl, _, _, rfl, rfl, _, rfl, ?_⟩
    refine ite2 (fun hc => ?_) (fun hc => ?_)
    · refine ⟨_, rfl, p, _, _, _, rfl, rfl, SqL.of e, atI_nat (j := 0) rfl, _, rfl, _, _, rfl, rfl, h1, ?_⟩
      refine ⟨_, rfl, p, _, _, _, rfl, rfl, SqL.of e, atI_nat (j := 0) rfl, _, rfl, _, _, rfl, rfl, ⟨h1, by omega⟩, ?_⟩
      refine ⟨_, rfl, p, _, _, 0, rfl, rfl, e, rfl, ?_⟩
      refine ⟨_, rfl, ?_⟩
      refine k _ _ (Int.emod_nonneg _ (by omega)) (Int.emod_lt_of_pos _ h1) ⟨_, n, g, upd_same, n1, by omega, g1, g2⟩ fun c hc => upd_ne hc
    · refine ⟨_, rfl, p, _, _, _, rfl, rfl, SqL.of e, atI_nat (j := 1) rfl, _, _, rfl, rfl, _, rfl, p, _, _, 1, rfl, rfl, e, rfl, ?_⟩
      have e2 : upd H p (.lst ([V.int a, V.int n, V.int g].set 1 (V.int (n + 1)))) p = some (.lst [.int a, .int (n + 1), .int g]) := upd_same
      refine ⟨_, rfl, p, _, _, _, rfl, rfl, SqL.of e2, atI_nat (j := 2) rfl, _, rfl, p, _, _, _, rfl, rfl, SqL.of e2, atI_nat (j := 1) rfl, _, _, rfl, rfl, .inl ⟨by decide, by decide⟩, _, _, rfl, rfl, _, _, rfl, rfl, ⟨by decide, by decide, by omega⟩, _, _, rfl, rfl, (by show (0 : Int) < 2147483647; decide), ?_⟩
      generalize (g + 7919 * (n + 1)) ^ Int.toNat 5 = X1
      refine ⟨_, rfl, _, rfl, p, _, _, _, rfl, rfl, SqL.of e2, atI_nat (j := 1) rfl, _, _, rfl, rfl, .inl ⟨by decide, by decide⟩, _, _, rfl, rfl, _, _, rfl, rfl, ⟨by decide, by decide, by omega⟩, _, _, rfl, rfl, (by show (0 : Int) < 2147483629; decide), ?_⟩
      generalize (X1 % 2147483647 + 104729 * (n + 1)) ^ Int.toNat 5 = X2
      refine ⟨_, rfl, _, _, rfl, rfl, ⟨by decide, by decide⟩, _, rfl, _, _, rfl, rfl, h1, ?_⟩
      exact k _ _ (Int.emod_nonneg _ (by omega)) (Int.emod_lt_of_pos _ h1) ⟨a, n + 1, g, e2, by omega, by omega, g1, g2⟩ fun c hc => upd_ne hc
def spPen (K : PySem.W.Frag) : Sp := fun vs H Q _ => ∃ (a : Addr) (ns : List Int) (k : Int), vs = [.ref a, .int k] ∧ SqL K H a (ns.map V.int) ∧ ns.length ≤ 63 ∧ 0 ≤ k ∧ k ≤ 100 ∧ ∀ p H', Same H H' → H p = none → PenAt H' p 0 → Q (.ref p) H'
end
end Lw
namespace Lw
open PySem L2
section
variable {P : Program} {w : World} {K : PySem.W.Frag} {mg : Str → Option Value} {base : Heap}
theorem mem_cutV {xs : List V} {lo hi : Option Int} {x : V} (h : x ∈ cutV xs lo hi) : x ∈ xs := List.mem_of_mem_drop (List.mem_of_mem_take h)
theorem scPen : FnScope ["_law_script", "_law_k", "_law_fold", "_law_cell"] ["_law_script", "_law_k"] (defScope sPen) := ⟨rfl, rfl, rfl, by decide +kernel, rfl, by decide +kernel, by decide +kernel⟩
theorem ok_pen {f : Addr} {fd : FuncData} (F : Fun K "_law_pen" "_law_pen" sPen f fd) (hlen : mg "len" = none) : FnOk P w K mg base CX0 1 f fd ["_law_script", "_law_k"] (spPen K) := by
  refine F.ok scPen (fun vs H Q E h => ?_) (fun cdv A outer s H vs Q E hr h => ?_)
  · obtain ⟨a, ns, k, rfl, _⟩ := h
    rfl
  · obtain ⟨a, ns, k, rfl, hS, hl, k0, k1, q⟩ := h
    refine ⟨_, pss_cons (ps_set (i := 2) scPen.nd rfl (Or.inl rfl) (pe_op op_add (pe_op op_mul pe_int (pv 1)) pe_int))
      (pss_cons (ps_for PassesOwn.never rfl (pi_list (pe_slice sl_list (pv 0) po_none (po_some pe_int))) (pg_name (i := 3) scPen.nd rfl (Or.inl rfl))
        (pss_one (ps_set (i := 2) scPen.nd rfl (Or.inl rfl) (pe_op op_mod (pe_op op_add (pe_op op_mul (pv 2) pe_int) (pv 3)) pe_int))))
      (pss_cons (ps_if (PW.pt (pw_and (pt_cmpR op_gt (pe_callB call_len_seq (by rfl) hlen PySem.boot_len (pa_cons (pv 0) pa_nil)) pe_int (nomark _))
          (pw_and1 (pt_cmpR op_ge (pe_ix ix_list (pv 0) (pe_op op_mod (pv 1) (pe_callB call_len_seq (by rfl) hlen PySem.boot_len (pa_cons (pv 0) pa_nil))) (fun _ _ => rfl)) (pe_op op_pow pe_int pe_int) (nomark _)))))
        (pss_one (ps_ret (pe_lst (pa_cons (pe_op op_sub (pe_ix ix_list (pv 0) (pe_op op_mod (pv 1) (pe_callB call_len_seq (by rfl) hlen PySem.boot_len (pa_cons (pv 0) pa_nil))) (fun _ _ => rfl)) (pe_op op_pow pe_int pe_int)) (pa_cons pe_int (pa_cons (pv 2) pa_nil)))))) pss_nil)
      (pss_one (ps_ret (pe_lst (pa_cons pe_int (pa_cons pe_int (pa_cons (pv 2) pa_nil)))))))), ?_⟩
    refine ⟨_, rfl, _, _, rfl, rfl, .inl ⟨by decide, by decide⟩, _, _, rfl, rfl, ?_⟩
    refine ⟨_, rfl, _, rfl, a, _, rfl, hS, fun p hp => ⟨p, rfl, ⟨_, SqL.of upd_same⟩, ?_⟩⟩
    refine for_by (sure_list (xs := cutV (ns.map V.int) none (some 63))) (fun i σ H2 => H2 = upd H p (.lst (cutV (ns.map V.int) none (some 63))) ∧ ∃ (g : Int) (v : Option V), σ = [some (.ref a), some (.int k), some (.int g), v] ∧ 0 ≤ g ∧ g < 2147483647)
      ⟨rfl, _, _, rfl, by omega, by omega⟩ ?_ ?_ ?_
    · rintro i σ H2 hi ⟨rfl, _⟩
      exact SqL.of upd_same
    · rintro i x σ H2 hx ⟨rfl, g, v, rfl, g1, g2⟩
      obtain ⟨z, hz, rfl⟩ := List.mem_map.mp (mem_cutV (List.mem_of_getElem? hx))
      refine ⟨_, rfl, _, _, rfl, rfl, .inr ⟨by decide, by decide⟩, _, rfl, _, _, rfl, rfl, _, _, rfl, rfl, (by show (0 : Int) < 2147483647; decide), rfl, _, _, rfl, Int.emod_nonneg _ (by decide), Int.emod_lt_of_pos _ (by decide)⟩
    · rintro σ H2 ⟨rfl, g, v, rfl, g1, g2⟩
      have s1 : Same H (upd H p (.lst (cutV (ns.map V.int) none (some 63)))) := Same.add hp
      have hS1 := s1.seq hS
      have el : ((ns.map V.int).length : Int) = (ns.length : Int) := by rw [List.length_map]
      have fin : ∀ (z : Int) (l : Addr), (upd H p (.lst (cutV (ns.map V.int) none (some 63)))) l = none → Q (.ref l) (upd (upd H p (.lst (cutV (ns.map V.int) none (some 63)))) l (.lst [.int z, .int 0, .int g])) := fun z l hn =>
        q l _ (s1.trans (Same.add hn)) (s1.free hn) ⟨z, 0, g, upd_same, by decide, by decide, g1, g2⟩
      refine ⟨_, rfl, a, _, rfl, .inl hS1, _, _, rfl, rfl, _, rfl, ?_⟩
      refine ite2 (fun hc => ?_) (fun hc => ?_)
      · have hpos : 0 < (ns.length : Int) := by
          have := of_decide_eq_true hc
          rw [el] at this
          exact this
        have hm1 := Int.emod_nonneg k (show (ns.length : Int) ≠ 0 by omega)
        have hm2 := Int.emod_lt_of_pos k hpos
        obtain ⟨j, hj⟩ : ∃ j : Nat, k % (ns.length : Int) = (j : Int) := ⟨(k % (ns.length : Int)).toNat, by omega⟩
        have hjl : j < ns.length := by omega
        have hat : atI (ns.map V.int) (k % ((ns.map V.int).length : Int)) = some (.int ns[j]) := by
          rw [el, hj]
          exact atI_nat (by rw [List.getElem?_map, List.getElem?_eq_getElem hjl]; rfl)
        refine ⟨_, rfl, _, rfl, _, rfl, a, _, rfl, .inl hS1, _, _, rfl, rfl, (by show (0 : Int) < _; rw [el]; exact hpos), a, _, _, _, rfl, rfl, hS1, hat, _, _, rfl, rfl, ⟨by decide, by decide, by decide⟩, _, _, rfl, rfl, _, rfl, ?_⟩
        refine ite2 (fun hc2 => ?_) (fun hc2 => ?_)
        · refine ⟨_, rfl, _, rfl, _, rfl, a, _, rfl, .inl hS1, _, _, rfl, rfl, (by show (0 : Int) < _; rw [el]; exact hpos), a, _, _, _, rfl, rfl, hS1, hat, _, _, rfl, rfl, ⟨by decide, by decide, by decide⟩, _, _, rfl, rfl, _, rfl, (by show 3 ≤ sizeLine; decide), fun l hn => ?_⟩
          exact fin _ l hn
        · exact ⟨_, rfl, (by show 3 ≤ sizeLine; decide), fun l hn => fin 0 l hn⟩
      · refine iteF ?_
        exact ⟨_, rfl, (by show 3 ≤ sizeLine; decide), fun l hn => fin 0 l hn⟩
end
end Lw
namespace Lw
open PySem L2
def rLenS (K : PySem.W.Frag) : List V → Hp → VK → Prop := fun xs H Q => ∃ p ys, xs = [.ref p] ∧ (SqL K H p ys ∨ SqT K H p ys) ∧ Q (.int ys.length) H
theorem call_lenS {X : Cx} : CallR X (.builtin "len") (rLenS X.K) := call_len_seq
def abc : List Nat := [97, 98, 99, 100, 101, 102, 103, 104, 105, 106, 107, 108, 109, 110, 111, 112, 113, 114, 115, 116, 117, 118, 119, 120, 121, 122]
theorem abc_str : (Str.ofString "abcdefghijklmnopqrstuvwxyz").cps.toList = abc := by decide +kernel
theorem abc_nd : abc.Nodup := by decide
theorem abc_in : ∀ c ∈ abc, 97 ≤ c ∧ c ≤ 122 := by decide
theorem perm_erase : ∀ {xs : List Nat} {k : Nat} {y : Nat}, xs[k]? = some y → xs.Perm (y :: xs.eraseIdx k)
  | x :: xs, 0, y, e => by cases e; exact List.Perm.refl _
  | x :: xs, k + 1, y, e => by
    have ih := perm_erase (xs := xs) (k := k) (y := y) e
    show (x :: xs).Perm (y :: x :: xs.eraseIdx k)
    exact (ih.cons x).trans (List.Perm.swap y x _)
  | [], k, y, e => by simp at e
theorem map_erase {α β : Type} (f : α → β) : ∀ (xs : List α) (k : Nat), (xs.map f).eraseIdx k = (xs.eraseIdx k).map f
  | [], _ => rfl
  | _ :: _, 0 => rfl
  | x :: xs, k + 1 => by
    show f x :: (xs.map f).eraseIdx k = f x :: (xs.eraseIdx k).map f
    rw [map_erase f xs k]
theorem PenAt.other {H H' : Hp} {p : Addr} {b : Nat} (h : PenAt H p b) (e : H' p = H p) : PenAt H' p b := by
  obtain ⟨a, n, f, e1, r⟩ := h.ex
  exact ⟨a, n, f, e.trans e1, r⟩
theorem PenAt.some {H : Hp} {p : Addr} {b : Nat} (h : PenAt H p b) : ∃ o, H p = Option.some o := by
  obtain ⟨a, n, f, e1, r⟩ := h.ex
  exact ⟨_, e1⟩
section
variable {P : Program} {w : World} {K : PySem.W.Frag} {mg : Str → Option Value} {base : Heap}
def spSig : Sp := fun vs H Q _ => ∃ (p : Addr) (b : Nat) (n : Nat), vs = [.ref p, .int (n : Int)] ∧ PenAt H p b ∧ b ≤ 900000 ∧ n ≤ 26 ∧
  ∀ l (cs : List Nat) H', But p H H' → PenAt H' p (b + n) → H l = none → H' l = some (.lst (cs.map sign)) → cs.length = n → cs.Nodup → (∀ c ∈ cs, 97 ≤ c ∧ c ≤ 122) → Q (.ref l) H'
theorem scSig : FnScope ["_law_pen_here", "_law_many", "_law_rest"] ["_law_pen_here", "_law_many"] (defScope sSig) := ⟨rfl, rfl, rfl, by decide +kernel, rfl, by decide +kernel, by decide +kernel⟩
theorem nd_sig : (["_law_k", "_law_rest", "_law_pen_here"] : List Str).Nodup := by decide +kernel
theorem ok_sig {f f1 : Addr} {fd fd1 : FuncData} (F : Fun K "_law_signs" "_law_signs" sSig f fd) (G : FnOk P w K mg base CX0 1 f1 fd1 ["_law_pen_here", "_law_size_here"] spTak) (g : Gf K mg "_law_take" f1 fd1 ["_law_pen_here", "_law_size_here"])
    (hlen : mg "len" = none) (hlist : mg "list" = none) (hrange : mg "range" = none) : FnOk P w K mg base CX0 2 f fd ["_law_pen_here", "_law_many"] spSig := by
  refine F.ok scSig (fun vs H Q E h => ?_) (fun cdv A outer s H vs Q E hr h => ?_)
  · obtain ⟨p, b, n, rfl, _⟩ := h
    rfl
  · obtain ⟨p, b, n, rfl, hp, hb, hn, q⟩ := h
    refine ⟨_, pss_cons (ps_set (i := 2) scSig.nd rfl (Or.inr rfl) (pe_callTy (call_list_text rfl) (by rfl) hlist (by first | exact PySem.boot_list | decide +kernel) (pa_cons pe_str pa_nil)))
      (pss_one (ps_ret (pe_comp (N' := ["_law_k", "_law_rest", "_law_pen_here"]) (ix := [none, some 2, some 0]) rfl rfl (pi_range1 rfl hrange (pa_cons (pv 1) pa_nil)) (fun _ _ _ _ _ _ => pg_name (i := 0) nd_sig rfl (Or.inl rfl)) (fun _ _ _ _ _ _ => pts_nil)
        (fun _ _ _ _ _ _ => show PE _ _ (tBM K _ _ _ _) from pe_bm PySem.F.plainAttrs_list PySem.F.slot_list_pop PySem.F.type_list_pop mt_popAt (pv 1)
          (pa_cons (pe_call G hr rfl g.m g.k g.b .nil pass0 (pa_cons (pv 2) (pa_cons (pe_callB (r := rLenS K) call_lenS (by rfl) hlen PySem.boot_len (pa_cons (pv 1) pa_nil)) pa_nil))) pa_nil))))), ?_⟩
    refine ⟨_, rfl, by decide +kernel, fun l0 hl0 => ?_⟩
    rw [abc_str]
    obtain ⟨op, hop⟩ := hp.some
    have np : p ≠ l0 := ne_of_none hop hl0
    refine ⟨_, rfl, _, rfl, by omega, by omega, comp_all sure_range (by rw [rngV_length]; omega)
      (fun i ys τ H2 => ∃ taken rem, ys = taken.map sign ∧ taken.length = i ∧ (taken ++ rem).Perm abc ∧ H2 l0 = some (.lst (rem.map sign)) ∧ But p H H2 ∧ PenAt H2 p (b + i) ∧ ∃ v, τ = [v, some (.ref l0), some (.ref p)])
      ⟨[], abc, rfl, rfl, List.Perm.refl _, upd_same, But.same (Same.add hl0), hp.other (upd_ne np), _, rfl⟩ ?_ ?_ ?_⟩
    · rintro i ys τ H2 hi ⟨taken, rem, rfl, e, _⟩
      exact ⟨trivial, by rw [List.length_map]; omega⟩
    · rintro i x ys τ H2 hx ⟨taken, rem, rfl, et, hP, hR, hBt, hPn, v, rfl⟩
      have hi : i < n := by
        have := (List.getElem?_eq_some_iff.mp hx).1
        rw [rngV_length] at this
        simpa using this
      have hlen26 : rem.length = 26 - i := by
        have := hP.length_eq
        rw [List.length_append, et] at this
        have e26 : abc.length = 26 := rfl
        omega
      have el : ((rem.map sign).length : Int) = (rem.length : Int) := by rw [List.length_map]
      refine ⟨_, rfl, .inl ⟨rfl, _, SqL.of hR⟩, _, rfl, _, rfl, l0, _, rfl, .inl (SqL.of hR), p, b + i, _, rfl, hPn, by omega, by rw [el]; omega, by rw [el]; omega, fun z H3 z0 z1 hP3 e3 => ?_⟩
      rw [el] at z1
      obtain ⟨j, rfl⟩ : ∃ j : Nat, z = (j : Int) := ⟨z.toNat, by omega⟩
      have hj : j < rem.length := by omega
      have hat : (rem.map sign)[j]? = some (sign rem[j]) := by rw [List.getElem?_map, List.getElem?_eq_getElem hj]; rfl
      obtain ⟨j', s1, s2, _⟩ := atI_get (atI_nat hat)
      have ejj : j' = j := by
        obtain ⟨q1, _⟩ := ixN_seq (n := (rem.map sign).length) (i := (j : Int)) (j := j) (by
          unfold ixN
          rw [if_pos (by omega), if_pos (by rw [el]; omega)]
          simp)
        rw [q1] at s1
        exact (Option.some.inj s1).symm
      subst ejj
      refine ⟨l0, _, _, j', _, rfl, rfl, (e3 l0 np.symm).trans hR, by omega, by omega, s1, s2, ?_⟩
      refine ⟨taken ++ [rem[j']], rem.eraseIdx j', by rw [List.map_append]; rfl, by rw [List.length_append, et]; rfl, ?_, ?_, ?_, ?_, _, rfl⟩
      · refine List.Perm.trans ?_ hP
        rw [List.append_assoc]
        exact List.Perm.append_left taken (perm_erase (List.getElem?_eq_getElem hj)).symm
      · rw [upd_same, map_erase]
      · intro c o hc hne
        have nl : c ≠ l0 := ne_of_none hc hl0
        rw [upd_ne nl, e3 c hne]
        exact hBt c o hc hne
      · exact hP3.other (upd_ne np)
    · rintro ys τ H2 D ⟨taken, rem, rfl, et, hP, hR, hBt, hPn, v, rfl⟩ hD
      have e : (rngV 0 (Int.toNat (n : Int))).length = n := by rw [rngV_length]; simp
      rw [e] at et hPn
      have nd : (taken ++ rem).Nodup := hP.nodup_iff.mpr abc_nd
      obtain ⟨oD, hoD⟩ := hPn.some
      have nDp : D ≠ p := (ne_of_none hoD hD).symm
      refine q D taken _ (hBt.trans (But.same (Same.add hD))) (hPn.other (upd_ne nDp.symm)) (hBt.free nDp hD) upd_same et (List.nodup_append.mp nd).1 fun c hc => abc_in c (hP.mem_iff.mp (List.mem_append_left _ hc))
end
end Lw
namespace Lw
open PySem L2
theorem strs_sign (w : List Nat) : w.map sign = (w.map fun c => (⟨#[c]⟩ : Str)).map V.str := by rw [List.map_map]; rfl
section
variable {P : Program} {w : World} {K : PySem.W.Frag} {mg : Str → Option Value} {base : Heap}
def spTxt : Sp := fun vs H Q _ => ∃ (p l : Addr) (b n : Nat) (cs : List Nat), vs = [.ref p, .ref l, .int (n : Int)] ∧ PenAt H p b ∧ b ≤ 900000 ∧ n ≤ 1000 ∧ H l = some (.lst (cs.map sign)) ∧ cs.length ≤ 30 ∧ l ≠ p ∧
  ∀ (w : List Nat) H', w.length ≤ n → (cs ≠ [] → w.length = n) → (∀ c ∈ w, c ∈ cs) → But p H H' → PenAt H' p (b + n) → Q (tx w) H'
theorem scTxt : FnScope ["_law_pen_here", "_law_signs_here", "_law_many"] ["_law_pen_here", "_law_signs_here", "_law_many"] (defScope sTxt) := ⟨rfl, rfl, rfl, by decide +kernel, rfl, by decide +kernel, by decide +kernel⟩
theorem nd_txt : (["_law_k", "_law_signs_here", "_law_pen_here"] : List Str).Nodup := by decide +kernel
theorem ok_txt {f f1 : Addr} {fd fd1 : FuncData} (F : Fun K "_law_text" "_law_text" sTxt f fd) (G : FnOk P w K mg base CX0 1 f1 fd1 ["_law_pen_here", "_law_size_here"] spTak) (g : Gf K mg "_law_take" f1 fd1 ["_law_pen_here", "_law_size_here"])
    (hlen : mg "len" = none) (hint : mg "int" = none) (hrange : mg "range" = none) : FnOk P w K mg base CX0 2 f fd ["_law_pen_here", "_law_signs_here", "_law_many"] spTxt := by
  refine F.ok scTxt (fun vs H Q E h => ?_) (fun cdv A outer s H vs Q E hr h => ?_)
  · obtain ⟨p, l, b, n, cs, rfl, _⟩ := h
    rfl
  · obtain ⟨p, l, b, n, cs, rfl, hp, hb, hn, hL, hcs, hlp, q⟩ := h
    refine ⟨_, pss_one (ps_ret (pe_bm PySem.F.plainAttrs_str PySem.F.slot_str_join PySem.F.type_str_join mt_join pe_str (pa_cons
      (pe_comp (N' := ["_law_k", "_law_signs_here", "_law_pen_here"]) (ix := [none, some 1, some 0]) rfl rfl
        (pi_range1 rfl hrange (pa_cons (pe_op op_mul (pv 2) (pe_callTy call_int1 (by rfl) hint (by first | exact PySem.boot_int | decide +kernel) (pa_cons (pe_cmpR op_gt (pe_callB call_lenS (by rfl) hlen PySem.boot_len (pa_cons (pv 1) pa_nil)) pe_int (nomark _)) pa_nil))) pa_nil))
        (fun _ _ _ _ _ _ => pg_name (i := 0) nd_txt rfl (Or.inl rfl)) (fun _ _ _ _ _ _ => pts_nil)
        (fun _ _ _ _ _ _ => pe_ix (r := rIxL K) ix_list (pv 1) (pe_call G hr rfl g.m g.k g.b .nil pass0 (pa_cons (pv 2) (pa_cons (pe_callB (r := rLenS K) call_lenS (by rfl) hlen PySem.boot_len (pa_cons (pv 1) pa_nil)) pa_nil))) (fun _ _ => rfl))) pa_nil))), ?_⟩
    have el : ((cs.map sign).length : Int) = (cs.length : Int) := by rw [List.length_map]
    refine ⟨rfl, _, rfl, _, rfl, l, _, rfl, .inl (SqL.of hL), _, _, rfl, rfl, .inr ⟨_, rfl, ?_⟩⟩
    -- how many turns
    obtain ⟨m, em, hm1, hm2⟩ : ∃ m : Nat, (n : Int) * (if decide ((0 : Int) < ((cs.map sign).length : Int)) then 1 else 0) = (m : Int) ∧ m ≤ n ∧ (if cs = [] then m = 0 else m = n) := by
      cases cs with
      | nil => exact ⟨0, by simp, Nat.zero_le _, by simp⟩
      | cons c r =>
        refine ⟨n, ?_, Nat.le_refl _, by simp⟩
        have hpos : (0 : Int) < (((c :: r).map sign).length : Int) := by rw [List.length_map, List.length_cons]; omega
        rw [decide_eq_true hpos]
        simp
    refine ⟨_, _, rfl, rfl, .inl ⟨by omega, by omega⟩, _, rfl, ?_⟩
    rw [em]
    refine ⟨by omega, by omega, ?_⟩
    refine comp_all (Q := fun x H2 => rJoin K (V.str (Str.ofString "")) [x] H2 Q) (τ0 := [none, some (V.ref l), some (V.ref p)]) (sure_range (lo := 0) (n := Int.toNat (m : Int))) (by rw [rngV_length]; omega)
      (fun i ys τ H2 => ∃ w2 : List Nat, ys = w2.map sign ∧ w2.length = i ∧ (∀ c ∈ w2, c ∈ cs) ∧ But p H H2 ∧ PenAt H2 p (b + i) ∧ ∃ v, τ = [v, some (.ref l), some (.ref p)])
      ⟨[], rfl, rfl, (fun c hc => by simp at hc), But.refl _ _, hp, _, rfl⟩ ?_ ?_ ?_
    · rintro i ys τ H2 hi ⟨w', rfl, e, _⟩
      exact ⟨trivial, by rw [List.length_map]; omega⟩
    · rintro i x ys τ H2 hx ⟨w', rfl, et, hw, hBt, hPn, v, rfl⟩
      have hi : i < m := by
        have := (List.getElem?_eq_some_iff.mp hx).1
        rw [rngV_length] at this
        simpa using this
      have hne : cs ≠ [] := fun z => by rw [if_pos z] at hm2; omega
      have hcl : 0 < cs.length := List.length_pos_iff.mpr hne
      have hL2 := hBt l _ hL hlp
      refine ⟨_, rfl, _, rfl, _, rfl, l, _, rfl, .inl (SqL.of hL2), p, b + i, _, rfl, hPn, by omega, by rw [el]; omega, by rw [el]; omega, fun z H3 z0 z1 hP3 e3 => ?_⟩
      rw [el] at z1
      obtain ⟨j, rfl⟩ : ∃ j : Nat, z = (j : Int) := ⟨z.toNat, by omega⟩
      have hj : j < cs.length := by omega
      refine ⟨l, _, _, _, rfl, rfl, SqL.of ((e3 l hlp).trans hL2), atI_nat (v := sign cs[j]) (by rw [List.getElem?_map, List.getElem?_eq_getElem hj]; rfl), ?_⟩
      refine ⟨w' ++ [cs[j]], by rw [List.map_append]; rfl, by rw [List.length_append, et]; rfl, fun c hc => ?_, fun c o hc hne => (e3 c hne).trans (hBt c o hc hne), hP3, _, rfl⟩
      rcases List.mem_append.mp hc with z | z
      · exact hw c z
      · have z : c = cs[j] := by simpa using z
        rw [z]; exact List.getElem_mem hj
    · rintro ys τ H2 D ⟨w', rfl, et, hw, hBt, hPn, v, rfl⟩ hD
      have e : (rngV 0 (Int.toNat (m : Int))).length = m := by rw [rngV_length]; simp
      rw [e] at et hPn
      obtain ⟨oD, hoD⟩ := hPn.some
      have nDp : D ≠ p := (ne_of_none hoD hD).symm
      refine ⟨_, D, w'.map fun c => (⟨#[c]⟩ : Str), rfl, rfl, SqL.of (by rw [upd_same, strs_sign]), ?_, ?_⟩
      · rw [sum_ones, List.length_map]
        show w'.length + w'.length * 0 ≤ _
        omega
      · have e2 : Txt.join (Str.ofString "") (w'.map fun c => (⟨#[c]⟩ : Str)) = ⟨w'.toArray⟩ := join_signs _
        rw [e2]
        refine q w' _ (by omega) (fun hne => by rw [if_neg hne] at hm2; omega) hw (hBt.trans (But.same (Same.add hD))) ((hPn.other (upd_ne nDp.symm)).mono (by omega))
end
end Lw
namespace Lw
open PySem L2
def cutN (cs : List Nat) (lo hi : Option Int) : List Nat := (cs.drop (HT.sIx cs.length 0 lo)).take (HT.sIx cs.length cs.length hi - HT.sIx cs.length 0 lo)
theorem cut_sign (cs : List Nat) (lo hi : Option Int) : cutV (cs.map sign) lo hi = (cutN cs lo hi).map sign := by
  unfold cutV cutN
  rw [List.length_map, List.map_take, List.map_drop]
theorem cutN_in {cs : List Nat} {lo hi : Option Int} {c : Nat} (h : c ∈ cutN cs lo hi) : c ∈ cs := List.mem_of_mem_drop (List.mem_of_mem_take h)
theorem cutN_len (cs : List Nat) (lo hi : Option Int) : (cutN cs lo hi).length ≤ cs.length := by
  unfold cutN
  rw [List.length_take, List.length_drop]
  omega
theorem tx_app (a b : List Nat) : ((⟨a.toArray⟩ : Str) ++ (⟨b.toArray⟩ : Str)) = ⟨(a ++ b).toArray⟩ := by
  show (⟨a.toArray ++ b.toArray⟩ : Str) = _
  congr 1
  apply Array.ext'
  simp
section
variable {P : Program} {w : World} {K : PySem.W.Frag} {mg : Str → Option Value} {base : Heap}
def spWrd : Sp := fun vs H Q _ => ∃ (p l : Addr) (b j : Nat) (pick : Int) (cs : List Nat), vs = [.ref p, .int pick, .ref l, .int (j : Int)] ∧ PenAt H p b ∧ b ≤ 800000 ∧ H l = some (.lst (cs.map sign)) ∧ cs.length ≤ 8 ∧ l ≠ p ∧ j < cs.length ∧
  ∀ (w : List Nat) H', w.length ≤ 6 → (∀ c ∈ w, c ∈ cs) → But p H H' → PenAt H' p (b + 20) → Q (tx w) H'
theorem scWrd : FnScope ["_law_pen_here", "_law_pick", "_law_signs_here", "_law_at", "_law_behind"] ["_law_pen_here", "_law_pick", "_law_signs_here", "_law_at"] (defScope sWrd) := ⟨rfl, rfl, rfl, by decide +kernel, rfl, by decide +kernel, by decide +kernel⟩
theorem ok_wrd {f f1 f2 : Addr} {fd fd1 fd2 : FuncData} (F : Fun K "_law_word" "_law_word" sWrd f fd) (G : FnOk P w K mg base CX0 1 f1 fd1 ["_law_pen_here", "_law_size_here"] spTak) (g : Gf K mg "_law_take" f1 fd1 ["_law_pen_here", "_law_size_here"])
    (G2 : FnOk P w K mg base CX0 2 f2 fd2 ["_law_pen_here", "_law_signs_here", "_law_many"] spTxt) (g2 : Gf K mg "_law_text" f2 fd2 ["_law_pen_here", "_law_signs_here", "_law_many"])
    (hlen : mg "len" = none) : FnOk P w K mg base CX0 3 f fd ["_law_pen_here", "_law_pick", "_law_signs_here", "_law_at"] spWrd := by
  refine F.ok scWrd (fun vs H Q E h => ?_) (fun cdv A outer s H vs Q E hr h => ?_)
  · obtain ⟨p, l, b, j, pick, cs, rfl, _⟩ := h
    rfl
  · obtain ⟨p, l, b, j, pick, cs, rfl, hp, hb, hL, hcs, hlp, hj, q⟩ := h
    have hr1 : Room 1 _ := hr.mono (by decide)
    refine ⟨_, pss_cons (ps_if (pt_cmpR op_lt (pv 1) pe_int (nomark _)) (pss_one (ps_ret (pe_call G2 hr rfl g2.m g2.k g2.b .nil pass0 (pa_cons (pv 0) (pa_cons (pv 2) (pa_cons (pe_call G hr1 rfl g.m g.k g.b .nil pass0 (pa_cons (pv 0) (pa_cons pe_int pa_nil))) pa_nil)))))) pss_nil)
      (pss_cons (ps_set (i := 4) scWrd.nd rfl (Or.inl rfl) (pe_call G2 hr rfl g2.m g2.k g2.b .nil pass0 (pa_cons (pv 0) (pa_cons (pe_slice sl_list (pv 2) (po_some (pe_op op_add (pv 3) pe_int)) po_none) (pa_cons (pe_call G hr1 rfl g.m g.k g.b .nil pass0 (pa_cons (pv 0) (pa_cons pe_int pa_nil))) pa_nil)))))
      (pss_cons (ps_if (pt_cmpR op_eq (pv 1) pe_int (nomark _)) (pss_one (ps_ret (pe_op op_add_str (pe_op op_add_str (pv 4) (pe_ix ix_list (pv 2) (pv 3) (fun _ _ => rfl)))
          (pe_call G2 hr rfl g2.m g2.k g2.b .nil pass0 (pa_cons (pv 0) (pa_cons (pe_slice sl_list (pv 2) (po_some (pe_op op_add (pv 3) pe_int)) po_none) (pa_cons (pe_call G hr1 rfl g.m g.k g.b .nil pass0 (pa_cons (pv 0) (pa_cons pe_int pa_nil))) pa_nil))))))) pss_nil)
      (pss_cons (ps_if (pt_cmpR op_eq (pv 1) pe_int (nomark _)) (pss_one (ps_ret (pv 4))) pss_nil)
      (pss_cons (ps_if (pt_cmpR op_eq (pv 1) pe_int (nomark _)) (pss_one (ps_ret (pe_op op_add_str (pe_ix ix_list (pv 2) (pe_op op_mod (pe_op op_add (pv 3) pe_int) (pe_callB call_lenS (by rfl) hlen PySem.boot_len (pa_cons (pv 2) pa_nil))) (fun _ _ => rfl))
          (pe_call G2 hr rfl g2.m g2.k g2.b .nil pass0 (pa_cons (pv 0) (pa_cons (pe_slice sl_list (pv 2) (po_some (pe_op op_add (pv 3) pe_int)) po_none) (pa_cons (pe_call G hr1 rfl g.m g.k g.b .nil pass0 (pa_cons (pv 0) (pa_cons pe_int pa_nil))) pa_nil))))))) pss_nil)
      (pss_one (ps_ret (pe_call G2 hr rfl g2.m g2.k g2.b .nil pass0 (pa_cons (pv 0) (pa_cons (pv 2) (pa_cons (pe_call G hr1 rfl g.m g.k g.b .nil pass0 (pa_cons (pv 0) (pa_cons pe_int pa_nil))) pa_nil)))))))))), ?_⟩
    have but3 : ∀ {H1 H3 : Hp}, (∀ c, c ≠ p → H3 c = H1 c) → But p H1 H3 := fun e c o h n => (e c n).trans h
    -- the whole list and a drawn number of letters below k
    have whole : ∀ (H1 : Hp) (b1 : Nat) (kk : Nat), 0 < kk → kk ≤ 7 → But p H H1 → PenAt H1 p b1 → b1 ≤ b + 12 →
        spTak [.ref p, .int (kk : Int)] H1 (fun v H2 => spTxt ([.ref p, .ref l, v] ++ []) H2 Q E0) E0 := fun H1 b1 kk k1 k2 hB hP hb1 =>
      ⟨p, b1, _, rfl, hP, by omega, by omega, by omega, fun z H3 z0 z1 hP3 e3 => by
        obtain ⟨m, rfl⟩ : ∃ m : Nat, z = (m : Int) := ⟨z.toNat, by omega⟩
        exact ⟨p, l, b1 + 1, m, cs, rfl, hP3, by omega, by omega, (e3 l hlp).trans (hB l _ hL hlp), by omega, hlp, fun w' H4 l1 l2 l3 hB4 hP4 =>
          q w' H4 (by omega) l3 (hB.trans ((but3 e3).trans hB4)) (hP4.mono (by omega))⟩⟩
    -- a part of it
    have partF : ∀ {H1 H3 : Hp} {b1 : Nat} {lo : Int} {t : Addr}, PenAt H1 p b1 → H1 t = none → (∀ c, c ≠ p → H3 c = upd H1 t (.lst (cutV (cs.map sign) (some lo) none)) c) →
        H3 t = some (.lst ((cutN cs (some lo) none).map sign)) ∧ t ≠ p ∧ But p H1 H3 := fun {H1 H3 b1 lo t} hP ht e3 => by
      obtain ⟨op, hop⟩ := hP.some
      have npt : p ≠ t := ne_of_none hop ht
      exact ⟨by rw [e3 t npt.symm, upd_same, cut_sign], npt.symm, (But.same (Same.add ht)).trans (but3 e3)⟩
    have penF : ∀ {H1 : Hp} {b1 : Nat} {t : Addr} {o : HO}, PenAt H1 p b1 → H1 t = none → PenAt (upd H1 t o) p b1 := fun {H1 b1 t o} hP ht => by
      obtain ⟨op, hop⟩ := hP.some
      exact hP.other (upd_ne (ne_of_none hop ht))
    refine ⟨_, rfl, _, _, rfl, rfl, _, rfl, ?_⟩
    refine ite2 (fun hc => ?_) (fun hc => ?_)
    · exact ⟨_, rfl, _, rfl, _, rfl, whole H b 4 (by decide) (by decide) (But.refl _ _) hp (by omega)⟩
    · refine ⟨_, rfl, _, rfl, _, rfl, _, _, rfl, rfl, _, rfl, l, _, rfl, SqL.of hL, fun t ht => ⟨_, rfl, ?_⟩⟩
      refine ⟨p, b, _, rfl, penF hp ht, by omega, by decide, by decide, fun z1 H3 z10 z11 hP3 e3 => ?_⟩
      obtain ⟨m1, rfl⟩ : ∃ m : Nat, z1 = (m : Int) := ⟨z1.toNat, by omega⟩
      obtain ⟨t1, t2, t3⟩ := partF hp ht e3
      refine ⟨p, t, b + 1, m1, _, rfl, hP3, by omega, by omega, t1, by have := cutN_len cs (some ((j : Int) + 1)) none; omega, t2, fun w1 H1 w1l _ w1i0 hB10 hP10 => ?_⟩
      have w1i : ∀ c ∈ w1, c ∈ cs := fun c hc => cutN_in (w1i0 c hc)
      have hB1 : But p H H1 := t3.trans hB10
      have hP1 : PenAt H1 p (b + 3) := hP10.mono (by omega)
      have hL1 := hB1 l _ hL hlp
      refine ⟨_, rfl, rfl, _, rfl, ?_⟩
      refine ite2 (fun hc2 => ?_) (fun hc2 => ?_)
      · refine ⟨_, rfl, _, rfl, _, rfl, l, _, _, _, rfl, rfl, SqL.of hL1, atI_nat (v := sign cs[j]) (by rw [List.getElem?_map, List.getElem?_eq_getElem hj]; rfl), _, _, rfl, rfl, ?_, ?_⟩
        · show w1.toArray.size + 1 ≤ sizeLine
          rw [List.size_toArray]
          exact Nat.le_trans (show w1.length + 1 ≤ 100 by omega) (by decide)
        · refine ⟨_, rfl, _, rfl, _, rfl, _, _, rfl, rfl, _, rfl, l, _, rfl, SqL.of hL1, fun t2 ht2 => ⟨_, rfl, ?_⟩⟩
          refine ⟨p, b + 3, _, rfl, penF hP1 ht2, by omega, by decide, by decide, fun z2 H4 z20 z21 hP4 e4 => ?_⟩
          obtain ⟨m2, rfl⟩ : ∃ m : Nat, z2 = (m : Int) := ⟨z2.toNat, by omega⟩
          obtain ⟨u1, u2, u3⟩ := partF hP1 ht2 e4
          refine ⟨p, t2, b + 4, m2, _, rfl, hP4, by omega, by omega, u1, Nat.le_trans (cutN_len cs _ none) (by omega), u2, fun w2 H2 w2l _ w2i0 hB20 hP20 => ?_⟩
          have w2i : ∀ c ∈ w2, c ∈ cs := fun c hc => cutN_in (w2i0 c hc)
          have hB2 : But p H1 H2 := u3.trans hB20
          have hP2 : PenAt H2 p (b + 5) := hP20.mono (by omega)
          have e1 : ((⟨w1.toArray⟩ : Str) ++ (⟨#[cs[j]]⟩ : Str)) = ⟨(w1 ++ [cs[j]]).toArray⟩ := tx_app w1 [cs[j]]
          refine ⟨_, _, rfl, rfl, ?_, ?_⟩
          · rw [e1]
            show (w1 ++ [cs[j]]).toArray.size + w2.toArray.size ≤ sizeLine
            rw [List.size_toArray, List.size_toArray, List.length_append]
            exact Nat.le_trans (show w1.length + [cs[j]].length + w2.length ≤ 100 by simp; omega) (by decide)
          · rw [e1, tx_app]
            refine q _ H2 ?_ ?_ (hB1.trans hB2) (hP2.mono (by omega))
            · rw [List.length_append, List.length_append]
              simp
              omega
            · intro c hc
              rcases List.mem_append.mp hc with z | z
              · rcases List.mem_append.mp z with z | z
                · exact w1i c z
                · have z : c = cs[j] := by simpa using z
                  rw [z]; exact List.getElem_mem hj
              · exact w2i c z
      · refine ⟨_, rfl, rfl, _, rfl, ?_⟩
        refine ite2 (fun hc3 => ?_) (fun hc3 => ?_)
        · exact ⟨_, rfl, q _ H1 (by omega) w1i hB1 (hP1.mono (by omega))⟩
        · refine ⟨_, rfl, rfl, _, rfl, ?_⟩
          refine ite2 (fun hc4 => ?_) (fun hc4 => ?_)
          · have el : ((cs.map sign).length : Int) = (cs.length : Int) := by rw [List.length_map]
            obtain ⟨m, hm, hm2⟩ : ∃ m : Nat, ((j : Int) + 1) % ((cs.map sign).length : Int) = (m : Int) ∧ m < cs.length := by
              rw [el]
              have a1 := Int.emod_nonneg ((j : Int) + 1) (show (cs.length : Int) ≠ 0 by omega)
              have a2 := Int.emod_lt_of_pos ((j : Int) + 1) (show (0 : Int) < cs.length by omega)
              exact ⟨(((j : Int) + 1) % (cs.length : Int)).toNat, by omega, by omega⟩
            refine ⟨_, rfl, _, rfl, _, _, rfl, rfl, _, rfl, l, _, rfl, .inl (SqL.of hL1), _, _, rfl, rfl, (by show (0 : Int) < _; rw [el]; omega), l, _, _, sign cs[m], rfl, rfl, SqL.of hL1, ?_, ?_⟩
            · rw [hm]
              exact atI_nat (by rw [List.getElem?_map, List.getElem?_eq_getElem hm2]; rfl)
            · refine ⟨_, rfl, _, rfl, _, rfl, _, _, rfl, rfl, _, rfl, l, _, rfl, SqL.of hL1, fun t2 ht2 => ⟨_, rfl, ?_⟩⟩
              refine ⟨p, b + 3, _, rfl, penF hP1 ht2, by omega, by decide, by decide, fun z2 H4 z20 z21 hP4 e4 => ?_⟩
              obtain ⟨m2, rfl⟩ : ∃ m : Nat, z2 = (m : Int) := ⟨z2.toNat, by omega⟩
              obtain ⟨u1, u2, u3⟩ := partF hP1 ht2 e4
              refine ⟨p, t2, b + 4, m2, _, rfl, hP4, by omega, by omega, u1, Nat.le_trans (cutN_len cs _ none) (by omega), u2, fun w2 H2 w2l _ w2i0 hB20 hP20 => ?_⟩
              have w2i : ∀ c ∈ w2, c ∈ cs := fun c hc => cutN_in (w2i0 c hc)
              have hB2 : But p H1 H2 := u3.trans hB20
              have hP2 : PenAt H2 p (b + 5) := hP20.mono (by omega)
              refine ⟨⟨#[cs[m]]⟩, ⟨w2.toArray⟩, rfl, rfl, ?_, ?_⟩
              · show 1 + w2.toArray.size ≤ sizeLine
                rw [List.size_toArray]
                exact Nat.le_trans (show 1 + w2.length ≤ 100 by omega) (by decide)
              · have e1 : ((⟨#[cs[m]]⟩ : Str) ++ (⟨w2.toArray⟩ : Str)) = ⟨([cs[m]] ++ w2).toArray⟩ := tx_app [cs[m]] w2
                rw [e1]
                refine q _ H2 ?_ ?_ (hB1.trans hB2) (hP2.mono (by omega))
                · rw [List.length_append]
                  simp
                  omega
                · intro c hc
                  rcases List.mem_append.mp hc with z | z
                  · have z : c = cs[m] := by simpa using z
                    rw [z]; exact List.getElem_mem hm2
                  · exact w2i c z
          · exact ⟨_, rfl, _, rfl, _, rfl, whole H1 (b + 3) 7 (by decide) (by decide) hB1 hP1 (by omega)⟩
end
end Lw
namespace Lw
open PySem L2
section
variable {P : Program} {w : World} {K : PySem.W.Frag} {mg : Str → Option Value} {base : Heap}
def spBok : Sp := fun vs H Q _ => ∃ (p : Addr) (b : Nat), vs = [.ref p] ∧ PenAt H p b ∧ b ≤ 700000 ∧
  ∀ (t : Addr) (first : List Nat) (rs : List Rule) H', Good first rs → BookAt H' t first rs → But p H H' → PenAt H' p (b + 400) → Q (.ref t) H'
theorem scBok : FnScope ["_law_pen_here", "_law_pick", "_law_many", "_law_signs_here", "_law_words", "_law_at", "_law_letter", "_law_first"] ["_law_pen_here"] (defScope sBok) := ⟨rfl, rfl, rfl, by decide +kernel, rfl, by decide +kernel, by decide +kernel⟩
theorem nd_bok : (["_law_letter", "_law_words"] : List Str).Nodup := by decide +kernel
theorem arr1 : ∀ m : Nat, m < 7 → ∃ v : Nat, ([V.int 3, V.int 2, V.int 4, V.int 4, V.int 5, V.int 8, V.int 0] : List V)[m]? = some (V.int (v : Int)) ∧ v ≤ 8 ∧ (m < 5 → 1 ≤ v)
  | 0, _ => ⟨3, rfl, by decide, by decide⟩
  | 1, _ => ⟨2, rfl, by decide, by decide⟩
  | 2, _ => ⟨4, rfl, by decide, by decide⟩
  | 3, _ => ⟨4, rfl, by decide, by decide⟩
  | 4, _ => ⟨5, rfl, by decide, by decide⟩
  | 5, _ => ⟨8, rfl, by decide, by decide⟩
  | 6, _ => ⟨0, rfl, by decide, by decide⟩
  | n + 7, h => by omega
theorem arr2 : ∀ m : Nat, m < 7 → ∃ v : Nat, ([V.int 4, V.int 4, V.int 4, V.int 4, V.int 4, V.int 13, V.int 1] : List V)[m]? = some (V.int (v : Int)) ∧ v ≤ 13 ∧ 1 ≤ v
  | 0, _ => ⟨4, rfl, by decide, by decide⟩
  | 1, _ => ⟨4, rfl, by decide, by decide⟩
  | 2, _ => ⟨4, rfl, by decide, by decide⟩
  | 3, _ => ⟨4, rfl, by decide, by decide⟩
  | 4, _ => ⟨4, rfl, by decide, by decide⟩
  | 5, _ => ⟨13, rfl, by decide, by decide⟩
  | 6, _ => ⟨1, rfl, by decide, by decide⟩
  | n + 7, h => by omega
theorem ok_bok {f f1 f2 f3 f4 : Addr} {fd fd1 fd2 fd3 fd4 : FuncData} (F : Fun K "_law_book" "_law_book" sBok f fd) (G : FnOk P w K mg base CX0 1 f1 fd1 ["_law_pen_here", "_law_size_here"] spTak) (g : Gf K mg "_law_take" f1 fd1 ["_law_pen_here", "_law_size_here"])
    (G2 : FnOk P w K mg base CX0 2 f2 fd2 ["_law_pen_here", "_law_signs_here", "_law_many"] spTxt) (g2 : Gf K mg "_law_text" f2 fd2 ["_law_pen_here", "_law_signs_here", "_law_many"])
    (G3 : FnOk P w K mg base CX0 2 f3 fd3 ["_law_pen_here", "_law_many"] spSig) (g3 : Gf K mg "_law_signs" f3 fd3 ["_law_pen_here", "_law_many"])
    (G4 : FnOk P w K mg base CX0 3 f4 fd4 ["_law_pen_here", "_law_pick", "_law_signs_here", "_law_at"] spWrd) (g4 : Gf K mg "_law_word" f4 fd4 ["_law_pen_here", "_law_pick", "_law_signs_here", "_law_at"])
    (hint : mg "int" = none) (henum : mg "enumerate" = none) (hsorted : mg "sorted" = none) (htuple : mg "tuple" = none) : FnOk P w K mg base CX0 4 f fd ["_law_pen_here"] spBok := by
  refine F.ok scBok (fun vs H Q E h => ?_) (fun cdv A outer s H vs Q E hr h => ?_)
  · obtain ⟨p, b, rfl, _⟩ := h
    rfl
  · obtain ⟨p, b, rfl, hp, hb, q⟩ := h
    have hr1 : Room 1 _ := hr.mono (by decide)
    have hr2 : Room 2 _ := hr.mono (by decide)
    have hu := hu_of hr
    refine ⟨_, pss_cons (ps_set (i := 1) scBok.nd rfl (Or.inl rfl) (pe_call G hr1 rfl g.m g.k g.b .nil pass0 (pa_cons (pv 0) (pa_cons pe_int pa_nil))))
      (pss_cons (ps_set (i := 2) scBok.nd rfl (Or.inl rfl) (pe_op op_sub (pe_ix ix_list (pe_lst (pa_cons pe_int (pa_cons pe_int (pa_cons pe_int (pa_cons pe_int (pa_cons pe_int (pa_cons pe_int (pa_cons pe_int pa_nil)))))))) (pv 1) (fun _ _ => rfl))
        (pe_op op_mul (pe_callTy call_int1 (by rfl) hint (by first | exact PySem.boot_int | decide +kernel) (pa_cons (pe_cmpR op_lt (pv 1) pe_int (nomark _)) pa_nil)) (pe_call G hr1 rfl g.m g.k g.b .nil pass0 (pa_cons (pv 0) (pa_cons pe_int pa_nil))))))
      (pss_cons (ps_set (i := 3) scBok.nd rfl (Or.inl rfl) (pe_call G3 hr2 rfl g3.m g3.k g3.b .nil pass0 (pa_cons (pv 0) (pa_cons (pv 2) pa_nil))))
      (pss_cons (ps_set (i := 4) scBok.nd rfl (Or.inr rfl) pe_dnewK)
      (pss_cons (ps_for PassesOwn.never rfl (pi_enum rfl henum (pa_cons (pv 3) pa_nil)) (pg_tup rfl (pgs_cons (pg_name (i := 5) scBok.nd rfl (Or.inl rfl)) (pgs_cons (pg_name (i := 6) scBok.nd rfl (Or.inl rfl)) pgs_nil)))
        (pss_one (ps_dput hu (pv 4) (pv 6) (pe_call G4 hr rfl g4.m g4.k g4.b .nil pass0 (pa_cons (pv 0) (pa_cons (pv 1) (pa_cons (pv 3) (pa_cons (pv 5) pa_nil))))) rfl)))
      (pss_cons (ps_set (i := 7) scBok.nd rfl (Or.inl rfl) (pe_call G2 hr2 rfl g2.m g2.k g2.b .nil pass0 (pa_cons (pv 0) (pa_cons (pv 3) (pa_cons (pe_call G hr1 rfl g.m g.k g.b .nil pass0 (pa_cons (pv 0)
        (pa_cons (pe_ix ix_list (pe_lst (pa_cons pe_int (pa_cons pe_int (pa_cons pe_int (pa_cons pe_int (pa_cons pe_int (pa_cons pe_int (pa_cons pe_int pa_nil)))))))) (pv 1) (fun _ _ => rfl)) pa_nil))) pa_nil)))))
      (pss_one (ps_ret (pe_tup (pa_cons (pv 7) (pa_cons (pe_callTy call_tuple_of (by rfl) htuple (by first | exact PySem.boot_tuple | decide +kernel) (pa_cons
        (pe_comp (N' := ["_law_letter", "_law_words"]) (ix := [none, some 4]) rfl rfl (pi_list (pe_callB (call_sorted_dict rfl) (by rfl) hsorted PyProof.Rows.boot_sorted (pa_cons (pv 4) pa_nil)))
          (fun _ _ _ _ _ _ => pg_name (i := 0) nd_bok rfl (Or.inl rfl)) (fun _ _ _ _ _ _ => pts_nil) (fun _ _ _ _ _ _ => pe_tup (pa_cons (pv 0) (pa_cons (pe_dget hu (pv 1) (pv 0) (fun _ _ => rfl)) pa_nil)))) pa_nil)) pa_nil)))))))))), ?_⟩
    refine ⟨_, rfl, p, b, _, rfl, hp, by omega, by decide, by decide, fun z H1 z0 z1 hP1 e1 => ?_⟩
    obtain ⟨m, rfl⟩ : ∃ m : Nat, z = (m : Int) := ⟨z.toNat, by omega⟩
    have hm : m < 7 := by omega
    obtain ⟨v, hv, v1, v2⟩ := arr1 m hm
    obtain ⟨op1, hop1⟩ := hP1.some
    refine ⟨(by show 7 ≤ sizeLine; decide), fun t1 ht1 => ?_⟩
    have np1 : p ≠ t1 := ne_of_none hop1 ht1
    refine ⟨_, rfl, t1, _, _, _, rfl, rfl, SqL.of upd_same, atI_nat hv, _, rfl, _, _, rfl, rfl, .inr ⟨_, rfl, ?_⟩⟩
    refine ⟨_, rfl, p, b + 1, _, rfl, hP1.other (upd_ne np1), by omega, by decide, by decide, fun z2 H2 z20 z21 hP2 e2 => ?_⟩
    have but3 : ∀ {Ha Hb : Hp}, (∀ c, c ≠ p → Hb c = Ha c) → But p Ha Hb := fun e c o h n => (e c n).trans h
    have hB2 : But p H H2 := (but3 e1).trans ((But.same (Same.add ht1)).trans (but3 e2))
    obtain ⟨n, hn, hn8⟩ : ∃ n : Nat, (v : Int) - (if decide ((m : Int) < 5) = true then 1 else 0) * z2 = (n : Int) ∧ n ≤ 8 := by
      by_cases h5 : m < 5
      · have := v2 h5
        rw [if_pos (decide_eq_true (by omega))]
        exact ⟨((v : Int) - z2).toNat, by omega, by omega⟩
      · rw [if_neg (by intro z; have := of_decide_eq_true z; omega)]
        exact ⟨v, by omega, v1⟩
    refine ⟨_, _, rfl, rfl, .inl ⟨by split <;> decide, by split <;> decide⟩, _, _, rfl, rfl, ?_⟩
    refine ⟨_, rfl, _, rfl, p, b + 2, n, ?_, hP2, by omega, by omega, fun l cs H3 hB3 hP3 nl hL3 hcl hnd habc => ?_⟩
    · show [V.ref p, V.int ((v : Int) - (if decide ((m : Int) < 5) = true then 1 else 0) * z2)] = _
      rw [hn]
    intro d hd
    obtain ⟨op2, hop2⟩ := hP2.some
    obtain ⟨op3, hop3⟩ := hP3.some
    have nlp : l ≠ p := (ne_of_none hop2 nl).symm
    have ndp : d ≠ p := (ne_of_none hop3 hd).symm
    have nld : l ≠ d := ne_of_none hL3 hd
    refine ⟨_, rfl, l, rfl, ⟨_, SqL.of (by rw [upd_ne nld]; exact hL3)⟩, ?_⟩
    refine for_by2 (sure_enum (xs := cs.map sign)) (fun i σ H4 => ∃ (ws : List (List Nat)) (v5 v6 : Option V), σ = [some (.ref p), some (.int (m : Int)), some (.int ((v : Int) - (if decide ((m : Int) < 5) = true then 1 else 0) * z2)), some (.ref l), some (.ref d), v5, v6, none] ∧
        ws.length = i ∧ i ≤ cs.length ∧ (∀ w ∈ ws, w.length ≤ 6 ∧ ∀ c ∈ w, c ∈ cs) ∧ H4 d = some (.dK (kvz (cs.take i) ws)) ∧ But p H3 H4 ∧ PenAt H4 p (b + 10 + 20 * i))
      ⟨[], none, none, rfl, rfl, Nat.zero_le _, (fun w hw => by simp at hw), upd_same, But.same (Same.add hd), (hP3.other (upd_ne ndp.symm)).mono (by omega)⟩ ?_ ?_ ?_
    · rintro i σ H4 hi ⟨ws, v5, v6, rfl, e5, e6, hws, hd4, hB4, hP4⟩
      exact SqL.of (hB4 l _ hL3 nlp)
    · rintro i zs σ H4 T hz ⟨ws, v5, v6, rfl, e5, e6, hws, hd4, hB4, hP4⟩ hT
      rw [List.getElem?_map] at hz
      cases ez : (cs.map sign).zipIdx[i]? with
      | none => rw [ez] at hz; cases hz
      | some pr =>
        rw [ez] at hz
        cases hz
        rw [List.getElem?_zipIdx, List.getElem?_map] at ez
        cases ec : cs[i]? with
        | none => rw [ec] at ez; cases ez
        | some c =>
          rw [ec] at ez
          have ez' : pr = (sign c, 0 + i) := (Option.some.inj ez).symm
          subst ez'
          obtain ⟨op4, hop4⟩ := hP4.some
          have npT : p ≠ T := ne_of_none hop4 hT
          have hL4 := hB4 l _ hL3 nlp
          have hil : i < cs.length := (List.getElem?_eq_some_iff.mp ec).1
          refine ⟨T, _, rfl, SqT.of upd_same, rfl, _, _, rfl, _, _, rfl, rfl, ?_⟩
          refine ⟨_, rfl, _, rfl, _, rfl, _, rfl, p, l, b + 10 + 20 * i, i, (m : Int), cs, ?_, hP4.other (upd_ne npT), by omega, by rw [upd_ne (ne_of_none hL4 hT)]; exact hL4, by omega, nlp, hil, fun w' H5 w1 w2 hB5 hP5 => ?_⟩
          · show [V.ref p, V.int (m : Int), V.ref l, V.int ((0 + i : Nat) : Int)] = _
            rw [Nat.zero_add]
          have hd5 : H5 d = some (.dK (kvz (cs.take i) ws)) := hB5 d _ (by rw [upd_ne (ne_of_none hd4 hT)]; exact hd4) ndp
          have hnot : c ∉ cs.take i := fun hc => by
            have := hnd
            rw [← List.take_append_drop i cs] at this
            obtain ⟨_, _, hdis⟩ := List.nodup_append.mp this
            refine hdis c hc c ?_ rfl
            rw [List.drop_eq_getElem_cons hil]
            have : cs[i] = c := by rw [List.getElem?_eq_getElem hil] at ec; exact Option.some.inj ec
            rw [this]
            exact List.mem_cons_self
          refine ⟨_, rfl, _, rfl, d, _, rfl, DPut.k (k := Sum.inr (one c)) hd5 (small1000 (Nat.le_trans (kvz_len _ _) (by rw [List.length_take]; omega))), ?_⟩
          refine ⟨ws ++ [w'], _, _, rfl, by rw [List.length_append, e5]; rfl, hil, fun u hu => ?_, ?_, ?_, ?_⟩
          · rcases List.mem_append.mp hu with z | z
            · exact hws u z
            · have z : u = w' := by simpa using z
              rw [z]; exact ⟨w1, w2⟩
          · rw [upd_same, putK_new _ (kvz_none hnot), kvz_snoc (by rw [List.length_take, e5]; omega) ec]
          · intro c' o hc' hne
            have h4 := hB4 c' o hc' hne
            rw [upd_ne (ne_of_none hc' hd)]
            exact hB5 c' o (by rw [upd_ne (ne_of_none h4 hT)]; exact h4) hne
          · exact (hP5.other (upd_ne ndp.symm)).mono (by omega)
    · rintro σ H4 ⟨ws, v5, v6, rfl, e5, e6, hws, hd4, hB4, hP4⟩
      have el : ((cs.map sign).zipIdx.map fun p => [V.int ((p.2 : Nat) : Int), p.1]).length = cs.length := by simp
      rw [el] at e5 hd4 hP4
      rw [take_all] at hd4
      obtain ⟨op4, hop4⟩ := hP4.some
      have hL4 := hB4 l _ hL3 nlp
      obtain ⟨v', hv', u1, u2⟩ := arr2 m hm
      refine ⟨_, rfl, _, rfl, _, rfl, (by show 7 ≤ sizeLine; decide), fun t2 ht2 => ?_⟩
      have np2 : p ≠ t2 := ne_of_none hop4 ht2
      refine ⟨_, rfl, t2, _, _, _, rfl, rfl, SqL.of upd_same, atI_nat hv', p, b + 10 + 20 * cs.length, _, rfl, hP4.other (upd_ne np2), by omega, by omega, by omega, fun z3 H5 z30 z31 hP5 e7 => ?_⟩
      obtain ⟨m3, rfl⟩ : ∃ m : Nat, z3 = (m : Int) := ⟨z3.toNat, by omega⟩
      have hL5 : H5 l = some (.lst (cs.map sign)) := (e7 l nlp).trans (by rw [upd_ne (ne_of_none hL4 ht2)]; exact hL4)
      refine ⟨p, l, b + 10 + 20 * cs.length + 1, m3, cs, rfl, hP5, by omega, by omega, hL5, by omega, nlp, fun first H6 fl1 fl2 fl3 hB6 hP6 => ?_⟩
      have hB46 : But p H4 H6 := (But.same (Same.add ht2)).trans ((but3 e7).trans hB6)
      have hd6 : H6 d = some (.dK (kvz cs ws)) := hB46 d _ hd4 ndp
      refine ⟨_, rfl, _, rfl, d, _, cs.map one, rfl, hd6, kvz_keys e5, Nat.lt_of_le_of_lt (kvz_len _ _) (by omega), fun l2 ss' hl2 hperm hsort => ?_⟩
      obtain ⟨cs', hp', rfl⟩ := perm_ones hperm
      have es : (cs'.map one).map V.str = cs'.map sign := by rw [List.map_map]; rfl
      rw [es]
      have nd' : cs'.Nodup := hp'.nodup_iff.mpr hnd
      have hlt := sorted_lt hsort nd'
      have hlen' : cs'.length = n := by rw [hp'.length_eq]; exact hcl
      have s7 : Same H6 (upd H6 l2 (.lst (cs'.map sign))) := Same.add hl2
      refine ⟨l2, rfl, ⟨_, SqL.of upd_same⟩, ?_⟩
      refine comp_all (Q := fun x Ha => ∃ p ys, [x] = [V.ref p] ∧ ((SqL K Ha p ys ∧ ∀ l, Ha l = none → (fun (y : V) (Hb : Hp) => [tx first, y].length ≤ sizeLine ∧ ∀ t, Hb t = none → Q (.ref t) (upd Hb t (.tup [tx first, y]))) (.ref l) (upd Ha l (.tup ys))) ∨
          (SqT K Ha p ys ∧ (fun (y : V) (Hb : Hp) => [tx first, y].length ≤ sizeLine ∧ ∀ t, Hb t = none → Q (.ref t) (upd Hb t (.tup [tx first, y]))) (.ref p) Ha)))
        (τ0 := [none, some (V.ref d)]) (sure_list (xs := cs'.map sign)) (by rw [List.length_map]; omega)
        (fun i ys τ H8 => Same (upd H6 l2 (.lst (cs'.map sign))) H8 ∧ (∃ v, τ = [v, some (.ref d)]) ∧ ∃ (ps : List Addr) (rs : List Rule), ys = ps.map V.ref ∧ RulesAt H8 ps rs ∧ rs.map (·.1) = cs'.take i ∧ ∀ r ∈ rs, r.2.length ≤ 6 ∧ ∀ c ∈ r.2, c ∈ cs)
        ⟨Same.refl _, ⟨_, rfl⟩, [], [], rfl, .nil, rfl, (fun r hr => by simp at hr)⟩ ?_ ?_ ?_
      · rintro i ys τ H8 hi ⟨s8, _, ps, rs, rfl, hR, hrs, _⟩
        refine ⟨SqL.of (s8 _ _ upd_same), ?_⟩
        have := congrArg List.length hrs
        rw [List.length_map, List.length_take] at this
        rw [List.length_map, hR.len]
        omega
      · rintro i x ys τ H8 hx ⟨s8, ⟨v0, rfl⟩, ps, rs, rfl, hR, hrs, hgood⟩
        rw [List.getElem?_map] at hx
        cases ec : cs'[i]? with
        | none => rw [ec] at hx; cases hx
        | some c =>
          rw [ec] at hx
          cases hx
          have hc : c ∈ cs := hp'.mem_iff.mp (List.mem_of_getElem? ec)
          obtain ⟨w', hw, ew⟩ := kvz_some e5 hc
          have hg := DGet.k (k := (Sum.inr (one c) : Key)) (s8 _ _ (s7 _ _ hd6))
          rw [ew] at hg
          refine ⟨_, rfl, _, rfl, _, rfl, d, tx w', rfl, hg, (by show 2 ≤ sizeLine; decide), fun T hT => ?_⟩
          refine ⟨s8.trans (Same.add hT), ⟨_, rfl⟩, ps ++ [T], rs ++ [(c, w')], by rw [List.map_append]; rfl, (hR.mono (TupS.same (Same.add hT))).snoc upd_same, ?_, fun r hr => ?_⟩
          · rw [List.map_append, hrs, List.take_add_one, ec]
            rfl
          · rcases List.mem_append.mp hr with z | z
            · exact hgood r z
            · have z : r = (c, w') := by simpa using z
              rw [z]; exact hws w' hw
      · rintro ys τ H8 D ⟨s8, _, ps, rs, rfl, hR, hrs, hgood⟩ hD
        rw [List.length_map, take_all] at hrs
        refine ⟨D, ps.map V.ref, rfl, .inl ⟨SqL.of upd_same, fun r hr => ⟨(by show 2 ≤ sizeLine; decide), fun t ht => ?_⟩⟩⟩
        have sA : Same H8 (upd H8 D (.lst (ps.map V.ref))) := Same.add hD
        have sB : Same (upd H8 D (.lst (ps.map V.ref))) (upd (upd H8 D (.lst (ps.map V.ref))) r (.tup (ps.map V.ref))) := Same.add hr
        have sC : Same (upd (upd H8 D (.lst (ps.map V.ref))) r (.tup (ps.map V.ref))) (upd (upd (upd H8 D (.lst (ps.map V.ref))) r (.tup (ps.map V.ref))) t (.tup [tx first, .ref r])) := Same.add ht
        have sAll := s7.trans (s8.trans (sA.trans (sB.trans sC)))
        have hrl : rs.length = cs'.length := by have := congrArg List.length hrs; rwa [List.length_map] at this
        obtain ⟨a6, n6, g6, e66, r6⟩ := hP6.ex
        refine q t first rs _ ⟨by omega, by rw [hrs]; exact hlt, fun r hr => ?_, fun r hr => (hgood r hr).1, fun r hr c hc => ?_, by omega, fun c hc => ?_⟩ ⟨r, ps, upd_same, sC _ _ upd_same, hR.mono (TupS.same (sA.trans (sB.trans sC)))⟩
          (hB2.trans (hB3.trans (hB4.trans (hB46.trans (But.same sAll))))) ⟨a6, n6, g6, sAll _ _ e66, r6.1, by omega, r6.2.2⟩
        · have hr' : r.1 ∈ cs' := by rw [← hrs]; exact List.mem_map_of_mem hr
          exact habc r.1 (hp'.mem_iff.mp hr')
        · rw [hrs]; exact hp'.mem_iff.mpr ((hgood r hr).2 c hc)
        · rw [hrs]; exact hp'.mem_iff.mpr (fl3 c hc)
end
end Lw
namespace Lw
open PySem L2 PyProof.Rows
abbrev bmV : List Value := [.type "ValueError", .type "Exception", .type "BaseException", .type "object"]
structure ClsK (K : PySem.W.Frag) (C : Addr) : Prop where
  cls : (PySem.W.clsIn K C).isSome = true
  nt : PySem.W.instIn K (.ref C) (.type "tuple") = some false
  bexc : PySem.W.mroIn K C (.type "BaseException") = some true
  ty : PySem.W.typeIn K (.ref C) = some (.type "type")
theorem tyKeep {K : PySem.W.Frag} {H H' : Hp} {z : V} {t : String} (h : TyOf K H z (.type t)) (k : ∀ a o, z = .ref a → H a = some o → H' a = some o) : TyOf K H' z (.type t) := by
  cases h with
  | non => exact .non
  | bl x => exact .bl x
  | int i => exact .int i
  | str x => exact .str x
  | flt x => exact .flt x
  | lst e => exact .lst (k _ _ rfl e)
  | frz e => exact .frz (k _ _ rfl e)
  | tup e => exact .tup (k _ _ rfl e)
  | dK e => exact .dK (k _ _ rfl e)
  | dT e => exact .dT (k _ _ rfl e)
def OddV (K : PySem.W.Frag) (H : Hp) (z : V) : Prop := ∃ t, TyOf K H z (.type t) ∧ (t = "bool" ∨ t = "NoneType" ∨ t = "str" ∨ t = "list" ∨ t = "tuple")
def OutOf (K : PySem.W.Frag) (m : Int) (H : Hp) (z : V) : Prop := OddV K H z ∨ ∃ n : Int, z = .int n ∧ (n < 0 ∨ m < n)
theorem OutOf.keep {K : PySem.W.Frag} {m : Int} {H H' : Hp} {z : V} (h : OutOf K m H z) (k : ∀ a o, z = .ref a → H a = some o → H' a = some o) : OutOf K m H' z := by
  rcases h with ⟨t, h, ht⟩ | h
  · exact .inl ⟨t, tyKeep h k, ht⟩
  · exact .inr h
def NoStr (K : PySem.W.Frag) (H : Hp) (z : V) : Prop := ∃ t, TyOf K H z (.type t) ∧ (t = "bool" ∨ t = "NoneType" ∨ t = "int" ∨ t = "list" ∨ t = "tuple" ∨ t = "dict")
theorem small_in (c : Nat) : (!(Builtin.Str.occurrences (Str.ofString "abcdefghijklmnopqrstuvwxyz") (one c) 0 (Str.ofString "abcdefghijklmnopqrstuvwxyz").length 1).isEmpty) = decide (97 ≤ c ∧ c ≤ 122) := by
  refine (PySem.StrLaws.found_one _ c).trans ?_
  have e : (Str.ofString "abcdefghijklmnopqrstuvwxyz").cps.toList = [97, 98, 99, 100, 101, 102, 103, 104, 105, 106, 107, 108, 109, 110, 111, 112, 113, 114, 115, 116, 117, 118, 119, 120, 121, 122] := by decide +kernel
  rw [e]
  by_cases h : 97 ≤ c ∧ c ≤ 122
  · rw [decide_eq_true h]
    refine decide_eq_true ?_
    simp only [List.mem_cons, List.not_mem_nil, or_false]
    omega
  · rw [decide_eq_false h]
    refine decide_eq_false fun z => h ?_
    simp only [List.mem_cons, List.not_mem_nil, or_false] at z
    omega
theorem NoStr.keep {K : PySem.W.Frag} {H H' : Hp} {z : V} (h : NoStr K H z) (k : ∀ a o, z = .ref a → H a = some o → H' a = some o) : NoStr K H' z := by
  obtain ⟨t, h, ht⟩ := h
  exact ⟨t, tyKeep h k, ht⟩
section
variable {P : Program} {w : World} {K : PySem.W.Frag} {mg : Str → Option Value} {base : Heap}
def spWho (K : PySem.W.Frag) : Sp := fun vs H Q _ => ∃ z : V, vs = [z] ∧ ((∃ n : Int, z = .int n ∧ Q (.bl true) H) ∨ (OddV K H z ∧ Q (.bl false) H))
theorem scWho : FnScope ["thing"] ["thing"] (defScope sWho) := ⟨rfl, rfl, rfl, by decide +kernel, rfl, by decide +kernel, by decide +kernel⟩
theorem ok_who {f : Addr} {fd : FuncData} (F : Fun K "is_whole" "is_whole" sWho f fd)
    (hint : mg "int" = none)
    (hisinstance : mg "isinstance" = none)
    (hbool : mg "bool" = none)
    : FnOk P w K mg base CX0 1 f fd ["thing"] (spWho K) := by
  refine F.ok scWho (fun vs H Q E h => ?_) (fun cdv A outer s H vs Q E hr h => ?_)
  · obtain ⟨z, rfl, _⟩ := h
    rfl
  · obtain ⟨z, rfl, k⟩ := h
    refine ⟨_, (pss_one (ps_ret (pe_and (pe_callB (call_isinstK K) (by rfl) hisinstance (show bootBuiltins "isinstance" = some (.builtin "isinstance") by decide +kernel) (pa_cons (pv 0) (pa_cons (pe_bltn (v := .ty "int") (by rfl) hint (show bootBuiltins "int" = some (.type "int") by decide +kernel) rfl) pa_nil))) (pe_one (pe_not (pe_callB (call_isinstK K) (by rfl) hisinstance (show bootBuiltins "isinstance" = some (.builtin "isinstance") by decide +kernel) (pa_cons (pv 0) (pa_cons (pe_bltn (v := .ty "bool") (by rfl) hbool (show bootBuiltins "bool" = some (.type "bool") by decide +kernel) rfl) pa_nil)))))))), ?_⟩
    rcases k with ⟨n, rfl, k⟩ | ⟨⟨t, ty, ht⟩, k⟩
    · refine ⟨_, rfl, _, _, _, true, rfl, TyOf.int n, (by rfl), _, rfl, iteT ?_⟩
      exact ⟨_, rfl, _, _, _, false, rfl, TyOf.int n, (by rfl), _, rfl, k⟩
    · rcases ht with rfl | rfl | rfl | rfl | rfl
      · refine ⟨_, rfl, _, _, _, true, rfl, ty, (by rfl), _, rfl, iteT ?_⟩
        exact ⟨_, rfl, _, _, _, true, rfl, ty, (by rfl), _, rfl, k⟩
      · exact ⟨_, rfl, _, _, _, false, rfl, ty, (by rfl), _, rfl, iteF k⟩
      · exact ⟨_, rfl, _, _, _, false, rfl, ty, (by rfl), _, rfl, iteF k⟩
      · exact ⟨_, rfl, _, _, _, false, rfl, ty, (by rfl), _, rfl, iteF k⟩
      · exact ⟨_, rfl, _, _, _, false, rfl, ty, (by rfl), _, rfl, iteF k⟩
def spWin (K : PySem.W.Frag) : Sp := fun vs H Q _ => ∃ (z : V) (m : Int), vs = [z, .int 0, .int m] ∧ ((∃ n : Int, z = .int n ∧ 0 ≤ n ∧ n ≤ m ∧ Q (.bl true) H) ∨ (OutOf K m H z ∧ Q (.bl false) H))
theorem scWin : FnScope ["thing", "least", "most"] ["thing", "least", "most"] (defScope sWin) := ⟨rfl, rfl, rfl, by decide +kernel, rfl, by decide +kernel, by decide +kernel⟩
theorem ok_win {f fWho : Addr} {fd fdWho : FuncData} (F : Fun K "is_within" "is_within" sWin f fd)
    (GWho : FnOk P w K mg base CX0 1 fWho fdWho ["thing"] (spWho K))
    (gWho : Gf K mg "is_whole" fWho fdWho ["thing"])
    : FnOk P w K mg base CX0 2 f fd ["thing", "least", "most"] (spWin K) := by
  refine F.ok scWin (fun vs H Q E h => ?_) (fun cdv A outer s H vs Q E hr h => ?_)
  · obtain ⟨z, m, rfl, _⟩ := h
    rfl
  · obtain ⟨z, m, rfl, k⟩ := h
    refine ⟨_, (pss_one (ps_ret (pe_and (pe_call GWho hr rfl gWho.m gWho.k gWho.b .nil pass0 (pa_cons (pv 0) pa_nil)) (pe_one (pe_chain op_le op_le (pv 1) (pv 0) (pv 2)))))), ?_⟩
    rcases k with ⟨n, rfl, h0, h1, k⟩ | ⟨hz | ⟨n, rfl, hn⟩, k⟩
    · refine ⟨_, rfl, _, rfl, .inl ⟨n, rfl, _, rfl, iteT ?_⟩⟩
      refine ⟨_, rfl, _, rfl, _, _, rfl, rfl, _, rfl, ?_⟩
      rw [decide_eq_true h0]
      refine iteT ⟨_, rfl, _, _, rfl, rfl, ?_⟩
      show Q (V.bl (decide (n ≤ m))) H
      rw [decide_eq_true h1]
      exact k
    · exact ⟨_, rfl, _, rfl, .inr ⟨hz, _, rfl, iteF k⟩⟩
    · refine ⟨_, rfl, _, rfl, .inl ⟨n, rfl, _, rfl, iteT ?_⟩⟩
      refine ⟨_, rfl, _, rfl, _, _, rfl, rfl, _, rfl, ?_⟩
      cases ha : decide ((0 : Int) ≤ n) with
      | false => exact iteF k
      | true =>
        have : ¬ n ≤ m := by
          have := of_decide_eq_true ha
          omega
        refine iteT ⟨_, rfl, _, _, rfl, rfl, ?_⟩
        show Q (V.bl (decide (n ≤ m))) H
        rw [decide_eq_false this]
        exact k
def spNag : Sp := fun vs H Q _ => ∃ n : Nat, vs = [.int (n : Int)] ∧ n ≤ 300 ∧ Q .non H
theorem scNag : FnScope ["age"] ["age"] (defScope sNag) := ⟨rfl, rfl, rfl, by decide +kernel, rfl, by decide +kernel, by decide +kernel⟩
theorem ok_nag {f fWin : Addr} {fd fdWin : FuncData} (F : Fun K "need_age" "need_age" sNag f fd)
    (GWin : FnOk P w K mg base CX0 2 fWin fdWin ["thing", "least", "most"] (spWin K))
    (gWin : Gf K mg "is_within" fWin fdWin ["thing", "least", "most"])
    {tkLAST_AGE : Tok} (hLAST_AGE : mg "LAST_AGE" = some (.int 300 tkLAST_AGE))
    : FnOk P w K mg base CX0 3 f fd ["age"] spNag := by
  refine F.ok scNag (fun vs H Q E h => ?_) (fun cdv A outer s H vs Q E hr h => ?_)
  · obtain ⟨n, rfl, _⟩ := h
    rfl
  · obtain ⟨n, rfl, hn, k⟩ := h
    refine ⟨_, (pss_one (ps_if (pt_not (pt_val (pe_call GWin hr rfl gWin.m gWin.k gWin.b .nil pass0 (pa_cons (pv 0) (pa_cons pe_int (pa_cons (pe_glob (v := .int 300) (by rfl) hLAST_AGE ⟨_, rfl⟩) pa_nil)))))) pss_never pss_nil)), ?_⟩
    exact ⟨_, rfl, .int (n : Int), 300, rfl, .inl ⟨_, rfl, by omega, by omega, _, rfl, iteF k⟩⟩
def spNpl : Sp := fun vs H Q _ => ∃ (n : Nat) (m : Int), vs = [.int (n : Int), .int m] ∧ (n : Int) ≤ m ∧ Q .non H
theorem scNpl : FnScope ["place", "last"] ["place", "last"] (defScope sNpl) := ⟨rfl, rfl, rfl, by decide +kernel, rfl, by decide +kernel, by decide +kernel⟩
theorem ok_npl {f fWin : Addr} {fd fdWin : FuncData} (F : Fun K "need_place" "need_place" sNpl f fd)
    (GWin : FnOk P w K mg base CX0 2 fWin fdWin ["thing", "least", "most"] (spWin K))
    (gWin : Gf K mg "is_within" fWin fdWin ["thing", "least", "most"])
    : FnOk P w K mg base CX0 3 f fd ["place", "last"] spNpl := by
  refine F.ok scNpl (fun vs H Q E h => ?_) (fun cdv A outer s H vs Q E hr h => ?_)
  · obtain ⟨n, m, rfl, _⟩ := h
    rfl
  · obtain ⟨n, m, rfl, hn, k⟩ := h
    refine ⟨_, (pss_one (ps_if (pt_not (pt_val (pe_call GWin hr rfl gWin.m gWin.k gWin.b .nil pass0 (pa_cons (pv 0) (pa_cons pe_int (pa_cons (pv 1) pa_nil)))))) pss_never pss_nil)), ?_⟩
    exact ⟨_, rfl, _, rfl, .int (n : Int), m, rfl, .inl ⟨_, rfl, by omega, by omega, _, rfl, iteF k⟩⟩
def spIsl (K : PySem.W.Frag) : Sp := fun vs H Q _ => ∃ z : V, vs = [z] ∧ ((∃ c, z = sign c ∧ Q (.bl (decide (97 ≤ c ∧ c ≤ 122))) H) ∨ (NoStr K H z ∧ Q (.bl false) H) ∨ (∃ x : List Nat, z = tx x ∧ x.length ≠ 1 ∧ x.length ≤ 1000 ∧ Q (.bl false) H))
theorem scIsl : FnScope ["thing"] ["thing"] (defScope sIsl) := ⟨rfl, rfl, rfl, by decide +kernel, rfl, by decide +kernel, by decide +kernel⟩
theorem ok_isl {f : Addr} {fd : FuncData} (F : Fun K "is_letter" "is_letter" sIsl f fd)
    (hlen : mg "len" = none)
    (hisinstance : mg "isinstance" = none)
    (hstr : mg "str" = none)
    {tkSMALL_LETTERS : Tok} (hSMALL_LETTERS : mg "SMALL_LETTERS" = some (.str "abcdefghijklmnopqrstuvwxyz" tkSMALL_LETTERS))
    : FnOk P w K mg base CX0 1 f fd ["thing"] (spIsl K) := by
  refine F.ok scIsl (fun vs H Q E h => ?_) (fun cdv A outer s H vs Q E hr h => ?_)
  · obtain ⟨z, rfl, _⟩ := h
    rfl
  · obtain ⟨z, rfl, k⟩ := h
    refine ⟨_, (pss_one (ps_ret (pe_and (pe_callB (call_isinstK K) (by rfl) hisinstance (show bootBuiltins "isinstance" = some (.builtin "isinstance") by decide +kernel) (pa_cons (pv 0) (pa_cons (pe_bltn (v := .ty "str") (by rfl) hstr (show bootBuiltins "str" = some (.type "str") by decide +kernel) rfl) pa_nil))) (pe_and (pe_cmpR op_eq (pe_callB call_len_str (by rfl) hlen PySem.boot_len (pa_cons (pv 0) pa_nil)) pe_int (nomark _)) (pe_one (pe_cmpR op_in_str (pv 0) (pe_glob (v := .str "abcdefghijklmnopqrstuvwxyz") (by rfl) hSMALL_LETTERS ⟨_, rfl⟩) (by rfl))))))), ?_⟩
    rcases k with ⟨c, rfl, k⟩ | ⟨⟨t, ty, ht⟩, k⟩ | ⟨x, rfl, hx, hx2, k⟩
    · refine ⟨_, rfl, _, _, _, true, rfl, TyOf.str _, (by rfl), _, rfl, iteT ?_⟩
      refine ⟨_, rfl, one c, rfl, (by show 1 ≤ sizeLine; decide), rfl, _, rfl, ?_⟩
      refine ite2 (fun _ => ?_) (fun hc => absurd (decide_eq_true rfl) hc)
      refine ⟨_, rfl, one c, _, rfl, rfl, ?_⟩
      rw [small_in]
      exact k
    · rcases ht with rfl | rfl | rfl | rfl | rfl | rfl
      · exact ⟨_, rfl, _, _, _, false, rfl, ty, (by rfl), _, rfl, iteF k⟩
      · exact ⟨_, rfl, _, _, _, false, rfl, ty, (by rfl), _, rfl, iteF k⟩
      · exact ⟨_, rfl, _, _, _, false, rfl, ty, (by rfl), _, rfl, iteF k⟩
      · exact ⟨_, rfl, _, _, _, false, rfl, ty, (by rfl), _, rfl, iteF k⟩
      · exact ⟨_, rfl, _, _, _, false, rfl, ty, (by rfl), _, rfl, iteF k⟩
      · exact ⟨_, rfl, _, _, _, false, rfl, ty, (by rfl), _, rfl, iteF k⟩
    · refine ⟨_, rfl, _, _, _, true, rfl, TyOf.str _, (by rfl), _, rfl, iteT ?_⟩
      refine ⟨_, rfl, ⟨x.toArray⟩, rfl, Nat.le_of_lt (small1000 hx2), rfl, _, rfl, ?_⟩
      refine ite2 (fun hc => ?_) (fun _ => k)
      have h1 : V.int ((x.length : Nat) : Int) = V.int 1 := of_decide_eq_true hc
      have h2 : ((x.length : Nat) : Int) = 1 := by injection h1
      exact absurd (by omega) hx
end
end Lw
namespace Lw
open PySem L2
abbrev DictI (H : Hp) (d : Addr) (rs : List Rule) (ns : List Int) : Prop := H d = some (.dK (dkI (ltr rs) ns))
theorem pairs_mono {H H' : Hp} (s : TupS H H') : ∀ {ps : List Addr} {kvs : List (Key × V)}, PairsAt H ps kvs → PairsAt H' ps kvs
  | _, _, .nil => .nil
  | _, _, .cons h r => .cons (s _ _ h) (pairs_mono s r)
theorem pairs_snoc {H : Hp} {p : Addr} {k : Key} {v : V} (h : H p = some (.tup [kV k, v])) : ∀ {ps : List Addr} {kvs : List (Key × V)}, PairsAt H ps kvs → PairsAt H (ps ++ [p]) (kvs ++ [(k, v)])
  | _, _, .nil => .cons h .nil
  | _, _, .cons h1 r => .cons h1 (pairs_snoc h r)
structure DicsAt (H : Hp) (l : Addr) (ls : List Addr) (rs : List Rule) (f : Nat → List Int) (m : Nat) : Prop where
  top : H l = some (.lst (ls.map V.ref))
  len : ls.length = m
  at_ : ∀ (i : Nat) a, ls[i]? = some a → DictI H a rs (f i)
theorem DicsAt.mono {H H' : Hp} {l : Addr} {ls : List Addr} {rs : List Rule} {f : Nat → List Int} {m : Nat} (t : DicsAt H l ls rs f m) (s : Same H H') : DicsAt H' l ls rs f m := ⟨s _ _ t.top, t.len, fun i a e => s _ _ (t.at_ i a e)⟩
theorem word_sum {first : List Nat} {rs : List Rule} (hG : Good first rs) (ns : List Int) (hl : ns.length = rs.length) (x : List Nat) : (x.map (lk (ltr rs) ns)).sum = dot (c0 rs x) ns := by
  rw [lk_sum x hG.nd (by rw [hl]; unfold ltr; rw [List.length_map]), c0_eq]
theorem stepL_eq (rs : List Rule) (ns : List Int) : stepL (tabI rs) ns = rs.map fun q => dot (c0 rs q.2) ns := by
  unfold stepL tabI
  rw [List.map_map]
  rfl
abbrev kvw (rs : List Rule) : List (Key × V) := rs.map fun q => ((Sum.inr (one q.1) : Key), tx q.2)
theorem kvw_pairs {H : Hp} : ∀ {ps : List Addr} {rs : List Rule}, RulesAt H ps rs → PairsAt H ps (kvw rs)
  | _, _, .nil => .nil
  | _, _, .cons h r => .cons h (kvw_pairs r)
theorem kvw_keys (rs : List Rule) : (kvw rs).map (·.1) = (ltr rs).map fun c => (Sum.inr (one c) : Key) := by
  unfold kvw ltr
  rw [List.map_map, List.map_map]
  rfl
theorem kvw_val : ∀ {rs : List Rule} {q : Rule}, (ltr rs).Nodup → q ∈ rs → valV (kvw rs) (Sum.inr (one q.1) : Key) = some (tx q.2)
  | [], _, _, h => by simp at h
  | p :: rs, q, nd, h => by
    have nd' := List.nodup_cons.mp (show (p.1 :: ltr rs).Nodup from nd)
    unfold valV
    show Option.map _ (List.find? _ (((Sum.inr (one p.1) : Key), tx p.2) :: kvw rs)) = _
    rcases List.mem_cons.mp h with z | z
    · subst z
      rw [List.find?_cons_of_pos]
      · rfl
      · exact decide_eq_true rfl
    · rw [List.find?_cons_of_neg]
      · exact kvw_val nd'.2 z
      · intro y
        have y' : (Sum.inr (one p.1) : Key) = Sum.inr (one q.1) := of_decide_eq_true y
        exact nd'.1 (by rw [one_inj (Sum.inr.inj y')]; exact List.mem_map_of_mem z)
theorem thaw {H H' : Hp} {d : Addr} {o u : HO} (s : Same (upd H d o) H') (e : H d = some u) : Same H (upd H' d u) := fun b v q => by
  by_cases z : b = d
  · subst z
    rw [e] at q
    cases q
    exact upd_same
  · rw [upd_ne z]
    exact s b v (by rw [upd_ne z]; exact q)
theorem thaw_tup {H : Hp} {d : Addr} {ob : Obj} {u u' : HO} (e : H d = some (.frz ob u)) : TupS H (upd H d u') := fun c xs q => by
  have n : c ≠ d := fun z => by rw [z, e] at q; cases q
  rw [upd_ne n]
  exact q
theorem cut_rep (n : Nat) (x : V) : cutV (List.replicate (n + 1) x) none (some (-1)) = List.replicate n x := by
  unfold cutV
  have e1 : HT.sIx (List.replicate (n + 1) x).length 0 none = 0 := rfl
  have e2 : HT.sIx (List.replicate (n + 1) x).length (List.replicate (n + 1) x).length (some (-1)) = n := by
    rw [List.length_replicate]
    unfold HT.sIx
    simp only
    rw [if_pos (by decide)]
    omega
  rw [e1, e2, List.drop_zero, List.take_replicate]
  congr 1
  omega
section
variable {P : Program} {w : World} {K : PySem.W.Frag} {mg : Str → Option Value} {base : Heap}
def spTsm : Sp := fun vs H Q _ => ∃ (d : Addr) (rs : List Rule) (ns : List Int) (x : List Nat), vs = [tx x, .ref d] ∧ DictI H d rs ns ∧ ns.length = rs.length ∧ x.length ≤ 1000 ∧ (∀ c ∈ x, c ∈ ltr rs) ∧ ∀ H', Same H H' → Q (.int (x.map (lk (ltr rs) ns)).sum) H'
theorem scTsm : FnScope ["text", "worths"] ["text", "worths"] (defScope sTsm) := ⟨rfl, rfl, rfl, by decide +kernel, rfl, by decide +kernel, by decide +kernel⟩
theorem nd_tsm1 : (["letter", "worths"] : List Str).Nodup := by decide +kernel
theorem ok_tsm {f : Addr} {fd : FuncData} (F : Fun K "text_sum" "text_sum" sTsm f fd)
    (hsum : mg "sum" = none)
    : FnOk P w K mg base CX0 1 f fd ["text", "worths"] spTsm := by
  refine F.ok scTsm (fun vs H Q E h => ?_) (fun cdv A outer s H vs Q E hr h => ?_)
  · obtain ⟨d, rs, ns, x, rfl, _⟩ := h
    rfl
  · obtain ⟨d, rs, ns, x, rfl, hD, hl, hx, hin, k⟩ := h
    have hu := hu_of hr
    refine ⟨_, (pss_one (ps_ret (pe_callB (call_sumK2 K rfl) (by rfl) hsum (by first | exact PySem.boot_sum | decide +kernel) (pa_cons (pe_comp (N' := ["letter", "worths"]) (ix := [none, some 1]) rfl rfl (pi_str (pv 0)) (fun _ _ _ _ _ _ => (pg_name (i := 0) nd_tsm1 rfl (Or.inl rfl))) (fun _ _ _ _ _ _ => pts_nil) (fun _ _ _ _ _ _ => (pe_dget hu (pv 1) (pv 0) (fun _ _ => rfl)))) pa_nil)))), ?_⟩
    have ll : ns.length = (ltr rs).length := by rw [hl]; unfold ltr; rw [List.length_map]
    refine ⟨_, rfl, ⟨x.toArray⟩, rfl, ?_⟩
    refine comp_all (Q := fun y Ha => rSum K [y] Ha Q) (τ0 := [none, some (.ref d)]) sure_str (by rw [List.length_map]; show x.length ≤ _; omega)
      (fun i ys τ H2 => H2 = H ∧ (∃ v, τ = [v, some (.ref d)]) ∧ ys = ((x.take i).map (lk (ltr rs) ns)).map V.int) ⟨rfl, ⟨_, rfl⟩, rfl⟩ ?_ ?_ ?_
    · rintro i ys τ H2 hi ⟨rfl, _, rfl⟩
      refine ⟨trivial, ?_⟩
      rw [List.length_map, List.length_map, List.length_take]
      omega
    · rintro i y ys τ H2 hy ⟨rfl, ⟨v, rfl⟩, rfl⟩
      have hy' : (x.map sign)[i]? = some y := hy
      rw [List.getElem?_map] at hy'
      cases e : x[i]? with
      | none => rw [e] at hy'; cases hy'
      | some c =>
        rw [e] at hy'
        cases hy'
        have hg := DGet.k (k := (Sum.inr (one c) : Key)) hD
        rw [dkI_val ll (hin c (List.mem_of_getElem? e))] at hg
        refine ⟨_, rfl, _, rfl, d, _, rfl, hg, rfl, ⟨_, rfl⟩, ?_⟩
        rw [take_snoc (lk (ltr rs) ns) e, List.map_append]
        rfl
    · rintro ys τ H2 D ⟨rfl, _, rfl⟩ hD2
      have ew : ((⟨x.toArray⟩ : Str).cps.toList.map sign).length = x.length := by simp
      rw [ew, take_all]
      exact ⟨D, _, rfl, SqL.of upd_same, k _ (Same.add hD2)⟩
def spWba : Sp := fun vs H Q _ => ∃ (t : Addr) (first : List Nat) (rs : List Rule) (n : Nat), vs = [.ref t, .int (n : Int)] ∧ BookAt H t first rs ∧ Good first rs ∧ n ≤ 600 ∧
  ∀ l dw H', Same H H' → H l = none → H dw = none → H' l = some (.lst (List.replicate (n + 1) (V.ref dw))) → H' dw = some (.dK (kvw rs)) → Q (.ref l) H'
theorem scWba : FnScope ["book", "age"] ["book", "age"] (defScope sWba) := ⟨rfl, rfl, rfl, by decide +kernel, rfl, by decide +kernel, by decide +kernel⟩
theorem ok_wba {f : Addr} {fd : FuncData} (F : Fun K "words_by_age" "words_by_age" sWba f fd)
    (hdict : mg "dict" = none)
    : FnOk P w K mg base CX0 1 f fd ["book", "age"] spWba := by
  refine F.ok scWba (fun vs H Q E h => ?_) (fun cdv A outer s H vs Q E hr h => ?_)
  · obtain ⟨t, first, rs, n, rfl, _⟩ := h
    rfl
  · obtain ⟨t, first, rs, n, rfl, hB, hG, hn, k⟩ := h
    refine ⟨_, (pss_one (ps_ret (pe_op op_rep (pe_lst (pa_cons (pe_callTy (call_dict_tup rfl) (by rfl) hdict (by first | exact PySem.boot_dict | decide +kernel) (pa_cons (pe_ix (ix_tupK K) (pv 0) pe_int (fun _ _ => rfl)) pa_nil)) pa_nil)) (pe_op op_add (pv 1) pe_int)))), ?_⟩
    have hfew := hG.few
    obtain ⟨r, ps, b1, b2, b3⟩ := hB.ex
    refine ⟨_, rfl, t, _, _, _, rfl, rfl, SqT.of b1, atI_nat (j := 1) rfl, r, ps, kvw rs, rfl, b2, kvw_pairs b3, by rw [kvw_keys]; exact keys_nd hG.nd, by rw [List.length_map]; omega, fun dw ndw => ?_⟩
    refine ⟨(by show 1 ≤ sizeLine; decide), fun l0 nl0 => ?_⟩
    refine ⟨_, rfl, _, _, rfl, rfl, ?_⟩
    have eN : ((n : Int) + 1).toNat = n + 1 := by omega
    refine ⟨l0, _, _, rfl, rfl, upd_same, by omega, by omega, ?_, fun l nl => ?_⟩
    · rw [eN]
      show 1 * (n + 1) ≤ sizeLine
      exact Nat.le_of_lt (small1000 (by omega))
    · have s1 : Same H (upd (upd H dw (.dK (kvw rs))) l0 (.lst [V.ref dw])) := (Same.add ndw).trans (Same.add nl0)
      have nld : l ≠ dw := fun z => by
        rw [z, upd_ne (ne_of_none (upd_same (H := H) (a := dw) (o := .dK (kvw rs))) nl0), upd_same] at nl
        cases nl
      refine k l dw _ (s1.trans (Same.add nl)) (s1.free nl) ndw ?_ ?_
      · rw [upd_same, eN]
        simp
      · exact upd_in (upd_in upd_same (ne_of_none (upd_same (H := H) (a := dw) (o := .dK (kvw rs))) nl0)) nld.symm
def spLsm : Sp := fun vs H Q _ => ∃ (l dw d : Addr) (first : List Nat) (rs : List Rule) (n : Nat) (ns : List Int), vs = [.ref l, .ref d] ∧ Good first rs ∧ n ≤ 600 ∧ H l = some (.lst (List.replicate (n + 1) (V.ref dw))) ∧ H dw = some (.dK (kvw rs)) ∧ DictI H d rs ns ∧ d ≠ dw ∧ ns.length = rs.length ∧
  ∀ lo ls H', Same H H' → H lo = none → (∀ x ∈ ls, x = d ∨ H x = none) → DicsAt H' lo ls rs (sumN (tabI rs) ns) (n + 1) → Q (.ref lo) H'
theorem scLsm : FnScope ["words", "worths", "told", "spelling"] ["words", "worths"] (defScope sLsm) := ⟨rfl, rfl, rfl, by decide +kernel, rfl, by decide +kernel, by decide +kernel⟩
theorem nd_lsm1 : (["letter", "spelling", "told"] : List Str).Nodup := by decide +kernel
theorem ok_lsm {f fTsm : Addr} {fd fdTsm : FuncData} (F : Fun K "letter_sums" "letter_sums" sLsm f fd)
    (GTsm : FnOk P w K mg base CX0 1 fTsm fdTsm ["text", "worths"] spTsm)
    (gTsm : Gf K mg "text_sum" fTsm fdTsm ["text", "worths"])
    (hdict : mg "dict" = none)
    (hreversed : mg "reversed" = none)
    : FnOk P w K mg base CX0 2 f fd ["words", "worths"] spLsm := by
  refine F.ok scLsm (fun vs H Q E h => ?_) (fun cdv A outer s H vs Q E hr h => ?_)
  · obtain ⟨l0, dw, d, first, rs, n, ns, rfl, _⟩ := h
    rfl
  · obtain ⟨l0, dw, d, first, rs, n, ns, rfl, hG, hn, h0, hw, hD, hdw, hl, k⟩ := h
    have hu := hu_of hr
    refine ⟨_, (pss_cons (ps_set (i := 2) scLsm.nd rfl (Or.inr rfl) (pe_lst (pa_cons (pv 1) pa_nil)))
      (pss_cons (ps_for PassesOwn.never rfl (pi_revK K rfl hreversed (pa_cons (pe_slice (sl_listK K) (pv 0) po_none (po_some (pe_un un_neg pe_int))) pa_nil)) (pg_name (i := 3) scLsm.nd rfl (Or.inr rfl)) (pss_one (ps_expr (pe_bmK K PySem.F.plainAttrs_list PySem.F.slot_list_append PySem.F.type_list_append mt_append (pv 2) (pa_cons (pe_callTy (call_dict_pairsK K rfl hu) (by rfl) hdict (by first | exact PySem.boot_dict | decide +kernel) (pa_cons (pe_frz (pe_comp (N' := ["letter", "spelling", "told"]) (ix := [none, some 3, some 2]) rfl rfl (pi_dict (pv 3)) (fun _ _ _ _ _ _ => (pg_name (i := 0) nd_lsm1 rfl (Or.inl rfl))) (fun _ _ _ _ _ _ => pts_nil) (fun _ _ _ _ _ _ => (pe_tup (pa_cons (pv 0) (pa_cons (pe_call GTsm hr rfl gTsm.m gTsm.k gTsm.b .nil pass0 (pa_cons (pe_dget hu (pv 1) (pv 0) (fun _ _ => rfl)) (pa_cons (pe_ix (ix_listK K) (pv 2) (pe_un un_neg pe_int) (fun _ _ => rfl)) pa_nil))) pa_nil)))))) pa_nil)) pa_nil)))))
      (pss_one (ps_ret (pv 2))))), ?_⟩
    have hfew := hG.few
    have lsn : ∀ j, (sumN (tabI rs) ns j).length = rs.length := sumN_len (tabI_len rs) hl
    refine ⟨_, rfl, (by show 1 ≤ sizeLine; decide), fun l nl => ?_⟩
    have nll : l0 ≠ l := ne_of_none h0 nl
    have ndl : d ≠ l := ne_of_none hD nl
    have nwl : dw ≠ l := ne_of_none hw nl
    refine ⟨_, rfl, _, rfl, _, rfl, l0, _, rfl, SqL.of (upd_in h0 nll), fun p np => ?_⟩
    have npl : l ≠ p := ne_of_none (upd_same (H := H) (a := l) (o := .lst [V.ref d])) np
    refine ⟨p, List.replicate n (V.ref dw), rfl, SqL.of (by rw [upd_same]; exact congrArg (fun z => some (HO.lst z)) (cut_rep n (V.ref dw))), ?_⟩
    refine for_by (sure_rev (xs := List.replicate n (V.ref dw))) (fun i σ H5 => ∃ (ls : List Addr) (v3 : Option V), σ = [some (.ref l0), some (.ref d), some (.ref l), v3] ∧ Same H H5 ∧ H5 p = some (.lst (List.replicate n (V.ref dw))) ∧ l ∉ ls ∧ (∀ x ∈ ls, x = d ∨ H x = none) ∧ DicsAt H5 l ls rs (sumN (tabI rs) ns) (i + 1)) ?_ ?_ ?_ ?_
    · refine ⟨[d], none, rfl, (Same.add nl).trans (Same.add np), by rw [upd_same]; exact congrArg (fun z => some (HO.lst z)) (cut_rep n (V.ref dw)), (fun z => ndl (List.mem_singleton.mp z).symm), fun x hx => .inl (List.mem_singleton.mp hx), ⟨upd_in upd_same npl, rfl, fun i a e1 => ?_⟩⟩
      cases i with
      | succ i => simp at e1
      | zero =>
        cases e1
        exact (Same.add np) _ _ (upd_in hD ndl)
    · rintro i σ H5 hi ⟨ls, v3, rfl, s5, hp5, _⟩
      exact SqL.of hp5
    · rintro j x σ H5 hx ⟨ls, v3, rfl, s5, hp5, hlo, hfr, hTl⟩
      have hx' : x = V.ref dw ∧ j < n := by
        rw [List.reverse_replicate, List.getElem?_replicate] at hx
        split at hx
        · rename_i hj
          exact ⟨(Option.some.inj hx).symm, hj⟩
        · cases hx
      obtain ⟨rfl, hjn⟩ := hx'
      have ln : (ls.map V.ref).length = j + 1 := by rw [List.length_map, hTl.len]
      obtain ⟨a, ha⟩ : ∃ a, ls[j]? = some a := ⟨ls[j]'(by rw [hTl.len]; omega), List.getElem?_eq_getElem _⟩
      have hv := hTl.at_ j a ha
      have naw : a ≠ dw := by
        rcases hfr a (List.mem_of_getElem? ha) with z | z
        · rw [z]; exact hdw
        · exact (ne_of_none hw z).symm
      have hw5 := s5 _ _ hw
      refine ⟨_, rfl, .inl ⟨rfl, _, SqL.of hTl.top⟩, dw, kvw rs, hw5, fun ob => ?_⟩
      refine ⟨_, rfl, dw, ob, kvw rs, rfl, upd_same, ?_⟩
      have ek : ((kvw rs).map fun p => kV p.1).length = rs.length := by rw [List.length_map, List.length_map]
      refine comp_allR (τ0 := [none, some (V.ref dw), some (V.ref l)]) (sure_dict (d := dw) (ob := ob) (kvs := kvw rs)) (by rw [ek]; omega)
        (fun i ys τ H6 => Same (upd H5 dw (.frz ob (.dK (kvw rs)))) H6 ∧ (∃ v, τ = [v, some (.ref dw), some (.ref l)]) ∧ ∃ ps' : List Addr, ys = ps'.map V.ref ∧ ps'.length = i ∧ PairsAt H6 ps' (dkI ((ltr rs).take i) ((rs.map fun q => dot (c0 rs q.2) (sumN (tabI rs) ns j)).take i)))
        ⟨Same.refl _, ⟨_, rfl⟩, [], rfl, rfl, .nil⟩ ?_ ?_ ?_
      · rintro i ys τ H6 hi ⟨s6, _, ps', rfl, lp, _⟩
        exact ⟨s6 _ _ upd_same, by rw [List.length_map]; omega⟩
      · rintro i x ys τ H6 hx ⟨s6, ⟨v, rfl⟩, ps', rfl, lp, hP⟩
        rw [List.map_map, List.getElem?_map] at hx
        cases e1 : rs[i]? with
        | none => rw [e1] at hx; cases hx
        | some q =>
          obtain ⟨c, w'⟩ := q
          rw [e1] at hx
          cases hx
          have hm := List.mem_of_getElem? e1
          have hg : DGet H6 dw (sign c) (some (tx w')) := .inl ⟨kvw rs, Sum.inr (one c), .inr ⟨ob, s6 _ _ upd_same⟩, rfl, (kvw_val hG.nd hm).symm⟩
          have hT6 := s6 _ _ (upd_in (o := .frz ob (.dK (kvw rs))) hTl.top nwl.symm)
          refine ⟨_, rfl, _, rfl, _, rfl, dw, _, rfl, hg, _, rfl, _, rfl, l, _, _, _, rfl, rfl, SqL.of hT6, atI_last ln (by rw [List.getElem?_map, ha]; rfl), ?_⟩
          refine ⟨a, rs, _, w', rfl, s6 _ _ (upd_in hv naw), lsn j, by have := hG.wl _ hm; simp only at this; omega, fun c' hc' => hG.win _ hm c' hc', fun H7 s7 => ⟨(by show 2 ≤ sizeLine; decide), fun T hT => ?_⟩⟩
          have s8 : Same H6 (upd H7 T (.tup [sign c, V.int (w'.map (lk (ltr rs) (sumN (tabI rs) ns j))).sum])) := s7.trans (Same.add hT)
          refine ⟨s6.trans s8, ⟨_, rfl⟩, ps' ++ [T], by rw [List.map_append]; rfl, by rw [List.length_append, lp]; rfl, ?_⟩
          have h1 : (ltr rs)[i]? = some c := by unfold ltr; rw [List.getElem?_map, e1]; rfl
          have h2 : (rs.map fun q => dot (c0 rs q.2) (sumN (tabI rs) ns j))[i]? = some (dot (c0 rs w') (sumN (tabI rs) ns j)) := by rw [List.getElem?_map, e1]; rfl
          have lt : ((rs.map fun q => dot (c0 rs q.2) (sumN (tabI rs) ns j)).take i).length = ((ltr rs).take i).length := by unfold ltr; rw [List.length_take, List.length_take, List.length_map, List.length_map]
          rw [List.take_add_one, List.take_add_one, h1, h2]
          show PairsAt _ _ (dkI (_ ++ [c]) (_ ++ [dot (c0 rs w') (sumN (tabI rs) ns j)]))
          rw [← dkI_snoc lt]
          refine pairs_snoc ?_ (pairs_mono (TupS.same s8) hP)
          rw [upd_same, word_sum hG _ (lsn j)]
          rfl
      · rintro ys τ H6 D0 ⟨s6, _, ps', rfl, lp, hP⟩ hD0
        rw [ek] at hP
        have t1 : (ltr rs).take rs.length = ltr rs := by
          have := take_all (ltr rs)
          unfold ltr at this ⊢
          rwa [List.length_map] at this
        have t2 : (rs.map fun q => dot (c0 rs q.2) (sumN (tabI rs) ns j)).take rs.length = sumN (tabI rs) ns (j + 1) := by
          have := take_all (rs.map fun q => dot (c0 rs q.2) (sumN (tabI rs) ns j))
          rw [List.length_map] at this
          rw [this]
          exact (stepL_eq rs _).symm
        rw [t1, t2] at hP
        have ll : (sumN (tabI rs) ns (j + 1)).length = (ltr rs).length := by rw [lsn]; unfold ltr; rw [List.length_map]
        have lr : (ltr rs).length = rs.length := by unfold ltr; rw [List.length_map]
        have f6 := s6 _ _ (upd_same (H := H5) (a := dw) (o := .frz ob (.dK (kvw rs))))
        have nDw : D0 ≠ dw := (ne_of_none f6 hD0).symm
        have f7 : (upd H6 D0 (.lst (ps'.map V.ref))) dw = some (.frz ob (.dK (kvw rs))) := upd_in f6 nDw.symm
        have sC : Same H5 (upd (upd H6 D0 (.lst (ps'.map V.ref))) dw (.dK (kvw rs))) := thaw (s6.trans (Same.add hD0)) hw5
        refine ⟨f7, D0, ps', _, rfl, SqL.of (upd_in upd_same nDw), pairs_mono ((TupS.same (Same.add hD0)).trans (thaw_tup f7)) hP, by rw [dkI_keys ll]; exact keys_nd hG.nd, by rw [dkI_len ll, lr]; omega, fun dn hdn => ?_⟩
        have nel : dn ≠ l := (ne_of_none (sC _ _ hTl.top) hdn).symm
        have sD : Same H5 (upd (upd (upd H6 D0 (.lst (ps'.map V.ref))) dw (.dK (kvw rs))) dn (.dK (dkI (ltr rs) (sumN (tabI rs) ns (j + 1))))) := sC.trans (Same.add hdn)
        refine ⟨l, _, _, rfl, rfl, sD _ _ hTl.top, small1000 (by rw [ln]; omega), ls ++ [dn], _, rfl, fun c o hc => ?_, ?_, ?_, ?_, ?_⟩
        · exact upd_in (sD _ _ (s5 _ _ hc)) (ne_of_none hc nl)
        · exact upd_in (sD _ _ hp5) npl.symm
        · intro z
          rcases List.mem_append.mp z with z | z
          · exact hlo z
          · exact nel (List.mem_singleton.mp z).symm
        · intro x hx
          rcases List.mem_append.mp hx with z | z
          · exact hfr x z
          · rw [List.mem_singleton.mp z]
            exact .inr (s5.free (sC.free hdn))
        · refine ⟨by rw [upd_same, List.map_append]; rfl, by rw [List.length_append, hTl.len]; rfl, fun i a' e1 => ?_⟩
          by_cases hi : i < ls.length
          · rw [List.getElem?_append_left hi] at e1
            exact upd_in (sD _ _ (hTl.at_ i a' e1)) fun z => hlo (by rw [← z]; exact List.mem_of_getElem? e1)
          · rw [List.getElem?_append_right (by omega)] at e1
            cases z : i - ls.length with
            | zero =>
              rw [z] at e1
              cases e1
              have ei : i = j + 1 := by have := hTl.len; omega
              subst ei
              exact upd_in upd_same nel
            | succ n' => rw [z] at e1; cases e1
    · rintro σ H5 ⟨ls, v3, rfl, s5, hp5, hlo, hfr, hTl⟩
      rw [List.length_reverse, List.length_replicate] at hTl
      exact ⟨_, rfl, k l ls H5 s5 nl hfr hTl⟩
def spSsm : Sp := fun vs H Q _ => ∃ (l dw : Addr) (first : List Nat) (rs : List Rule) (n : Nat), vs = [.ref l] ∧ Good first rs ∧ n ≤ 600 ∧ H l = some (.lst (List.replicate (n + 1) (V.ref dw))) ∧ H dw = some (.dK (kvw rs)) ∧
  ∀ lo ls H', Same H H' → H lo = none → (∀ x ∈ ls, H x = none) → DicsAt H' lo ls rs (lenN rs.length (tabI rs)) (n + 1) → Q (.ref lo) H'
theorem scSsm : FnScope ["words"] ["words"] (defScope sSsm) := ⟨rfl, rfl, rfl, by decide +kernel, rfl, by decide +kernel, by decide +kernel⟩
theorem nd_ssm1 : (["letter"] : List Str).Nodup := by decide +kernel
theorem ok_ssm {f fLsm : Addr} {fd fdLsm : FuncData} (F : Fun K "size_sums" "size_sums" sSsm f fd)
    (GLsm : FnOk P w K mg base CX0 2 fLsm fdLsm ["words", "worths"] spLsm)
    (gLsm : Gf K mg "letter_sums" fLsm fdLsm ["words", "worths"])
    (hdict : mg "dict" = none)
    : FnOk P w K mg base CX0 3 f fd ["words"] spSsm := by
  refine F.ok scSsm (fun vs H Q E h => ?_) (fun cdv A outer s H vs Q E hr h => ?_)
  · obtain ⟨l0, dw, first, rs, n, rfl, _⟩ := h
    rfl
  · obtain ⟨l0, dw, first, rs, n, rfl, hG, hn, h0, hw, k⟩ := h
    have hu := hu_of hr
    refine ⟨_, (pss_one (ps_ret (pe_call GLsm hr rfl gLsm.m gLsm.k gLsm.b .nil pass0 (pa_cons (pv 0) (pa_cons (pe_callTy (call_dict_pairsK K rfl hu) (by rfl) hdict (by first | exact PySem.boot_dict | decide +kernel) (pa_cons (pe_frz (pe_comp (N' := ["letter"]) (ix := [none]) rfl rfl (pi_dict (pe_ix (ix_listK K) (pv 0) (pe_un un_neg pe_int) (fun _ _ => rfl))) (fun _ _ _ _ _ _ => (pg_name (i := 0) nd_ssm1 rfl (Or.inl rfl))) (fun _ _ _ _ _ _ => pts_nil) (fun _ _ _ _ _ _ => (pe_tup (pa_cons (pv 0) (pa_cons pe_int pa_nil)))))) pa_nil)) pa_nil))))), ?_⟩
    have hfew := hG.few
    have lr : (ltr rs).length = rs.length := by unfold ltr; rw [List.length_map]
    have nlw : l0 ≠ dw := fun z => by rw [z, hw] at h0; cases h0
    refine ⟨_, rfl, dw, kvw rs, hw, fun ob => ?_⟩
    refine ⟨_, rfl, _, rfl, l0, _, _, _, rfl, rfl, SqL.of (upd_in h0 nlw), atI_last (j := n) (by rw [List.length_replicate]) (by rw [List.getElem?_replicate, if_pos (Nat.lt_succ_self n)]), dw, ob, kvw rs, rfl, upd_same, ?_⟩
    have ek : ((kvw rs).map fun p => kV p.1).length = rs.length := by rw [List.length_map, List.length_map]
    refine comp_allR (τ0 := [none]) (sure_dict (d := dw) (ob := ob) (kvs := kvw rs)) (by rw [ek]; omega)
      (fun i ys τ H6 => Same (upd H dw (.frz ob (.dK (kvw rs)))) H6 ∧ (∃ v, τ = [v]) ∧ ∃ ps' : List Addr, ys = ps'.map V.ref ∧ ps'.length = i ∧ PairsAt H6 ps' (dkI ((ltr rs).take i) (List.replicate i 1)))
      ⟨Same.refl _, ⟨_, rfl⟩, [], rfl, rfl, .nil⟩ ?_ ?_ ?_
    · rintro i ys τ H6 hi ⟨s6, _, ps', rfl, lp, _⟩
      exact ⟨s6 _ _ upd_same, by rw [List.length_map]; omega⟩
    · rintro i x ys τ H6 hx ⟨s6, ⟨v, rfl⟩, ps', rfl, lp, hP⟩
      rw [List.map_map, List.getElem?_map] at hx
      cases e1 : rs[i]? with
      | none => rw [e1] at hx; cases hx
      | some q =>
        obtain ⟨c, w'⟩ := q
        rw [e1] at hx
        cases hx
        refine ⟨_, rfl, (by show 2 ≤ sizeLine; decide), fun T hT => ?_⟩
        refine ⟨s6.trans (Same.add hT), ⟨_, rfl⟩, ps' ++ [T], by rw [List.map_append]; rfl, by rw [List.length_append, lp]; rfl, ?_⟩
        have hi := (List.getElem?_eq_some_iff.mp e1).1
        have h1 : (ltr rs)[i]? = some c := by unfold ltr; rw [List.getElem?_map, e1]; rfl
        rw [List.take_add_one, h1, List.replicate_succ']
        show PairsAt _ _ (dkI (_ ++ [c]) _)
        rw [← dkI_snoc (by rw [List.length_replicate, List.length_take]; omega)]
        refine pairs_snoc ?_ (pairs_mono (TupS.same (Same.add hT)) hP)
        rw [upd_same]
        rfl
    · rintro ys τ H6 D0 ⟨s6, _, ps', rfl, lp, hP⟩ hD0
      rw [ek] at hP
      rw [List.take_of_length_le (by omega)] at hP
      have ll : (List.replicate rs.length (1 : Int)).length = (ltr rs).length := by rw [List.length_replicate, lr]
      have f6 := s6 _ _ (upd_same (H := H) (a := dw) (o := .frz ob (.dK (kvw rs))))
      have nDw : D0 ≠ dw := (ne_of_none f6 hD0).symm
      have f7 : (upd H6 D0 (.lst (ps'.map V.ref))) dw = some (.frz ob (.dK (kvw rs))) := upd_in f6 nDw.symm
      have sC : Same H (upd (upd H6 D0 (.lst (ps'.map V.ref))) dw (.dK (kvw rs))) := thaw (s6.trans (Same.add hD0)) hw
      refine ⟨f7, D0, ps', _, rfl, SqL.of (upd_in upd_same nDw), pairs_mono ((TupS.same (Same.add hD0)).trans (thaw_tup f7)) hP, by rw [dkI_keys ll]; exact keys_nd hG.nd, by rw [dkI_len ll, lr]; omega, fun dn hdn => ?_⟩
      have sD : Same H (upd (upd (upd H6 D0 (.lst (ps'.map V.ref))) dw (.dK (kvw rs))) dn (.dK (dkI (ltr rs) (List.replicate rs.length 1)))) := sC.trans (Same.add hdn)
      refine ⟨l0, dw, dn, first, rs, n, _, rfl, hG, hn, sD _ _ h0, sD _ _ hw, upd_same, (ne_of_none (sC _ _ hw) hdn).symm, by rw [List.length_replicate], fun lo ls H8 s8 n8 hfr h8 => ?_⟩
      refine k lo ls H8 (sD.trans s8) (sD.free n8) (fun x hx => ?_) ⟨h8.top, h8.len, fun i a e => ?_⟩
      · rcases hfr x hx with z | z
        · rw [z]; exact sC.free hdn
        · exact sD.free z
      · rw [lenN_eq]
        exact h8.at_ i a e
def spLns : Sp := fun vs H Q _ => ∃ (t : Addr) (first : List Nat) (rs : List Rule) (n : Nat), vs = [.ref t, .int (n : Int)] ∧ BookAt H t first rs ∧ Good first rs ∧ n ≤ 600 ∧
  ∀ l ls H', Same H H' → H l = none → (∀ x ∈ ls, H x = none) → DicsAt H' l ls rs (lenN rs.length (tabI rs)) (n + 1) → Q (.ref l) H'
theorem scLns : FnScope ["book", "age"] ["book", "age"] (defScope sLns) := ⟨rfl, rfl, rfl, by decide +kernel, rfl, by decide +kernel, by decide +kernel⟩
theorem ok_lns {f fSsm fWba : Addr} {fd fdSsm fdWba : FuncData} (F : Fun K "length_sums" "length_sums" sLns f fd)
    (GSsm : FnOk P w K mg base CX0 3 fSsm fdSsm ["words"] spSsm)
    (gSsm : Gf K mg "size_sums" fSsm fdSsm ["words"])
    (GWba : FnOk P w K mg base CX0 1 fWba fdWba ["book", "age"] spWba)
    (gWba : Gf K mg "words_by_age" fWba fdWba ["book", "age"])
    : FnOk P w K mg base CX0 4 f fd ["book", "age"] spLns := by
  refine F.ok scLns (fun vs H Q E h => ?_) (fun cdv A outer s H vs Q E hr h => ?_)
  · obtain ⟨t, first, rs, n, rfl, _⟩ := h
    rfl
  · obtain ⟨t, first, rs, n, rfl, hB, hG, hn, k⟩ := h
    have hr1 : Room 1 _ := hr.mono (by decide)
    refine ⟨_, (pss_one (ps_ret (pe_call GSsm hr rfl gSsm.m gSsm.k gSsm.b .nil pass0 (pa_cons (pe_call GWba hr1 rfl gWba.m gWba.k gWba.b .nil pass0 (pa_cons (pv 0) (pa_cons (pv 1) pa_nil))) pa_nil)))), ?_⟩
    refine ⟨_, rfl, _, rfl, t, first, rs, n, rfl, hB, hG, hn, fun l dw H1 s1 n1 nw e1 ew => ?_⟩
    refine ⟨l, dw, first, rs, n, rfl, hG, hn, e1, ew, fun lo ls H2 s2 n2 hfr h2 => ?_⟩
    exact k lo ls H2 (s1.trans s2) (s1.free n2) (fun x hx => s1.free (hfr x hx)) h2
end
end Lw
namespace Lw
open PySem L2 PyProof.Rows
structure StepsAt (H : Hp) (as : List Addr) (W : List (Nat × Nat)) : Prop where
  len : as.length = W.length
  at_ : ∀ (i : Nat) a p, as[i]? = some a → W[i]? = some p → H a = some (.tup [sign p.1, .int ((p.2 : Nat) : Int)])
theorem StepsAt.mono {H H' : Hp} {as : List Addr} {W : List (Nat × Nat)} (h : StepsAt H as W) (s : TupS H H') : StepsAt H' as W := ⟨h.len, fun i a p e1 e2 => s _ _ (h.at_ i a p e1 e2)⟩
theorem StepsAt.snoc {H : Hp} {as : List Addr} {W : List (Nat × Nat)} {a : Addr} {p : Nat × Nat} (h : StepsAt H as W) (e : H a = some (.tup [sign p.1, .int ((p.2 : Nat) : Int)])) : StepsAt H (as ++ [a]) (W ++ [p]) := by
  refine ⟨by rw [List.length_append, List.length_append, h.len]; rfl, fun i b q e1 e2 => ?_⟩
  by_cases hi : i < as.length
  · rw [List.getElem?_append_left hi] at e1
    rw [List.getElem?_append_left (by rw [← h.len]; exact hi)] at e2
    exact h.at_ i b q e1 e2
  · have hi2 : i = as.length := by
      have := (List.getElem?_eq_some_iff.mp e1).1
      rw [List.length_append, List.length_singleton] at this
      omega
    rw [List.getElem?_append_right (by omega), hi2, Nat.sub_self] at e1
    rw [List.getElem?_append_right (by rw [← h.len]; omega), hi2, ← h.len, Nat.sub_self] at e2
    cases e1
    cases e2
    exact e
theorem kvw_wd {rs : List Rule} {c : Nat} (nd : (ltr rs).Nodup) (h : c ∈ ltr rs) : valV (kvw rs) (Sum.inr (one c) : Key) = some (tx (wd rs c)) := by
  obtain ⟨q, h1, h2, h3⟩ := wd_mem h
  rw [h3, ← h2]
  exact kvw_val nd h1
theorem wd_in {first : List Nat} {rs : List Rule} (hG : Good first rs) {c : Nat} (h : c ∈ ltr rs) : ∀ d ∈ wd rs c, d ∈ ltr rs := by
  obtain ⟨q, h1, h2, h3⟩ := wd_mem h
  rw [h3]
  exact hG.win q h1
theorem wd_le {first : List Nat} {rs : List Rule} (hG : Good first rs) {c : Nat} (h : c ∈ ltr rs) : (wd rs c).length ≤ 6 := by
  obtain ⟨q, h1, h2, h3⟩ := wd_mem h
  rw [h3]
  exact hG.wl q h1
theorem take_sum (f : Nat → Nat) {x : List Nat} {j c : Nat} (e : x[j]? = some c) : ((x.take (j + 1)).map f).sum = ((x.take j).map f).sum + f c := by
  rw [List.take_add_one, e, List.map_append, List.sum_append]
  simp
structure Fam (rs : List Rule) (F : Nat → List Int) (g : Nat → Nat → Nat) : Prop where
  len : ∀ m, (F m).length = rs.length
  lkg : ∀ m, ∀ c ∈ ltr rs, lk (ltr rs) (F m) c = ((g m c : Nat) : Int)
abbrev szG (rs : List Rule) : Nat → Nat → Nat := gN rs fun _ => 1
theorem fam_len {first : List Nat} {rs : List Rule} (hG : Good first rs) : Fam rs (lenN rs.length (tabI rs)) (szG rs) := ⟨lenN_len (tabI_len rs), fun m c hc => by rw [lk_size hG m hc]; show _ = ((gN rs (fun _ => 1) m c : Nat) : Int); rw [gN_szN]⟩
theorem Fam.sum {rs : List Rule} {F : Nat → List Int} {g : Nat → Nat → Nat} (h : Fam rs F g) (m : Nat) {x : List Nat} (hx : ∀ c ∈ x, c ∈ ltr rs) : (x.map (lk (ltr rs) (F m))).sum = (((x.map (g m)).sum : Nat) : Int) := sum_gN (h.lkg m) hx
section
variable {P : Program} {w : World} {K : PySem.W.Frag} {mg : Str → Option Value} {base : Heap}
def spWbh (K : PySem.W.Frag) : Sp := fun vs H Q _ => ∃ (lw ls dw : Addr) (ds : List Addr) (first : List Nat) (rs : List Rule) (F : Nat → List Int) (g0 : Nat → Nat) (n pl : Nat), vs = [tx first, .ref lw, .ref ls, .int (pl : Int)] ∧ Good first rs ∧ n ≤ 600 ∧ H lw = some (.lst (List.replicate (n + 1) (V.ref dw))) ∧ H dw = some (.dK (kvw rs)) ∧
  DicsAt H ls ds rs F (n + 1) ∧ Fam rs F (gN rs g0) ∧ pl < (first.map (gN rs g0 n)).sum ∧ ∀ l as H', Same H H' → H l = none → H' l = some (.lst (as.map V.ref)) → StepsAt H' as (wayG rs (gN rs g0) (n + 1) first pl) → Q (.ref l) H'
theorem scWbh : FnScope ["first", "words", "sums", "many", "told", "text", "left", "worths", "spelling", "index"] ["first", "words", "sums", "many"] (defScope sWbh) := ⟨rfl, rfl, rfl, by decide +kernel, rfl, by decide +kernel, by decide +kernel⟩
theorem ok_wbh {f : Addr} {fd : FuncData} (F : Fun K "way_behind" "way_behind" sWbh f fd)
    (hzip : mg "zip" = none)
    (hreversed : mg "reversed" = none)
    : FnOk P w K mg base CX0 1 f fd ["first", "words", "sums", "many"] (spWbh K) := by
  refine F.ok scWbh (fun vs H Q E h => ?_) (fun cdv A outer s H vs Q E hr h => ?_)
  · obtain ⟨lw, ls, dw, ds, first, rs, Fm, g0, n, pl, rfl, _⟩ := h
    rfl
  · obtain ⟨lw, ls, dw, ds, first, rs, Fm, g0, n, pl, rfl, hG, hn, hw, hdw, hD, hF, hpl, k⟩ := h
    have hu := hu_of hr
    refine ⟨_, (pss_cons (ps_set (i := 4) scWbh.nd rfl (Or.inl rfl) (pe_lst pa_nil))
      (pss_cons (ps_set (i := 5) scWbh.nd rfl (Or.inl rfl) (pv 0))
      (pss_cons (ps_set (i := 6) scWbh.nd rfl (Or.inl rfl) (pv 3))
      (pss_cons (ps_for PassesOwn.never rfl (pi_zipRK K rfl hzip rfl hreversed (pa_cons (pv 2) pa_nil) (pa_cons (pv 1) pa_nil)) (pg_tupK K (n := 2) rfl (pgs_cons (pg_name (i := 7) scWbh.nd rfl (Or.inl rfl)) (pgs_cons (pg_name (i := 8) scWbh.nd rfl (Or.inl rfl)) pgs_nil))) (pss_cons (ps_set (i := 9) scWbh.nd rfl (Or.inl rfl) pe_int)
      (pss_cons (ps_while PassesOwn.never (pt_cmpR op_le (pe_dget hu (pv 7) (pe_ix ix_str (pv 5) (pv 9) (fun _ _ => rfl)) (fun _ _ => rfl)) (pv 6) (nomark _)) (pss_cons (ps_aug (i := 6) scWbh.nd rfl (Or.inl rfl) (pe_dget hu (pv 7) (pe_ix ix_str (pv 5) (pv 9) (fun _ _ => rfl)) (fun _ _ => rfl)) ip_sub)
      (pss_one (ps_aug (i := 9) scWbh.nd rfl (Or.inl rfl) pe_int ip_add))))
      (pss_cons (ps_expr (pe_bmK K PySem.F.plainAttrs_list PySem.F.slot_list_append PySem.F.type_list_append mt_append (pv 4) (pa_cons (pe_tup (pa_cons (pe_ix ix_str (pv 5) (pv 9) (fun _ _ => rfl)) (pa_cons (pv 9) pa_nil))) pa_nil)))
      (pss_one (ps_set (i := 5) scWbh.nd rfl (Or.inl rfl) (pe_dget hu (pv 8) (pe_ix ix_str (pv 5) (pv 9) (fun _ _ => rfl)) (fun _ _ => rfl))))))))
      (pss_one (ps_ret (pv 4))))))), ?_⟩
    refine ⟨(by show 0 ≤ sizeLine; decide), fun l nl => ?_⟩
    have s1 : Same H (upd H l (.lst [])) := Same.add nl
    have hl1 : upd H l (.lst []) l = some (.lst []) := upd_same
    revert s1 hl1
    generalize upd H l (.lst []) = H1
    intro s1 hl1
    have fin0 : ∀ m, n + 1 = m + 1 → pl < (first.map (gN rs g0 m)).sum := fun m hm => by
      obtain rfl : m = n := by omega
      exact hpl
    have ld : (ds.map V.ref).length = n + 1 := by rw [List.length_map, hD.len]
    refine ⟨_, rfl, _, rfl, _, rfl, ls, ds.map V.ref, rfl, SqL.of (s1 _ _ hD.top), _, rfl, lw, List.replicate (n + 1) (V.ref dw), rfl, SqL.of (s1 _ _ hw), SqL.of (s1 _ _ hD.top), ?_⟩
    refine for_by2 (sure_zipR (xs := ds.map V.ref) (ys := List.replicate (n + 1) (V.ref dw))) (fun i σ H2 => ∃ (as : List Addr) (pre : List (Nat × Nat)) (x : List Nat) (r kk : Nat) (v7 v8 v9 : Option V), σ = [some (tx first), some (.ref lw), some (.ref ls), some (.int (pl : Int)), some (.ref l), some (tx x), some (.int (r : Int)), v7, v8, v9] ∧
      Same H H2 ∧ H2 l = some (.lst (as.map V.ref)) ∧ StepsAt H2 as pre ∧ pre.length = i ∧ i + kk = n + 1 ∧ pre ++ wayG rs (gN rs g0) kk x r = wayG rs (gN rs g0) (n + 1) first pl ∧ (∀ c ∈ x, c ∈ ltr rs) ∧ x.length ≤ 12 ∧ (∀ m, kk = m + 1 → r < (x.map (gN rs g0 m)).sum))
      ⟨[], [], first, pl, n + 1, _, _, _, rfl, s1, hl1, ⟨rfl, fun i a p e => by simp at e⟩, rfl, by omega, rfl, hG.fin, hG.fl, fin0⟩ ?_ ?_ ?_
    · rintro i σ H2 hi ⟨as, pre, x, r, kk, v7, v8, v9, rfl, s2, _⟩
      exact ⟨SqL.of (s2 _ _ hD.top), SqL.of (s2 _ _ hw)⟩
    · rintro i us σ H2 T hz ⟨as, pre, x, r, kk, v7, v8, v9, rfl, s2, hl2, hS, hpre, hik, hW, hx, hx12, hr0⟩ hT
      rw [List.getElem?_map] at hz
      cases ez : ((ds.map V.ref).reverse.zip (List.replicate (n + 1) (V.ref dw)))[i]? with
      | none => rw [ez] at hz; cases hz
      | some pr =>
        obtain ⟨px, py⟩ := pr
        rw [ez] at hz
        cases hz
        obtain ⟨q1, q2⟩ := List.getElem?_zip_eq_some.mp ez
        have hi : i < n + 1 := by have := (List.getElem?_eq_some_iff.mp q2).1; rwa [List.length_replicate] at this
        have q2' : V.ref dw = py := by rw [List.getElem?_replicate, if_pos hi] at q2; exact Option.some.inj q2
        subst q2'
        obtain ⟨m, rfl⟩ : ∃ m, kk = m + 1 := ⟨kk - 1, by omega⟩
        rw [List.getElem?_reverse (by rw [ld]; exact hi), ld] at q1
        have e1 : n + 1 - 1 - i = m := by omega
        rw [e1, List.getElem?_map] at q1
        cases ed : ds[m]? with
        | none => rw [ed] at q1; cases q1
        | some d =>
          rw [ed] at q1
          have q1' : V.ref d = px := Option.some.inj q1
          subst q1'
          have sT := Same.add (o := .tup [V.ref d, V.ref dw]) hT
          refine ⟨T, _, rfl, SqT.of upd_same, rfl, _, _, rfl, _, _, rfl, rfl, ?_⟩
          have s3 := s2.trans sT
          have hl3 := sT _ _ hl2
          have hS3 := hS.mono (TupS.same sT)
          revert s3 hl3 hS3
          generalize upd H2 T (.tup [V.ref d, V.ref dw]) = H3
          intro s3 hl3 hS3
          have hd3 := s3 _ _ (hD.at_ m d ed)
          have hw3 := s3 _ _ hdw
          have rlt : r < (x.map (gN rs g0 m)).sum := hr0 m rfl
          have ll : (Fm m).length = (ltr rs).length := by rw [hF.len]; unfold ltr; rw [List.length_map]
          refine ⟨fun q σ H5 => ∃ j : Nat, σ = [some (tx first), some (.ref lw), some (.ref ls), some (.int (pl : Int)), some (.ref l), some (tx x), some (.int ((r - ((x.take j).map (gN rs g0 m)).sum : Nat) : Int)), some (.ref d), some (.ref dw), some (.int (j : Int))] ∧ q = x.length - j ∧ H5 = H3 ∧ j ≤ x.length ∧ ((x.take j).map (gN rs g0 m)).sum ≤ r, ⟨_, 0, rfl, rfl, rfl, Nat.zero_le _, Nat.zero_le _⟩, ?_⟩
          rintro q σ H5 ⟨j, rfl, rfl, rfl, hj, hsum⟩
          have jl : j < x.length := by
            rcases Nat.lt_or_ge j x.length with h | h
            · exact h
            · rw [List.take_of_length_le h] at hsum
              omega
          have ec : x[j]? = some x[j] := List.getElem?_eq_getElem jl
          revert ec
          generalize x[j] = c
          intro ec
          have hc := hx c (List.mem_of_getElem? ec)
          have hg := DGet.k (k := (Sum.inr (one c) : Key)) hd3
          rw [dkI_val ll hc, hF.lkg m c hc] at hg
          have szx : (⟨x.toArray⟩ : Str).length ≤ sizeLine := Nat.le_of_lt (small1000 (show x.length ≤ 1000 by omega))
          refine ⟨_, rfl, _, rfl, _, rfl, ⟨x.toArray⟩, _, _, rfl, rfl, szx, atI_nat ec, d, _, rfl, hg, _, rfl, _, _, rfl, rfl, _, rfl, ?_⟩
          refine ite2 (fun hc1 => ?_) (fun hc1 => ?_)
          · have hle : gN rs g0 m c ≤ r - ((x.take j).map (gN rs g0 m)).sum := by
              have h4 : ((gN rs g0 m c : Nat) : Int) ≤ ((r - ((x.take j).map (gN rs g0 m)).sum : Nat) : Int) := of_decide_eq_true hc1
              omega
            have ts := take_sum (gN rs g0 m) ec
            refine ⟨fun σ' H' => (∃ a b : Int, σ' = [some (tx first), some (.ref lw), some (.ref ls), some (.int (pl : Int)), some (.ref l), some (tx x), some (.int a), some (.ref d), some (.ref dw), some (.int b)] ∧ a = ((r - ((x.take (j + 1)).map (gN rs g0 m)).sum : Nat) : Int) ∧ b = ((j + 1 : Nat) : Int)) ∧ H' = H5, ?_, ?_⟩
            · rintro σ' H' ⟨⟨a, b, rfl, rfl, rfl⟩, rfl⟩
              exact ⟨x.length - (j + 1), by omega, j + 1, rfl, rfl, rfl, by omega, by omega⟩
            · refine ⟨_, rfl, _, rfl, _, rfl, _, rfl, ⟨x.toArray⟩, _, _, rfl, rfl, szx, atI_nat ec, d, _, rfl, hg, _, _, rfl, rfl, ?_⟩
              exact ⟨_, rfl, _, _, rfl, rfl, ⟨_, _, rfl, by show ((r - ((x.take j).map (gN rs g0 m)).sum : Nat) : Int) - ((gN rs g0 m c : Nat) : Int) = _; omega, by show (j : Int) + 1 = _; omega⟩, rfl⟩
          · have hlt : ¬ gN rs g0 m c ≤ r - ((x.take j).map (gN rs g0 m)).sum := fun z => hc1 (decide_eq_true (by show ((gN rs g0 m c : Nat) : Int) ≤ ((r - ((x.take j).map (gN rs g0 m)).sum : Nat) : Int); omega))
            have pk := pick_at (gN rs g0 m) x j r c ec hsum (by omega)
            refine ⟨_, rfl, .inl ⟨rfl, _, SqL.of hl3⟩, _, rfl, _, rfl, ⟨x.toArray⟩, _, _, rfl, rfl, szx, atI_nat ec, _, rfl, (by show 2 ≤ sizeLine; decide), fun U nU => ?_⟩
            have sU := Same.add (o := .tup [sign c, V.int (j : Int)]) nU
            have hU : upd H5 U (.tup [sign c, V.int (j : Int)]) U = some (.tup [sign c, V.int (j : Int)]) := upd_same
            have hl4 := sU _ _ hl3
            have s4 := s3.trans sU
            have hS4 := hS3.mono (TupS.same sU)
            refine ⟨l, _, _, rfl, rfl, hl4, small1000 (by rw [List.length_map, hS.len, hpre]; omega), ?_⟩
            have nw : dw ≠ l := ne_of_none hdw nl
            have hgw := DGet.k (k := (Sum.inr (one c) : Key)) (upd_in (o := .lst (as.map V.ref ++ [V.ref U])) (s4 _ _ hdw) nw)
            rw [kvw_wd hG.nd hc] at hgw
            refine ⟨_, rfl, _, rfl, _, rfl, ⟨x.toArray⟩, _, _, rfl, rfl, szx, atI_nat ec, dw, _, rfl, hgw, ?_⟩
            have tk : TupS (upd H5 U (.tup [sign c, V.int (j : Int)])) (upd (upd H5 U (.tup [sign c, V.int (j : Int)])) l (.lst (as.map V.ref ++ [V.ref U]))) := fun b ys e => upd_in e fun z => by rw [z, hl4] at e; cases e
            refine ⟨as ++ [U], pre ++ [(c, j)], wd rs c, r - ((x.take j).map (gN rs g0 m)).sum, m, _, _, _, rfl, fun b o hb => upd_in (s4 _ _ hb) (ne_of_none hb nl), by rw [upd_same, List.map_append]; rfl, (hS4.mono tk).snoc (tk _ _ hU), by rw [List.length_append, hpre]; rfl, by omega, ?_, wd_in hG hc, Nat.le_trans (wd_le hG hc) (by decide), ?_⟩
            · rw [← hW]
              have eg : x.getD j 0 = c := by rw [List.getD_eq_getElem?_getD, ec]; rfl
              have ew : wayG rs (gN rs g0) (m + 1) x r = (c, j) :: wayG rs (gN rs g0) m (wd rs c) (r - ((x.take j).map (gN rs g0 m)).sum) := by
                show (x.getD (pick (gN rs g0 m) x r).1 0, (pick (gN rs g0 m) x r).1) :: wayG rs (gN rs g0) m (wd rs (x.getD (pick (gN rs g0 m) x r).1 0)) (pick (gN rs g0 m) x r).2 = _
                rw [pk]
                show (x.getD j 0, j) :: wayG rs (gN rs g0) m (wd rs (x.getD j 0)) _ = _
                rw [eg]
              rw [ew, List.append_assoc]
              rfl
            · rintro m' rfl
              show _ < gN rs g0 (m' + 1) c
              omega
    · rintro σ H2 ⟨as, pre, x, r, kk, v7, v8, v9, rfl, s2, hl2, hS, hpre, hik, hW, hx, hx12, hr0⟩
      have en : (((ds.map V.ref).reverse.zip (List.replicate (n + 1) (V.ref dw))).map fun p => [p.1, p.2]).length = n + 1 := by
        rw [List.length_map, List.length_zip, List.length_reverse, ld, List.length_replicate, Nat.min_self]
      rw [en] at hik
      have : kk = 0 := by omega
      subst this
      have hW' : pre = wayG rs (gN rs g0) (n + 1) first pl := by rw [← hW]; exact (List.append_nil _).symm
      rw [hW'] at hS
      exact ⟨_, rfl, k l as H2 s2 nl hl2 hS⟩
def spWah (K : PySem.W.Frag) : Sp := fun vs H Q _ => ∃ (lw ls dw st : Addr) (ds as : List Addr) (first : List Nat) (rs : List Rule) (F : Nat → List Int) (g : Nat → Nat → Nat) (n : Nat) (W : List (Nat × Nat)), vs = [tx first, .ref lw, .ref st, .ref ls] ∧ Good first rs ∧ n ≤ 600 ∧ H lw = some (.lst (List.replicate (n + 1) (V.ref dw))) ∧ H dw = some (.dK (kvw rs)) ∧
  DicsAt H ls ds rs F (n + 1) ∧ Fam rs F g ∧ H st = some (.lst (as.map V.ref)) ∧ StepsAt H as W ∧ n + 1 ≤ W.length ∧ Way rs first W ∧ ∀ H', Same H H' → Q (.int ((ahd rs g first (W.take (n + 1)) : Nat) : Int)) H'
theorem scWah : FnScope ["first", "words", "steps", "sums", "told", "text", "worths", "spelling", "step"] ["first", "words", "steps", "sums"] (defScope sWah) := ⟨rfl, rfl, rfl, by decide +kernel, rfl, by decide +kernel, by decide +kernel⟩
theorem ok_wah {f fTsm : Addr} {fd fdTsm : FuncData} (F : Fun K "worth_ahead" "worth_ahead" sWah f fd)
    (GTsm : FnOk P w K mg base CX0 1 fTsm fdTsm ["text", "worths"] spTsm)
    (gTsm : Gf K mg "text_sum" fTsm fdTsm ["text", "worths"])
    (hzip : mg "zip" = none)
    (hreversed : mg "reversed" = none)
    : FnOk P w K mg base CX0 2 f fd ["first", "words", "steps", "sums"] (spWah K) := by
  refine F.ok scWah (fun vs H Q E h => ?_) (fun cdv A outer s H vs Q E hr h => ?_)
  · obtain ⟨lw, ls, dw, st, ds, as, first, rs, Fm, g, n, W, rfl, _⟩ := h
    rfl
  · obtain ⟨lw, ls, dw, st, ds, as, first, rs, Fm, g, n, W, rfl, hG, hn, hw, hdw, hD, hF, hst, hS, hWl, hWay0, k⟩ := h
    have hu := hu_of hr
    refine ⟨_, (pss_cons (ps_set (i := 4) scWah.nd rfl (Or.inl rfl) pe_int)
      (pss_cons (ps_set (i := 5) scWah.nd rfl (Or.inl rfl) (pv 0))
      (pss_cons (ps_for PassesOwn.never rfl (pi_zip3K K rfl hzip rfl hreversed (pa_cons (pv 3) pa_nil) (pa_cons (pv 1) (pa_cons (pv 2) pa_nil))) (pg_tupK K (n := 3) rfl (pgs_cons (pg_name (i := 6) scWah.nd rfl (Or.inl rfl)) (pgs_cons (pg_name (i := 7) scWah.nd rfl (Or.inl rfl)) (pgs_cons (pg_name (i := 8) scWah.nd rfl (Or.inl rfl)) pgs_nil)))) (pss_cons (ps_aug (i := 4) scWah.nd rfl (Or.inl rfl) (pe_call GTsm hr rfl gTsm.m gTsm.k gTsm.b .nil pass0 (pa_cons (pe_slice sl_str (pv 5) po_none (po_some (pe_ix (ix_tupK K) (pv 8) pe_int (fun _ _ => rfl)))) (pa_cons (pv 6) pa_nil))) ip_add)
      (pss_one (ps_set (i := 5) scWah.nd rfl (Or.inl rfl) (pe_dget hu (pv 7) (pe_ix (ix_tupK K) (pv 8) pe_int (fun _ _ => rfl)) (fun _ _ => rfl))))))
      (pss_one (ps_ret (pv 4)))))), ?_⟩
    have la : n + 1 ≤ as.length := by rw [hS.len]; exact hWl
    have hWay := Way.take W first (n + 1) hWay0
    have hV : (W.take (n + 1)).length = n + 1 := by rw [List.length_take]; omega
    obtain ⟨V0, hV0⟩ : ∃ V0, W.take (n + 1) = V0 := ⟨_, rfl⟩
    rw [hV0] at hWay hV k
    have ld : (ds.map V.ref).length = n + 1 := by rw [List.length_map, hD.len]
    refine ⟨_, rfl, _, rfl, ls, ds.map V.ref, rfl, SqL.of hD.top, _, rfl, _, rfl, lw, List.replicate (n + 1) (V.ref dw), st, as.map V.ref, rfl, SqL.of hw, SqL.of hst, SqL.of hD.top, ?_⟩
    refine for_by2 (sure_zip3 (xs := ds.map V.ref) (ys := List.replicate (n + 1) (V.ref dw)) (zs := as.map V.ref)) (fun i σ H2 => ∃ (x : List Nat) (tot : Nat) (Wr : List (Nat × Nat)) (v6 v7 v8 : Option V), σ = [some (tx first), some (.ref lw), some (.ref st), some (.ref ls), some (.int (tot : Int)), some (tx x), v6, v7, v8] ∧
      Same H H2 ∧ V0.drop i = Wr ∧ i + Wr.length = n + 1 ∧ Way rs x Wr ∧ tot + ahd rs g x Wr = ahd rs g first V0 ∧ (∀ c ∈ x, c ∈ ltr rs) ∧ x.length ≤ 12)
      ⟨first, 0, V0, _, _, _, rfl, Same.refl _, rfl, by omega, hWay, by omega, hG.fin, hG.fl⟩ ?_ ?_ ?_
    · rintro i σ H2 hi ⟨x, tot, Wr, v6, v7, v8, rfl, s2, _⟩
      exact ⟨SqL.of (s2 _ _ hD.top), SqL.of (s2 _ _ hw), SqL.of (s2 _ _ hst)⟩
    · rintro i us σ H2 T hz ⟨x, tot, Wr, v6, v7, v8, rfl, s2, hWr, hik, hwy, htot, hx, hx12⟩ hT
      rw [List.getElem?_map] at hz
      cases ez : ((ds.map V.ref).reverse.zip ((List.replicate (n + 1) (V.ref dw)).zip (as.map V.ref)))[i]? with
      | none => rw [ez] at hz; cases hz
      | some pr =>
        obtain ⟨px, py, pz⟩ := pr
        rw [ez] at hz
        cases hz
        obtain ⟨q1, q23⟩ := List.getElem?_zip_eq_some.mp ez
        obtain ⟨q2, q3⟩ := List.getElem?_zip_eq_some.mp q23
        have hi : i < n + 1 := by have := (List.getElem?_eq_some_iff.mp q2).1; rwa [List.length_replicate] at this
        have q2' : V.ref dw = py := by rw [List.getElem?_replicate, if_pos hi] at q2; exact Option.some.inj q2
        subst q2'
        cases Wr with
        | nil => simp at hik; omega
        | cons p Wr =>
          have hml : Wr.length = n - i := by simp at hik; omega
          rw [List.getElem?_reverse (by rw [ld]; exact hi), ld] at q1
          have e1 : n + 1 - 1 - i = n - i := by omega
          rw [e1, List.getElem?_map] at q1
          rw [List.getElem?_map] at q3
          cases ea : as[i]? with
          | none => rw [ea] at q3; cases q3
          | some a =>
          rw [ea] at q3
          have q3' : V.ref a = pz := Option.some.inj q3
          subst q3'
          cases ed : ds[n - i]? with
          | none => rw [ed] at q1; cases q1
          | some d =>
            rw [ed] at q1
            have q1' : V.ref d = px := Option.some.inj q1
            subst q1'
            have hWi0 : V0[i]? = some p := by
              have := congrArg (fun z => z[0]?) hWr
              simpa using this
            have hWi : W[i]? = some p := by
              rw [← hV0, List.getElem?_take_of_lt hi] at hWi0
              exact hWi0
            have hWn : V0.drop (i + 1) = Wr := by
              have := congrArg List.tail hWr
              rw [List.tail_drop] at this
              exact this
            have hc := hx p.1 (List.mem_of_getElem? hwy.1)
            have szx : (⟨x.toArray⟩ : Str).length ≤ sizeLine := Nat.le_of_lt (small1000 (show x.length ≤ 1000 by omega))
            have ls1 : ∀ c' ∈ x.take p.2, c' ∈ ltr rs := fun c' hc' => hx c' (List.mem_of_mem_take hc')
            have sT := s2.trans (Same.add (o := .tup [V.ref d, V.ref dw, V.ref a]) hT)
            refine ⟨T, _, rfl, SqT.of upd_same, rfl, _, _, rfl, _, _, rfl, _, _, rfl, rfl, ?_⟩
            revert sT
            generalize upd H2 T (.tup [V.ref d, V.ref dw, V.ref a]) = H3
            intro sT
            have ha := sT _ _ (hS.at_ i a p ea hWi)
            have hv := sT _ _ (hD.at_ (n - i) d ed)
            refine ⟨_, rfl, _, rfl, _, rfl, a, _, _, _, rfl, rfl, SqT.of ha, atI_nat (j := 1) rfl, _, rfl, ⟨x.toArray⟩, rfl, szx, ?_⟩
            rw [slice_take]
            refine ⟨_, rfl, d, rs, Fm (n - i), x.take p.2, rfl, hv, hF.len _, by rw [List.length_take]; omega, ls1, fun H4 s4 => ?_⟩
            rw [hF.sum (n - i) ls1]
            have hgw := DGet.k (k := (Sum.inr (one p.1) : Key)) (s4 _ _ (sT _ _ hdw))
            rw [kvw_wd hG.nd hc] at hgw
            refine ⟨_, _, rfl, rfl, _, rfl, _, rfl, a, _, _, _, rfl, rfl, SqT.of (s4 _ _ ha), atI_nat (j := 0) rfl, dw, _, rfl, hgw, ?_⟩
            refine ⟨wd rs p.1, tot + ((x.take p.2).map (g (n - i))).sum, Wr, _, _, _, by rw [Int.natCast_add]; rfl, sT.trans s4, hWn, by omega, hwy.2, ?_, wd_in hG hc, Nat.le_trans (wd_le hG hc) (by decide)⟩
            rw [← htot]
            show _ = tot + (((x.take p.2).map (g Wr.length)).sum + ahd rs g (wd rs p.1) Wr)
            rw [hml]
            omega
    · rintro σ H2 ⟨x, tot, Wr, v6, v7, v8, rfl, s2, hWr, hik, hwy, htot, hx, hx12⟩
      have en : (((ds.map V.ref).reverse.zip ((List.replicate (n + 1) (V.ref dw)).zip (as.map V.ref))).map fun p => [p.1, p.2.1, p.2.2]).length = n + 1 := by
        rw [List.length_map, List.length_zip, List.length_zip, List.length_reverse, ld, List.length_replicate, List.length_map]
        omega
      rw [en] at hik
      have : Wr = [] := List.eq_nil_of_length_eq_zero (by omega)
      subst this
      have et : tot = ahd rs g first V0 := htot
      rw [et]
      exact ⟨_, rfl, k H2 s2⟩
def spWay : Sp := fun vs H Q _ => ∃ (t : Addr) (first : List Nat) (rs : List Rule) (n pl : Nat), vs = [.ref t, .int (n : Int), .int (pl : Int)] ∧ BookAt H t first rs ∧ Good first rs ∧ n ≤ 300 ∧ pl < (first.map (szG rs n)).sum ∧ ∀ l as H', Same H H' → H l = none → H' l = some (.lst (as.map V.ref)) → StepsAt H' as (wayG rs (szG rs) (n + 1) first pl) → Q (.ref l) H'
theorem scWay : FnScope ["book", "age", "place", "sums"] ["book", "age", "place"] (defScope sWay) := ⟨rfl, rfl, rfl, by decide +kernel, rfl, by decide +kernel, by decide +kernel⟩
theorem ok_way {f fNag fLns fNpl fWbh fWba fTsm : Addr} {fd fdNag fdLns fdNpl fdWbh fdWba fdTsm : FuncData} (F : Fun K "way" "way" sWay f fd)
    (GNag : FnOk P w K mg base CX0 3 fNag fdNag ["age"] spNag)
    (gNag : Gf K mg "need_age" fNag fdNag ["age"])
    (GLns : FnOk P w K mg base CX0 4 fLns fdLns ["book", "age"] spLns)
    (gLns : Gf K mg "length_sums" fLns fdLns ["book", "age"])
    (GNpl : FnOk P w K mg base CX0 3 fNpl fdNpl ["place", "last"] spNpl)
    (gNpl : Gf K mg "need_place" fNpl fdNpl ["place", "last"])
    (GWbh : FnOk P w K mg base CX0 1 fWbh fdWbh ["first", "words", "sums", "many"] (spWbh K))
    (gWbh : Gf K mg "way_behind" fWbh fdWbh ["first", "words", "sums", "many"])
    (GWba : FnOk P w K mg base CX0 1 fWba fdWba ["book", "age"] spWba)
    (gWba : Gf K mg "words_by_age" fWba fdWba ["book", "age"])
    (GTsm : FnOk P w K mg base CX0 1 fTsm fdTsm ["text", "worths"] spTsm)
    (gTsm : Gf K mg "text_sum" fTsm fdTsm ["text", "worths"])
    : FnOk P w K mg base CX0 5 f fd ["book", "age", "place"] spWay := by
  refine F.ok scWay (fun vs H Q E h => ?_) (fun cdv A outer s H vs Q E hr h => ?_)
  · obtain ⟨t, first, rs, n, pl, rfl, _⟩ := h
    rfl
  · obtain ⟨t, first, rs, n, pl, rfl, hB, hG, hn, hpl, k⟩ := h
    have hr1 : Room 1 _ := hr.mono (by decide)
    have hr3 : Room 3 _ := hr.mono (by decide)
    refine ⟨_, (pss_cons (ps_expr (pe_call GNag hr3 rfl gNag.m gNag.k gNag.b .nil pass0 (pa_cons (pv 1) pa_nil)))
      (pss_cons (ps_set (i := 3) scWay.nd rfl (Or.inl rfl) (pe_call GLns hr rfl gLns.m gLns.k gLns.b .nil pass0 (pa_cons (pv 0) (pa_cons (pv 1) pa_nil))))
      (pss_cons (ps_expr (pe_call GNpl hr3 rfl gNpl.m gNpl.k gNpl.b .nil pass0 (pa_cons (pv 2) (pa_cons (pe_op op_sub (pe_call GTsm hr1 rfl gTsm.m gTsm.k gTsm.b .nil pass0 (pa_cons (pe_ix (ix_tupK K) (pv 0) pe_int (fun _ _ => rfl)) (pa_cons (pe_ix (ix_listK K) (pv 3) (pv 1) (fun _ _ => rfl)) pa_nil))) pe_int) pa_nil))))
      (pss_one (ps_ret (pe_call GWbh hr1 rfl gWbh.m gWbh.k gWbh.b .nil pass0 (pa_cons (pe_ix (ix_tupK K) (pv 0) pe_int (fun _ _ => rfl)) (pa_cons (pe_call GWba hr1 rfl gWba.m gWba.k gWba.b .nil pass0 (pa_cons (pv 0) (pa_cons (pv 1) pa_nil))) (pa_cons (pv 3) (pa_cons (pv 2) pa_nil)))))))))), ?_⟩
    refine ⟨_, rfl, n, rfl, hn, ?_⟩
    refine ⟨_, rfl, _, rfl, t, first, rs, n, rfl, hB, hG, by omega, fun l ls H1 s1 nl _ hD => ?_⟩
    obtain ⟨r, ps, b1, b2, b3⟩ := hB.ex
    have ln := lenN_len (k := rs.length) (tabI_len rs) n
    obtain ⟨a, ha⟩ : ∃ a, ls[n]? = some a := ⟨ls[n]'(by rw [hD.len]; omega), List.getElem?_eq_getElem _⟩
    have hv := hD.at_ n a ha
    refine ⟨_, rfl, _, rfl, t, _, _, _, rfl, rfl, SqT.of (s1 _ _ b1), atI_nat (j := 0) rfl, _, rfl, _, rfl, l, _, _, _, rfl, rfl, SqL.of hD.top, atI_nat (by rw [List.getElem?_map, ha]; rfl), a, rs, _, first, rfl, hv, ln, Nat.le_trans hG.fl (by decide), hG.fin, fun H2 s2 => ?_⟩
    rw [(fam_len hG).sum n hG.fin]
    refine ⟨_, _, rfl, rfl, pl, (((first.map (szG rs n)).sum : Nat) - 1 : Int), rfl, by omega, ?_⟩
    have s12 := s1.trans s2
    refine ⟨_, rfl, t, _, _, _, rfl, rfl, SqT.of (s12 _ _ b1), atI_nat (j := 0) rfl, _, rfl, _, rfl, t, first, rs, n, rfl, hB.mono (TupS.same s12), hG, by omega, fun lw dw H3 s3 n1 nw e1 ew => ?_⟩
    refine ⟨_, rfl, _, rfl, lw, l, dw, ls, first, rs, lenN rs.length (tabI rs), _, n, pl, rfl, hG, by omega, e1, ew, (hD.mono s2).mono s3, fam_len hG, hpl, fun l' as H4 s4 nl' hl' hS => k l' as H4 (s12.trans (s3.trans s4)) (s12.free (s3.free nl')) hl' hS⟩
end
end Lw
namespace Lw
open PySem L2 PyProof.Rows
inductive Elt where
  | good (c : Nat) (j : Int)
  | bad
def NoLet (K : PySem.W.Frag) (H : Hp) (x : V) : Prop := x = .non ∨ (∃ a xs, x = .ref a ∧ H a = some (.lst xs)) ∨ ∃ z : List Nat, x = tx z ∧ z.length ≠ 1 ∧ z.length ≤ 1000
def NoTup2 (K : PySem.W.Frag) (H : Hp) (v : V) : Prop := (∃ t, TyOf K H v (.type t) ∧ (t = "NoneType" ∨ t = "int" ∨ t = "str" ∨ t = "list")) ∨ ∃ a x y z, v = .ref a ∧ H a = some (.tup [x, y, z])
def BadS (K : PySem.W.Frag) (H : Hp) (v : V) : Prop := NoTup2 K H v ∨ (∃ a c y, v = .ref a ∧ H a = some (.tup [sign c, y]) ∧ 97 ≤ c ∧ c ≤ 122 ∧ OddV K H y) ∨ (∃ (a : Addr) (x : V) (j : Int), v = .ref a ∧ H a = some (.tup [x, .int j]) ∧ NoLet K H x)
def EltAt (K : PySem.W.Frag) (H : Hp) (v : V) : Elt → Prop
  | .good c j => ∃ a, v = .ref a ∧ H a = some (.tup [sign c, .int j]) ∧ 97 ≤ c ∧ c ≤ 122
  | .bad => BadS K H v
def okE (x : List Nat) : Elt → Bool
  | .good c j => decide (0 ≤ j ∧ x[j.toNat]? = some c)
  | .bad => false
theorem NoLet.keep {K : PySem.W.Frag} {H H' : Hp} {x : V} (h : NoLet K H x) (s : Same H H') : NoLet K H' x := by
  rcases h with h | ⟨a, xs, e, h⟩ | h
  · exact .inl h
  · exact .inr (.inl ⟨a, xs, e, s _ _ h⟩)
  · exact .inr (.inr h)
theorem NoLet.cases {K : PySem.W.Frag} {H : Hp} {x : V} (h : NoLet K H x) : NoStr K H x ∨ ∃ z : List Nat, x = tx z ∧ z.length ≠ 1 ∧ z.length ≤ 1000 := by
  rcases h with rfl | ⟨a, xs, rfl, h⟩ | h
  · exact .inl ⟨_, TyOf.non, .inr (.inl rfl)⟩
  · exact .inl ⟨_, TyOf.lst h, .inr (.inr (.inr (.inl rfl)))⟩
  · exact .inr h
theorem BadS.keep {K : PySem.W.Frag} {H H' : Hp} {v : V} (h : BadS K H v) (s : Same H H') : BadS K H' v := by
  rcases h with (⟨t, h, ht⟩ | ⟨a, x, y, z, e, h⟩) | ⟨a, c, y, e, h, c0, c1, t, hy, ht⟩ | ⟨a, x, j, e, h, hx⟩
  · exact .inl (.inl ⟨t, tyKeep h fun a o _ e => s _ _ e, ht⟩)
  · exact .inl (.inr ⟨a, x, y, z, e, s _ _ h⟩)
  · exact .inr (.inl ⟨a, c, y, e, s _ _ h, c0, c1, t, tyKeep hy fun a o _ e => s _ _ e, ht⟩)
  · exact .inr (.inr ⟨a, x, j, e, s _ _ h, hx.keep s⟩)
theorem EltAt.keep {K : PySem.W.Frag} {H H' : Hp} {v : V} {e : Elt} (h : EltAt K H v e) (s : Same H H') : EltAt K H' v e := by
  cases e with
  | good c j => obtain ⟨a, e, h, r⟩ := h; exact ⟨a, e, s _ _ h, r⟩
  | bad => exact BadS.keep h s
def wkB (rs : List Rule) : List Nat → List Elt → Bool
  | _, [] => true
  | x, .good c j :: es => okE x (.good c j) && wkB rs (wd rs c) es
  | _, .bad :: _ => false
theorem wkB_no {rs : List Rule} {x : List Nat} {e : Elt} {es : List Elt} (h : okE x e = false) : wkB rs x (e :: es) = false := by
  cases e with
  | good c j => show (okE x (.good c j) && _) = false; rw [h]; rfl
  | bad => rfl
structure ElsAt (K : PySem.W.Frag) (H : Hp) (vs : List V) (es : List Elt) : Prop where
  len : vs.length = es.length
  at_ : ∀ (i : Nat) v e, vs[i]? = some v → es[i]? = some e → EltAt K H v e
theorem ElsAt.keep {K : PySem.W.Frag} {H H' : Hp} {vs : List V} {es : List Elt} (h : ElsAt K H vs es) (s : Same H H') : ElsAt K H' vs es := ⟨h.len, fun i v e a b => (h.at_ i v e a b).keep s⟩
def NoLst (K : PySem.W.Frag) (H : Hp) (v : V) : Prop := ∃ t, TyOf K H v (.type t) ∧ (t = "NoneType" ∨ t = "int" ∨ t = "str" ∨ t = "tuple")
theorem NoLst.keep {K : PySem.W.Frag} {H H' : Hp} {v : V} (h : NoLst K H v) (s : Same H H') : NoLst K H' v := by
  obtain ⟨t, h, ht⟩ := h
  exact ⟨t, tyKeep h fun a o _ e => s _ _ e, ht⟩
theorem okE_good {x : List Nat} {e : Elt} (h : okE x e = true) : ∃ c i : Nat, e = .good c (i : Int) ∧ x[i]? = some c := by
  cases e with
  | good c j =>
    have h' : 0 ≤ j ∧ x[j.toNat]? = some c := of_decide_eq_true h
    exact ⟨c, j.toNat, by rw [Int.toNat_of_nonneg h'.1], h'.2⟩
  | bad => cases h
def swB (rs : List Rule) (first : List Nat) (es : List Elt) : Bool := decide (1 ≤ es.length ∧ es.length ≤ 301) && wkB rs first es
theorem sign_inj {c d : Nat} (h : sign c = sign d) : c = d := one_inj (V.str.inj h)
section
variable {P : Program} {w : World} {K : PySem.W.Frag} {mg : Str → Option Value} {base : Heap}
def spIto (K : PySem.W.Frag) : Sp := fun vs H Q _ => ∃ v : V, vs = [v, .int 2] ∧ ((∃ a x y, v = .ref a ∧ H a = some (.tup [x, y]) ∧ Q (.bl true) H) ∨ (NoTup2 K H v ∧ Q (.bl false) H))
theorem scIto : FnScope ["thing", "many"] ["thing", "many"] (defScope sIto) := ⟨rfl, rfl, rfl, by decide +kernel, rfl, by decide +kernel, by decide +kernel⟩
theorem ok_ito {f : Addr} {fd : FuncData} (F : Fun K "is_tuple_of" "is_tuple_of" sIto f fd)
    (hlen : mg "len" = none)
    (htuple : mg "tuple" = none)
    (hisinstance : mg "isinstance" = none)
    : FnOk P w K mg base CX0 1 f fd ["thing", "many"] (spIto K) := by
  refine F.ok scIto (fun vs H Q E h => ?_) (fun cdv A outer s H vs Q E hr h => ?_)
  · obtain ⟨v, rfl, _⟩ := h
    rfl
  · obtain ⟨v, rfl, k⟩ := h
    refine ⟨_, (pss_one (ps_ret (pe_and (pe_callB (call_isinstK K) (by rfl) hisinstance (show bootBuiltins "isinstance" = some (.builtin "isinstance") by decide +kernel) (pa_cons (pv 0) (pa_cons (pe_bltn (v := .ty "tuple") (by rfl) htuple (show bootBuiltins "tuple" = some (.type "tuple") by decide +kernel) rfl) pa_nil))) (pe_one (pe_cmpR op_eq (pe_callB (call_lenK K) (by rfl) hlen PySem.boot_len (pa_cons (pv 0) pa_nil)) (pv 1) (nomark _)))))), ?_⟩
    rcases k with ⟨a, x, y, rfl, ha, k⟩ | ⟨⟨t, ty, ht⟩ | ⟨a, x, y, z, rfl, ha⟩, k⟩
    · refine ⟨_, rfl, _, _, _, true, rfl, TyOf.tup ha, (by rfl), _, rfl, iteT ?_⟩
      exact ⟨_, rfl, a, _, rfl, .inr (SqT.of ha), _, rfl, rfl, k⟩
    · rcases ht with rfl | rfl | rfl | rfl
      · exact ⟨_, rfl, _, _, _, false, rfl, ty, (by rfl), _, rfl, iteF k⟩
      · exact ⟨_, rfl, _, _, _, false, rfl, ty, (by rfl), _, rfl, iteF k⟩
      · exact ⟨_, rfl, _, _, _, false, rfl, ty, (by rfl), _, rfl, iteF k⟩
      · exact ⟨_, rfl, _, _, _, false, rfl, ty, (by rfl), _, rfl, iteF k⟩
    · refine ⟨_, rfl, _, _, _, true, rfl, TyOf.tup ha, (by rfl), _, rfl, iteT ?_⟩
      exact ⟨_, rfl, a, _, rfl, .inr (SqT.of ha), _, rfl, rfl, k⟩
def spIst (K : PySem.W.Frag) : Sp := fun vs H Q _ => ∃ (v : V) (x : List Nat) (e : Elt), vs = [v, tx x] ∧ EltAt K H v e ∧ x.length ≤ 1000 ∧ Q (.bl (okE x e)) H
theorem scIst : FnScope ["thing", "text"] ["thing", "text"] (defScope sIst) := ⟨rfl, rfl, rfl, by decide +kernel, rfl, by decide +kernel, by decide +kernel⟩
theorem ok_ist {f fIto fIsl fWin : Addr} {fd fdIto fdIsl fdWin : FuncData} (F : Fun K "is_step" "is_step" sIst f fd)
    (GIto : FnOk P w K mg base CX0 1 fIto fdIto ["thing", "many"] (spIto K))
    (gIto : Gf K mg "is_tuple_of" fIto fdIto ["thing", "many"])
    (GIsl : FnOk P w K mg base CX0 1 fIsl fdIsl ["thing"] (spIsl K))
    (gIsl : Gf K mg "is_letter" fIsl fdIsl ["thing"])
    (GWin : FnOk P w K mg base CX0 2 fWin fdWin ["thing", "least", "most"] (spWin K))
    (gWin : Gf K mg "is_within" fWin fdWin ["thing", "least", "most"])
    (hlen : mg "len" = none)
    : FnOk P w K mg base CX0 3 f fd ["thing", "text"] (spIst K) := by
  refine F.ok scIst (fun vs H Q E h => ?_) (fun cdv A outer s H vs Q E hr h => ?_)
  · obtain ⟨v, x, e, rfl, _⟩ := h
    rfl
  · obtain ⟨v, x, e, rfl, he, hx, k⟩ := h
    have hr1 : Room 1 _ := hr.mono (by decide)
    refine ⟨_, (pss_cons (ps_if (PW.pt (pw_or (pt_not (pt_val (pe_call GIto hr1 rfl gIto.m gIto.k gIto.b .nil pass0 (pa_cons (pv 0) (pa_cons pe_int pa_nil))))) (pw_or (pt_not (pt_val (pe_call GIsl hr1 rfl gIsl.m gIsl.k gIsl.b .nil pass0 (pa_cons (pe_ix (ix_tupK K) (pv 0) pe_int (fun _ _ => rfl)) pa_nil)))) (pw_or1 (pt_not (pt_val (pe_call GWin hr rfl gWin.m gWin.k gWin.b .nil pass0 (pa_cons (pe_ix (ix_tupK K) (pv 0) pe_int (fun _ _ => rfl)) (pa_cons pe_int (pa_cons (pe_op op_sub (pe_callB call_len_str (by rfl) hlen PySem.boot_len (pa_cons (pv 1) pa_nil)) pe_int) pa_nil)))))))))) (pss_one (ps_ret pe_bl)) pss_nil)
      (pss_one (ps_ret (pe_cmpR op_eq (pe_ix ix_str (pv 1) (pe_ix (ix_tupK K) (pv 0) pe_int (fun _ _ => rfl)) (fun _ _ => rfl)) (pe_ix (ix_tupK K) (pv 0) pe_int (fun _ _ => rfl)) (nomark _))))), ?_⟩
    have szx : (⟨x.toArray⟩ : Str).length ≤ sizeLine := Nat.le_of_lt (small1000 hx)
    cases e with
    | bad =>
      rcases he with h | ⟨a, c, y, rfl, ha, c0, c1, hy⟩ | ⟨a, z, j, rfl, ha, hz⟩
      · exact ⟨_, rfl, v, rfl, .inr ⟨h, _, rfl, iteT (iteT k)⟩⟩
      · refine ⟨_, rfl, _, rfl, .inl ⟨a, _, _, rfl, ha, _, rfl, iteF ?_⟩⟩
        refine ⟨_, rfl, a, _, _, _, rfl, rfl, SqT.of ha, atI_nat (j := 0) rfl, sign c, rfl, .inl ⟨c, rfl, ?_⟩⟩
        rw [decide_eq_true (show 97 ≤ c ∧ c ≤ 122 from ⟨c0, c1⟩)]
        refine ⟨_, rfl, iteF ?_⟩
        exact ⟨_, rfl, a, _, _, _, rfl, rfl, SqT.of ha, atI_nat (j := 1) rfl, _, rfl, ⟨x.toArray⟩, rfl, szx, _, _, rfl, rfl, y, (((x.length : Nat) : Int) - 1), rfl, .inr ⟨.inl hy, _, rfl, iteT k⟩⟩
      · refine ⟨_, rfl, _, rfl, .inl ⟨a, _, _, rfl, ha, _, rfl, iteF ?_⟩⟩
        refine ⟨_, rfl, a, _, _, _, rfl, rfl, SqT.of ha, atI_nat (j := 0) rfl, z, rfl, ?_⟩
        rcases hz.cases with hz | ⟨q, rfl, h1, h2⟩
        · exact .inr (.inl ⟨hz, _, rfl, iteT (iteT k)⟩)
        · exact .inr (.inr ⟨q, rfl, h1, h2, _, rfl, iteT (iteT k)⟩)
    | good c j =>
      obtain ⟨a, rfl, ha, c0, c1⟩ := he
      refine ⟨_, rfl, _, rfl, .inl ⟨a, _, _, rfl, ha, _, rfl, iteF ?_⟩⟩
      refine ⟨_, rfl, a, _, _, _, rfl, rfl, SqT.of ha, atI_nat (j := 0) rfl, sign c, rfl, .inl ⟨c, rfl, ?_⟩⟩
      rw [decide_eq_true (show 97 ≤ c ∧ c ≤ 122 from ⟨c0, c1⟩)]
      refine ⟨_, rfl, iteF ?_⟩
      refine ⟨_, rfl, a, _, _, _, rfl, rfl, SqT.of ha, atI_nat (j := 1) rfl, _, rfl, ⟨x.toArray⟩, rfl, szx, _, _, rfl, rfl, .int j, (((x.length : Nat) : Int) - 1), rfl, ?_⟩
      by_cases hj : 0 ≤ j ∧ j ≤ ((x.length : Nat) : Int) - 1
      · obtain ⟨i, rfl⟩ : ∃ i : Nat, j = (i : Int) := ⟨j.toNat, by omega⟩
        have hi : i < x.length := by omega
        obtain ⟨d, hd⟩ : ∃ d, x[i]? = some d := ⟨_, List.getElem?_eq_getElem hi⟩
        refine .inl ⟨_, rfl, hj.1, hj.2, _, rfl, iteF ?_⟩
        refine ⟨_, rfl, _, rfl, a, _, _, _, rfl, rfl, SqT.of ha, atI_nat (j := 1) rfl, ⟨x.toArray⟩, _, _, rfl, rfl, szx, atI_nat hd, _, rfl, a, _, _, _, rfl, rfl, SqT.of ha, atI_nat (j := 0) rfl, rfl, ?_⟩
        show Q (V.bl (decide (sign d = sign c))) H
        have ek : okE x (.good c (i : Int)) = decide (sign d = sign c) := by
          show decide ((0 : Int) ≤ (i : Int) ∧ x[(i : Int).toNat]? = some c) = _
          rw [Int.toNat_natCast, hd]
          by_cases z : d = c
          · rw [z, decide_eq_true rfl]
            exact decide_eq_true ⟨by omega, rfl⟩
          · rw [decide_eq_false fun h => z (sign_inj h)]
            exact decide_eq_false fun h => z (Option.some.inj h.2)
        rw [← ek]
        exact k
      · have ek : okE x (.good c j) = false := by
          refine decide_eq_false fun h => hj ⟨h.1, ?_⟩
          have := (List.getElem?_eq_some_iff.mp h.2).1
          omega
        rw [ek] at k
        exact .inr ⟨.inr ⟨j, rfl, by omega⟩, _, rfl, iteT k⟩
def spIsw (K : PySem.W.Frag) : Sp := fun vs H Q _ => ∃ (t : Addr) (tv : V) (first : List Nat) (rs : List Rule), vs = [.ref t, tv] ∧ BookAt H t first rs ∧ Good first rs ∧ ((NoLst K H tv ∧ Q (.bl false) H) ∨
  ∃ (st : Addr) (us : List V) (es : List Elt), tv = .ref st ∧ H st = some (.lst us) ∧ ElsAt K H us es ∧ ∀ H', Same H H' → Q (.bl (swB rs first es)) H')
theorem scIsw : FnScope ["book", "thing", "words", "text", "step"] ["book", "thing"] (defScope sIsw) := ⟨rfl, rfl, rfl, by decide +kernel, rfl, by decide +kernel, by decide +kernel⟩
theorem ok_isw {f fIst : Addr} {fd fdIst : FuncData} (F : Fun K "is_way" "is_way" sIsw f fd)
    (GIst : FnOk P w K mg base CX0 3 fIst fdIst ["thing", "text"] (spIst K))
    (gIst : Gf K mg "is_step" fIst fdIst ["thing", "text"])
    (hlen : mg "len" = none)
    (hlist : mg "list" = none)
    (hisinstance : mg "isinstance" = none)
    (hdict : mg "dict" = none)
    {tkLAST_AGE : Tok} (hLAST_AGE : mg "LAST_AGE" = some (.int 300 tkLAST_AGE))
    : FnOk P w K mg base CX0 4 f fd ["book", "thing"] (spIsw K) := by
  refine F.ok scIsw (fun vs H Q E h => ?_) (fun cdv A outer s H vs Q E hr h => ?_)
  · obtain ⟨t, tv, first, rs, rfl, _⟩ := h
    rfl
  · obtain ⟨t, tv, first, rs, rfl, hB, hG, k⟩ := h
    have hu := hu_of hr
    refine ⟨_, (pss_cons (ps_if (PW.pt (pw_or (pt_not (pt_val (pe_callB (call_isinstK K) (by rfl) hisinstance (show bootBuiltins "isinstance" = some (.builtin "isinstance") by decide +kernel) (pa_cons (pv 1) (pa_cons (pe_bltn (v := .ty "list") (by rfl) hlist (show bootBuiltins "list" = some (.type "list") by decide +kernel) rfl) pa_nil))))) (pw_or1 (pt_not (pt_chain op_le op_le pe_int (pe_callB (call_lenK K) (by rfl) hlen PySem.boot_len (pa_cons (pv 1) pa_nil)) (pe_op op_add (pe_glob (v := .int 300) (by rfl) hLAST_AGE ⟨_, rfl⟩) pe_int)))))) (pss_one (ps_ret pe_bl)) pss_nil)
      (pss_cons (ps_set (i := 2) scIsw.nd rfl (Or.inl rfl) (pe_callTy (call_dict_tup rfl) (by rfl) hdict (by first | exact PySem.boot_dict | decide +kernel) (pa_cons (pe_ix (ix_tupK K) (pv 0) pe_int (fun _ _ => rfl)) pa_nil)))
      (pss_cons (ps_set (i := 3) scIsw.nd rfl (Or.inl rfl) (pe_ix (ix_tupK K) (pv 0) pe_int (fun _ _ => rfl)))
      (pss_cons (ps_for PassesOwn.never rfl (pi_listK K (pv 1)) (pg_name (i := 4) scIsw.nd rfl (Or.inl rfl)) (pss_cons (ps_if (pt_not (pt_val (pe_call GIst hr rfl gIst.m gIst.k gIst.b .nil pass0 (pa_cons (pv 4) (pa_cons (pv 3) pa_nil))))) (pss_one (ps_ret pe_bl)) pss_nil)
      (pss_one (ps_set (i := 3) scIsw.nd rfl (Or.inl rfl) (pe_dget hu (pv 2) (pe_ix (ix_tupK K) (pv 4) pe_int (fun _ _ => rfl)) (fun _ _ => rfl))))))
      (pss_one (ps_ret pe_bl)))))), ?_⟩
    rcases k with ⟨⟨ty, hty, ht⟩, k⟩ | ⟨st, us, es, rfl, hst, hE, k⟩
    · rcases ht with rfl | rfl | rfl | rfl
      · exact ⟨_, rfl, _, _, _, false, rfl, hty, (by rfl), _, rfl, iteT (iteT k)⟩
      · exact ⟨_, rfl, _, _, _, false, rfl, hty, (by rfl), _, rfl, iteT (iteT k)⟩
      · exact ⟨_, rfl, _, _, _, false, rfl, hty, (by rfl), _, rfl, iteT (iteT k)⟩
      · exact ⟨_, rfl, _, _, _, false, rfl, hty, (by rfl), _, rfl, iteT (iteT k)⟩
    obtain ⟨r, ps, b1, b2, b3⟩ := hB.ex
    have hfew := hG.few
    have las := hE.len
    refine ⟨_, rfl, _, _, _, true, rfl, TyOf.lst hst, (by rfl), _, rfl, iteF ?_⟩
    refine ⟨_, rfl, st, _, rfl, .inl (SqL.of hst), _, _, rfl, rfl, _, rfl, ?_⟩
    rw [las]
    by_cases h1 : 1 ≤ es.length
    case neg =>
      have e0 : swB rs first es = false := by unfold swB; rw [decide_eq_false fun h => h1 h.1]; rfl
      rw [decide_eq_false (show ¬ (1 : Int) ≤ ((es.length : Nat) : Int) by omega)]
      have kk := k H (Same.refl _)
      rw [e0] at kk
      exact iteF ⟨_, rfl, iteT kk⟩
    rw [decide_eq_true (show (1 : Int) ≤ ((es.length : Nat) : Int) by omega)]
    refine iteT ⟨_, _, rfl, rfl, _, _, rfl, rfl, _, rfl, ?_⟩
    refine ite2 (fun h => ?_) (fun h => ?_)
    · have h2 : ¬ es.length ≤ 301 := fun z => by
        have h' : (!decide (((es.length : Nat) : Int) ≤ 300 + 1)) = true := h
        rw [decide_eq_true (by omega)] at h'
        cases h'
      have e0 : swB rs first es = false := by unfold swB; rw [decide_eq_false fun h => h2 h.2]; rfl
      have kk := k H (Same.refl _)
      rw [e0] at kk
      exact kk
    have h2 : es.length ≤ 301 := by
      have h' : ¬ (!decide (((es.length : Nat) : Int) ≤ 300 + 1)) = true := h
      by_cases z : (((es.length : Nat) : Int) ≤ 300 + 1)
      · omega
      · rw [decide_eq_false z] at h'; exact absurd rfl h'
    have e1 : swB rs first es = wkB rs first es := by unfold swB; rw [decide_eq_true ⟨h1, h2⟩, Bool.true_and]
    rw [e1] at k
    refine ⟨_, rfl, t, _, _, _, rfl, rfl, SqT.of b1, atI_nat (j := 1) rfl, r, ps, kvw rs, rfl, b2, kvw_pairs b3, by rw [kvw_keys]; exact keys_nd hG.nd, by rw [List.length_map]; omega, fun dw ndw => ?_⟩
    have s1 : Same H (upd H dw (.dK (kvw rs))) := Same.add ndw
    have hd1 : upd H dw (.dK (kvw rs)) dw = some (.dK (kvw rs)) := upd_same
    revert s1 hd1
    generalize upd H dw (.dK (kvw rs)) = H1
    intro s1 hd1
    refine ⟨_, rfl, t, _, _, _, rfl, rfl, SqT.of (s1 _ _ b1), atI_nat (j := 0) rfl, ?_⟩
    refine ⟨_, rfl, st, rfl, ⟨_, SqL.of (s1 _ _ hst)⟩, ?_⟩
    refine for_by (sure_list (xs := us)) (fun i σ H2 => ∃ (x : List Nat) (er : List Elt) (v4 : Option V), σ = [some (.ref t), some (.ref st), some (.ref dw), some (tx x), v4] ∧ H2 = H1 ∧ es.drop i = er ∧ wkB rs first es = wkB rs x er ∧ (∀ c ∈ x, c ∈ ltr rs) ∧ x.length ≤ 12)
      ⟨first, es, _, rfl, rfl, rfl, rfl, hG.fin, hG.fl⟩ ?_ ?_ ?_
    · rintro i σ H2 hi ⟨x, er, v4, rfl, rfl, _⟩
      exact SqL.of (s1 _ _ hst)
    · rintro i v σ H2 hv ⟨x, er, v4, rfl, rfl, her, hwk, hx, hx12⟩
      have hi := (List.getElem?_eq_some_iff.mp hv).1
      obtain ⟨e, ee⟩ : ∃ e, es[i]? = some e := ⟨_, List.getElem?_eq_getElem (by omega)⟩
      have hd : es.drop i = e :: es.drop (i + 1) := by
        rw [List.drop_eq_getElem_cons (by omega)]
        congr 1
        exact Option.some.inj ((List.getElem?_eq_getElem (by omega)).symm.trans ee)
      rw [her] at hd
      subst hd
      have hel := (hE.keep s1).at_ i v e hv ee
      refine ⟨_, rfl, _, rfl, v, x, e, rfl, hel, by omega, _, rfl, ?_⟩
      cases ho : okE x e with
      | false =>
        have kk := k _ s1
        rw [hwk, wkB_no ho] at kk
        exact iteT kk
      | true =>
        obtain ⟨c, j, rfl, ec⟩ := okE_good ho
        obtain ⟨a, rfl, ha, _⟩ := hel
        have hc := hx c (List.mem_of_getElem? ec)
        have hgw := DGet.k (k := (Sum.inr (one c) : Key)) hd1
        rw [kvw_wd hG.nd hc] at hgw
        refine iteF ⟨_, rfl, _, rfl, a, _, _, _, rfl, rfl, SqT.of ha, atI_nat (j := 0) rfl, dw, _, rfl, hgw, wd rs c, _, _, rfl, rfl, rfl, ?_, wd_in hG hc, Nat.le_trans (wd_le hG hc) (by decide)⟩
        rw [hwk]
        show (okE x (.good c (j : Int)) && wkB rs (wd rs c) (es.drop (i + 1))) = _
        rw [ho]
        rfl
    · rintro σ H2 ⟨x, er, v4, rfl, rfl, her, hwk, _⟩
      rw [las, List.drop_of_length_le (Nat.le_refl _)] at her
      subst her
      have kk := k _ s1
      rw [hwk] at kk
      exact kk
end
end Lw
namespace Lw
open PySem L2 PyProof.Rows
def ahE (rs : List Rule) (g : Nat → Nat → Nat) : List Nat → List Elt → Nat
  | _, [] => 0
  | x, .good c j :: es => ((x.take j.toNat).map (g es.length)).sum + ahE rs g (wd rs c) es
  | _, .bad :: _ => 0
def wkV (rs : List Rule) (g : Nat → Nat → Nat) (first : List Nat) (es : List Elt) : Int := if swB rs first es = true then ((ahE rs g first es : Nat) : Int) else -1
theorem els_way {K : PySem.W.Frag} {H : Hp} {rs : List Rule} : ∀ {es : List Elt} {x : List Nat} {us : List V}, wkB rs x es = true → ElsAt K H us es → ∃ (as : List Addr) (W : List (Nat × Nat)), us = as.map V.ref ∧ StepsAt H as W ∧ Way rs x W ∧ W.length = es.length ∧ ∀ g, ahd rs g x W = ahE rs g x es
  | [], x, us, _, h => by
    have : us = [] := List.eq_nil_of_length_eq_zero h.len
    exact ⟨[], [], this, ⟨rfl, fun i a p e => by simp at e⟩, trivial, rfl, fun _ => rfl⟩
  | .bad :: es, x, us, hw, h => by cases hw
  | .good c j :: es, x, [], hw, h => by have := h.len; cases this
  | .good c j :: es, x, v :: us, hw, h => by
    have hw' : (okE x (.good c j) && wkB rs (wd rs c) es) = true := hw
    obtain ⟨h1, h2⟩ := (Bool.and_eq_true _ _).mp hw'
    obtain ⟨c', i, e, ec⟩ := okE_good h1
    injection e with e1 e2
    subst e1
    subst e2
    obtain ⟨a, rfl, ha, _⟩ := h.at_ 0 v _ rfl rfl
    obtain ⟨as, W, q1, q2, q3, q4, q5⟩ := els_way h2 ⟨Nat.succ.inj h.len, fun n v e a b => h.at_ (n + 1) v e a b⟩
    refine ⟨a :: as, (c, i) :: W, by rw [List.map_cons, q1], ⟨by rw [List.length_cons, List.length_cons, q2.len], fun n a' p e1 e2 => ?_⟩, ⟨ec, q3⟩, by rw [List.length_cons, List.length_cons, q4], fun g => ?_⟩
    · rcases n with _ | n
      · cases e1
        cases e2
        exact ha
      · exact q2.at_ n a' p e1 e2
    · show ((x.take i).map (g W.length)).sum + ahd rs g (wd rs c) W = ((x.take (i : Int).toNat).map (g es.length)).sum + ahE rs g (wd rs c) es
      rw [q4, q5, Int.toNat_natCast]
section
variable {P : Program} {w : World} {K : PySem.W.Frag} {mg : Str → Option Value} {base : Heap}
def spPloX (K : PySem.W.Frag) (cW : Addr) : Sp := fun vs H Q E => ∃ (t : Addr) (tv : V) (first : List Nat) (rs : List Rule), vs = [.ref t, tv] ∧ BookAt H t first rs ∧ Good first rs ∧ ((NoLst K H tv ∧ E (.ref cW) none H) ∨
  ∃ (st : Addr) (us : List V) (es : List Elt), tv = .ref st ∧ H st = some (.lst us) ∧ ElsAt K H us es ∧ ((swB rs first es = false ∧ ∀ H', Same H H' → E (.ref cW) none H') ∨
    ∃ (as : List Addr) (n : Nat) (W : List (Nat × Nat)), swB rs first es = true ∧ us = as.map V.ref ∧ StepsAt H as W ∧ Way rs first W ∧ W.length = n + 1 ∧ n ≤ 300 ∧ ∀ H', Same H H' → Q (.int ((ahd rs (szG rs) first W : Nat) : Int)) H'))
theorem scPlo : FnScope ["book", "way", "age"] ["book", "way"] (defScope sPlo) := ⟨rfl, rfl, rfl, by decide +kernel, rfl, by decide +kernel, by decide +kernel⟩
theorem ok_plox {f fWah fIsw fWba fLns : Addr} {fd fdWah fdIsw fdWba fdLns : FuncData} (F : Fun K "place_of" "place_of" sPlo f fd)
    (GWah : FnOk P w K mg base CX0 2 fWah fdWah ["first", "words", "steps", "sums"] (spWah K))
    (gWah : Gf K mg "worth_ahead" fWah fdWah ["first", "words", "steps", "sums"])
    (GIsw : FnOk P w K mg base CX0 4 fIsw fdIsw ["book", "thing"] (spIsw K))
    (gIsw : Gf K mg "is_way" fIsw fdIsw ["book", "thing"])
    (GWba : FnOk P w K mg base CX0 1 fWba fdWba ["book", "age"] spWba)
    (gWba : Gf K mg "words_by_age" fWba fdWba ["book", "age"])
    (GLns : FnOk P w K mg base CX0 4 fLns fdLns ["book", "age"] spLns)
    (gLns : Gf K mg "length_sums" fLns fdLns ["book", "age"])
    {fWay : Addr} (vWay : mg "way" = some (.ref fWay))
    {cNoWay : Addr} (oNoWay : OwnCls "NoWay" cNoWay bmV "ValueError.__new__" mg base)
    (hlen : mg "len" = none)
    : FnOk P w K mg base (CX1 P w) 5 f fd ["book", "way"] (spPloX K cNoWay) := by
  refine F.ok1 scPlo (fun vs H Q E h => ?_) (fun cdv A outer s H vs Q E hr h => ?_)
  · obtain ⟨t, tv, first, rs, rfl, _⟩ := h
    rfl
  · obtain ⟨t, tv, first, rs, rfl, hB, hG, k⟩ := h
    have hr1 : Room 1 _ := hr.mono (by decide)
    have hr2 : Room 2 _ := hr.mono (by decide)
    refine ⟨_, (pss_cons (ps_if (pt_not (pt_val (pe_call GIsw hr rfl gIsw.m gIsw.k gIsw.b .nil pass0 (pa_cons (pv 0) (pa_cons (pv 1) pa_nil))))) (pss_one (ps_raise oNoWay PySem.F.excBase_ValueError rfl (pa_cons pe_str pa_nil))) pss_nil)
      (pss_cons (ps_set (i := 2) scPlo.nd rfl (Or.inl rfl) (pe_op op_sub (pe_callB (call_lenK K) (by rfl) hlen PySem.boot_len (pa_cons (pv 1) pa_nil)) pe_int))
      (pss_one (ps_ret (pe_call GWah hr2 rfl gWah.m gWah.k gWah.b .nil pass0 (pa_cons (pe_ix (ix_tupK K) (pv 0) pe_int (fun _ _ => rfl)) (pa_cons (pe_call GWba hr1 rfl gWba.m gWba.k gWba.b .nil pass0 (pa_cons (pv 0) (pa_cons (pv 2) pa_nil))) (pa_cons (pv 1) (pa_cons (pe_call GLns hr rfl gLns.m gLns.k gLns.b .nil pass0 (pa_cons (pv 0) (pa_cons (pv 2) pa_nil))) pa_nil))))))))), ?_⟩
    rcases k with ⟨hz, k⟩ | ⟨st, us, es, rfl, hst, hE, ⟨hs, k⟩ | ⟨as, n, W, hs, rfl, hS, hW, hWl, hn, k⟩⟩
    · exact ⟨_, rfl, _, rfl, t, tv, first, rs, rfl, hB, hG, .inl ⟨hz, _, rfl, iteT ⟨by decide, k⟩⟩⟩
    · refine ⟨_, rfl, _, rfl, t, _, first, rs, rfl, hB, hG, .inr ⟨st, us, es, rfl, hst, hE, fun H1 s1 => ?_⟩⟩
      rw [hs]
      exact ⟨_, rfl, iteT ⟨by decide, k H1 s1⟩⟩
    obtain ⟨r, ps, b1, b2, b3⟩ := hB.ex
    have las : (as.map V.ref).length = n + 1 := by rw [List.length_map, hS.len, hWl]
    refine ⟨_, rfl, _, rfl, t, _, first, rs, rfl, hB, hG, .inr ⟨st, _, es, rfl, hst, hE, fun H1 s1 => ?_⟩⟩
    rw [hs]
    refine ⟨_, rfl, iteF ?_⟩
    have hst1 := s1 _ _ hst
    refine ⟨_, rfl, st, _, rfl, .inl (SqL.of hst1), _, _, rfl, rfl, ?_⟩
    have en : (((as.map V.ref).length : Nat) : Int) - 1 = (n : Int) := by rw [las]; omega
    have e2 : [V.ref t, V.int ((((as.map V.ref).length : Nat) : Int) - 1)] = [V.ref t, V.int (n : Int)] := by rw [en]
    refine ⟨_, rfl, t, _, _, _, rfl, rfl, SqT.of (s1 _ _ b1), atI_nat (j := 0) rfl, _, rfl, _, rfl, t, first, rs, n, e2, hB.mono (TupS.same s1), hG, by omega, fun lw dw H2 s2 n1 nw e1 ew => ?_⟩
    have s12 := s1.trans s2
    refine ⟨_, rfl, _, rfl, _, rfl, t, first, rs, n, e2, hB.mono (TupS.same s12), hG, by omega, fun lo los H3 s3 nlo _ hD3 => ?_⟩
    refine ⟨lw, lo, dw, st, los, as, first, rs, lenN rs.length (tabI rs), szG rs, n, W, rfl, hG, by omega, s3 _ _ e1, s3 _ _ ew, hD3, fam_len hG, s3 _ _ (s2 _ _ hst1), hS.mono (TupS.same (s12.trans s3)), by omega, hW, fun H4 s4 => ?_⟩
    rw [List.take_of_length_le (by omega)]
    exact k H4 (s12.trans (s3.trans s4))
end
end Lw
namespace Lw
open PySem L2 PyProof.Rows
section
variable {P : Program} {w : World} {K : PySem.W.Frag} {mg : Str → Option Value} {base : Heap}
def spRfl (K : PySem.W.Frag) (cW : Addr) : Sp := fun vs H Q _ => ∃ (e C : Addr), vs = [.ref e] ∧ H e = some (excO e C) ∧ ((C = cW ∧ ∀ H', Same H H' → Q (.str (Str.ofString "way")) H'))
theorem scRfl : FnScope ["_law_error", "_law_some"] ["_law_error"] (defScope sRfl) := ⟨rfl, rfl, rfl, by decide +kernel, rfl, by decide +kernel, by decide +kernel⟩
theorem ok_rfl {f : Addr} {fd : FuncData} (F : Fun K "_law_refusal" "_law_refusal" sRfl f fd)
    {cNoBook : Addr} (hNoBook : mg "NoBook" = some (.ref cNoBook)) (eNoBook : ClsK K cNoBook)
    {cNoAge : Addr} (hNoAge : mg "NoAge" = some (.ref cNoAge)) (eNoAge : ClsK K cNoAge)
    {cNoLetter : Addr} (hNoLetter : mg "NoLetter" = some (.ref cNoLetter)) (eNoLetter : ClsK K cNoLetter)
    {cNoNumber : Addr} (hNoNumber : mg "NoNumber" = some (.ref cNoNumber)) (eNoNumber : ClsK K cNoNumber)
    {cNoPlace : Addr} (hNoPlace : mg "NoPlace" = some (.ref cNoPlace)) (eNoPlace : ClsK K cNoPlace)
    {cNoWay : Addr} (hNoWay : mg "NoWay" = some (.ref cNoWay)) (eNoWay : ClsK K cNoWay)
    {cNoGroups : Addr} (hNoGroups : mg "NoGroups" = some (.ref cNoGroups)) (eNoGroups : ClsK K cNoGroups)
    {cNoWord : Addr} (hNoWord : mg "NoWord" = some (.ref cNoWord)) (eNoWord : ClsK K cNoWord)
    {cNoTurn : Addr} (hNoTurn : mg "NoTurn" = some (.ref cNoTurn)) (eNoTurn : ClsK K cNoTurn)
    {cNoMark : Addr} (hNoMark : mg "NoMark" = some (.ref cNoMark)) (eNoMark : ClsK K cNoMark)
    {cNoText : Addr} (hNoText : mg "NoText" = some (.ref cNoText)) (eNoText : ClsK K cNoText)
    {cNoRow : Addr} (hNoRow : mg "NoRow" = some (.ref cNoRow)) (eNoRow : ClsK K cNoRow)
    {cTooLong : Addr} (hTooLong : mg "TooLong" = some (.ref cTooLong)) (eTooLong : ClsK K cTooLong)
    {cTooMany : Addr} (hTooMany : mg "TooMany" = some (.ref cTooMany)) (eTooMany : ClsK K cTooMany)
    {cNotKept : Addr} (hNotKept : mg "NotKept" = some (.ref cNotKept)) (eNotKept : ClsK K cNotKept)
    {cTooFar : Addr} (hTooFar : mg "TooFar" = some (.ref cTooFar)) (eTooFar : ClsK K cTooFar)
    {cNoName : Addr} (hNoName : mg "NoName" = some (.ref cNoName)) (eNoName : ClsK K cNoName)
    (hW1 : PySem.W.mroIn K cNoWay (.ref cNoBook) = some false)
    (hW2 : PySem.W.mroIn K cNoWay (.ref cNoAge) = some false)
    (hW3 : PySem.W.mroIn K cNoWay (.ref cNoLetter) = some false)
    (hW4 : PySem.W.mroIn K cNoWay (.ref cNoNumber) = some false)
    (hW5 : PySem.W.mroIn K cNoWay (.ref cNoPlace) = some false)
    (hW6 : PySem.W.mroIn K cNoWay (.ref cNoWay) = some true)
    (hW7 : PySem.W.mroIn K cNoWay (.ref cNoGroups) = some false)
    (hW8 : PySem.W.mroIn K cNoWay (.ref cNoWord) = some false)
    (hW9 : PySem.W.mroIn K cNoWay (.ref cNoTurn) = some false)
    (hW10 : PySem.W.mroIn K cNoWay (.ref cNoMark) = some false)
    (hW11 : PySem.W.mroIn K cNoWay (.ref cNoText) = some false)
    (hW12 : PySem.W.mroIn K cNoWay (.ref cNoRow) = some false)
    (hW13 : PySem.W.mroIn K cNoWay (.ref cTooLong) = some false)
    (hW14 : PySem.W.mroIn K cNoWay (.ref cTooMany) = some false)
    (hW15 : PySem.W.mroIn K cNoWay (.ref cNotKept) = some false)
    (hW16 : PySem.W.mroIn K cNoWay (.ref cTooFar) = some false)
    (hW17 : PySem.W.mroIn K cNoWay (.ref cNoName) = some false)
    (xW : ExcK K cNoWay)
    (hWV : PySem.W.mroIn K cNoWay (.type "ValueError") = some true)
    (hisinstance : mg "isinstance" = none)
    (hValueError : mg "ValueError" = none)
    : FnOk P w K mg base CX0 1 f fd ["_law_error"] (spRfl K cNoWay) := by
  refine F.ok scRfl (fun vs H Q E h => ?_) (fun cdv A outer s H vs Q E hr h => ?_)
  · obtain ⟨e, C, rfl, _⟩ := h
    rfl
  · obtain ⟨e, C, rfl, he, k⟩ := h
    refine ⟨_, (pss_cons (ps_set (i := 1) scRfl.nd rfl (Or.inl rfl) (pe_lst (pa_cons (pe_callB (call_isExcK K PySem.F.attr_ValueError) (by rfl) hisinstance (show bootBuiltins "isinstance" = some (.builtin "isinstance") by decide +kernel) (pa_cons (pv 0) (pa_cons (pe_glob (v := .ref cNoAge) (by rfl) hNoAge rfl) pa_nil))) (pa_cons (pe_callB (call_isExcK K PySem.F.attr_ValueError) (by rfl) hisinstance (show bootBuiltins "isinstance" = some (.builtin "isinstance") by decide +kernel) (pa_cons (pv 0) (pa_cons (pe_glob (v := .ref cNoPlace) (by rfl) hNoPlace rfl) pa_nil))) (pa_cons (pe_callB (call_isExcK K PySem.F.attr_ValueError) (by rfl) hisinstance (show bootBuiltins "isinstance" = some (.builtin "isinstance") by decide +kernel) (pa_cons (pv 0) (pa_cons (pe_glob (v := .ref cNoNumber) (by rfl) hNoNumber rfl) pa_nil))) pa_nil)))))
      (pss_cons (ps_set (i := 1) scRfl.nd rfl (Or.inl rfl) (pe_op op_cat (pv 1) (pe_lst (pa_cons (pe_callB (call_isExcK K PySem.F.attr_ValueError) (by rfl) hisinstance (show bootBuiltins "isinstance" = some (.builtin "isinstance") by decide +kernel) (pa_cons (pv 0) (pa_cons (pe_glob (v := .ref cNoLetter) (by rfl) hNoLetter rfl) pa_nil))) (pa_cons (pe_callB (call_isExcK K PySem.F.attr_ValueError) (by rfl) hisinstance (show bootBuiltins "isinstance" = some (.builtin "isinstance") by decide +kernel) (pa_cons (pv 0) (pa_cons (pe_glob (v := .ref cNoWay) (by rfl) hNoWay rfl) pa_nil))) pa_nil)))))
      (pss_cons (ps_set (i := 1) scRfl.nd rfl (Or.inl rfl) (pe_op op_cat (pv 1) (pe_lst (pa_cons (pe_callB (call_isExcTK K PySem.F.attr_ValueError) (by rfl) hisinstance (show bootBuiltins "isinstance" = some (.builtin "isinstance") by decide +kernel) (pa_cons (pv 0) (pa_cons (pe_tup (pa_cons (pe_glob (v := .ref cNoBook) (by rfl) hNoBook rfl) (pa_cons (pe_glob (v := .ref cNoGroups) (by rfl) hNoGroups rfl) (pa_cons (pe_glob (v := .ref cNoWord) (by rfl) hNoWord rfl) (pa_cons (pe_glob (v := .ref cNoTurn) (by rfl) hNoTurn rfl) (pa_cons (pe_glob (v := .ref cNoMark) (by rfl) hNoMark rfl) (pa_cons (pe_glob (v := .ref cNoText) (by rfl) hNoText rfl) (pa_cons (pe_glob (v := .ref cNoRow) (by rfl) hNoRow rfl) (pa_cons (pe_glob (v := .ref cNoName) (by rfl) hNoName rfl) (pa_cons (pe_glob (v := .ref cTooLong) (by rfl) hTooLong rfl) pa_nil)))))))))) pa_nil))) pa_nil))))
      (pss_cons (ps_set (i := 1) scRfl.nd rfl (Or.inl rfl) (pe_op op_cat (pv 1) (pe_lst (pa_cons (pe_callB (call_isExcTK K PySem.F.attr_ValueError) (by rfl) hisinstance (show bootBuiltins "isinstance" = some (.builtin "isinstance") by decide +kernel) (pa_cons (pv 0) (pa_cons (pe_tup (pa_cons (pe_glob (v := .ref cTooMany) (by rfl) hTooMany rfl) (pa_cons (pe_glob (v := .ref cNotKept) (by rfl) hNotKept rfl) (pa_cons (pe_glob (v := .ref cTooFar) (by rfl) hTooFar rfl) pa_nil)))) pa_nil))) pa_nil))))
      (pss_cons (ps_if (PW.pt (pw_or (pt_cmpR op_ne (pe_bmK K PySem.F.plainAttrs_list PySem.F.slot_list_count PySem.F.type_list_count (mt_cntB K) (pv 1) (pa_cons pe_bl pa_nil)) pe_int (nomark _)) (pw_or1 (pt_not (pt_val (pe_callB (call_isExcK K PySem.F.attr_ValueError) (by rfl) hisinstance (show bootBuiltins "isinstance" = some (.builtin "isinstance") by decide +kernel) (pa_cons (pv 0) (pa_cons (pe_bltn (v := .ty "ValueError") (by rfl) hValueError (show bootBuiltins "ValueError" = some (.type "ValueError") by decide +kernel) rfl) pa_nil)))))))) (pss_one (ps_ret pe_str)) pss_nil)
      (pss_one (ps_ret (pe_ix (ix_listK K) (pe_lst (pa_cons pe_str (pa_cons pe_str (pa_cons pe_str (pa_cons pe_str (pa_cons pe_str (pa_cons pe_str (pa_cons pe_str pa_nil)))))))) (pe_bmK K PySem.F.plainAttrs_list PySem.F.slot_list_index PySem.F.type_list_index (mt_idxB K) (pv 1) (pa_cons pe_bl pa_nil)) (fun _ _ => rfl))))))))), ?_⟩
    have neW : ∀ {D : Addr}, PySem.W.mroIn K cNoWay (.ref D) = some false → cNoWay ≠ D := fun h z => by subst z; rw [hW6] at h; cases h
    rcases k with ⟨hC, k⟩
    · rw [hC] at he
      refine ⟨_, rfl, e, cNoWay, .ref cNoAge, false, rfl, he, xW, .inl ⟨cNoAge, rfl, eNoAge.cls, eNoAge.ty, hW2, fun z => absurd z (neW hW2)⟩, _, rfl, e, cNoWay, .ref cNoPlace, false, rfl, he, xW, .inl ⟨cNoPlace, rfl, eNoPlace.cls, eNoPlace.ty, hW5, fun z => absurd z (neW hW5)⟩, _, rfl, e, cNoWay, .ref cNoNumber, false, rfl, he, xW, .inl ⟨cNoNumber, rfl, eNoNumber.cls, eNoNumber.ty, hW4, fun z => absurd z (neW hW4)⟩, (by show 3 ≤ sizeLine; decide), fun L1 n1 => ?_⟩
      have s1 := Same.add (o := .lst [V.bl false, V.bl false, V.bl false]) n1
      have h1 : upd H L1 (.lst [V.bl false, V.bl false, V.bl false]) L1 = some (.lst [V.bl false, V.bl false, V.bl false]) := upd_same
      have he1 := s1 _ _ he
      revert s1 h1 he1
      generalize upd H L1 (.lst [V.bl false, V.bl false, V.bl false]) = H1
      intro s1 h1 he1
      refine ⟨_, rfl, _, rfl, e, cNoWay, .ref cNoLetter, false, rfl, he1, xW, .inl ⟨cNoLetter, rfl, eNoLetter.cls, eNoLetter.ty, hW3, fun z => absurd z (neW hW3)⟩, _, rfl, e, cNoWay, .ref cNoWay, true, rfl, he1, xW, .inl ⟨cNoWay, rfl, eNoWay.cls, eNoWay.ty, hW6, fun _ => rfl⟩, (by show 2 ≤ sizeLine; decide), fun L2 n2 => ?_⟩
      have s2 := s1.trans (Same.add (o := .lst [V.bl false, V.bl true]) n2)
      have h2 : upd H1 L2 (.lst [V.bl false, V.bl true]) L2 = some (.lst [V.bl false, V.bl true]) := upd_same
      have h12 := Same.add (o := .lst [V.bl false, V.bl true]) n2 _ _ h1
      have he2 := Same.add (o := .lst [V.bl false, V.bl true]) n2 _ _ he1
      revert s2 h2 h12 he2
      generalize upd H1 L2 (.lst [V.bl false, V.bl true]) = H2
      intro s2 h2 h12 he2
      refine ⟨L1, L2, _, _, rfl, rfl, h12, h2, (by show 5 ≤ sizeLine; decide), fun L3 n3 => ?_⟩
      have s3 := s2.trans (Same.add (o := .lst ([V.bl false, V.bl false, V.bl false] ++ [V.bl false, V.bl true])) n3)
      have h3 : upd H2 L3 (.lst ([V.bl false, V.bl false, V.bl false] ++ [V.bl false, V.bl true])) L3 = some (.lst [V.bl false, V.bl false, V.bl false, V.bl false, V.bl true]) := upd_same
      have he3 := Same.add (o := .lst ([V.bl false, V.bl false, V.bl false] ++ [V.bl false, V.bl true])) n3 _ _ he2
      revert s3 h3 he3
      generalize upd H2 L3 (.lst ([V.bl false, V.bl false, V.bl false] ++ [V.bl false, V.bl true])) = H3
      intro s3 h3 he3
      refine ⟨_, rfl, _, rfl, (by show 9 ≤ sizeLine; decide), fun T6 nT6 => ?_⟩
      have sT6 := Same.add (o := .tup [V.ref cNoBook, V.ref cNoGroups, V.ref cNoWord, V.ref cNoTurn, V.ref cNoMark, V.ref cNoText, V.ref cNoRow, V.ref cNoName, V.ref cTooLong]) nT6
      refine ⟨e, T6, cNoWay, [cNoBook, cNoGroups, cNoWord, cNoTurn, cNoMark, cNoText, cNoRow, cNoName, cTooLong], false, rfl, sT6 _ _ he3, xW, upd_same, kit_none fun C hC => ?_, (by show 1 ≤ sizeLine; decide), fun M6 nM6 => ?_⟩
      · simp only [List.mem_cons, List.not_mem_nil, or_false] at hC
        rcases hC with rfl | rfl | rfl | rfl | rfl | rfl | rfl | rfl | rfl
        · exact ⟨neW hW1, eNoBook.cls, eNoBook.ty, hW1⟩
        · exact ⟨neW hW7, eNoGroups.cls, eNoGroups.ty, hW7⟩
        · exact ⟨neW hW8, eNoWord.cls, eNoWord.ty, hW8⟩
        · exact ⟨neW hW9, eNoTurn.cls, eNoTurn.ty, hW9⟩
        · exact ⟨neW hW10, eNoMark.cls, eNoMark.ty, hW10⟩
        · exact ⟨neW hW11, eNoText.cls, eNoText.ty, hW11⟩
        · exact ⟨neW hW12, eNoRow.cls, eNoRow.ty, hW12⟩
        · exact ⟨neW hW17, eNoName.cls, eNoName.ty, hW17⟩
        · exact ⟨neW hW13, eTooLong.cls, eTooLong.ty, hW13⟩
      have sM6 := sT6.trans (Same.add (o := .lst [V.bl false]) nM6)
      have hM6 : upd (upd H3 T6 (.tup [V.ref cNoBook, V.ref cNoGroups, V.ref cNoWord, V.ref cNoTurn, V.ref cNoMark, V.ref cNoText, V.ref cNoRow, V.ref cNoName, V.ref cTooLong])) M6 (.lst [V.bl false]) M6 = some (.lst [V.bl false]) := upd_same
      have hh6 := sM6 _ _ h3
      have hee6 := sM6 _ _ he3
      have ss6 := s3.trans sM6
      revert hM6 hh6 hee6 ss6
      generalize upd (upd H3 T6 (.tup [V.ref cNoBook, V.ref cNoGroups, V.ref cNoWord, V.ref cNoTurn, V.ref cNoMark, V.ref cNoText, V.ref cNoRow, V.ref cNoName, V.ref cTooLong])) M6 (.lst [V.bl false]) = G6
      intro hM6 hh6 hee6 ss6
      refine ⟨L3, M6, _, _, rfl, rfl, hh6, hM6, (by show 6 ≤ sizeLine; decide), fun N6 nN6 => ?_⟩
      have sN6 := ss6.trans (Same.add (o := .lst ([V.bl false, V.bl false, V.bl false, V.bl false, V.bl true] ++ [V.bl false])) nN6)
      have hN6 : upd G6 N6 (.lst ([V.bl false, V.bl false, V.bl false, V.bl false, V.bl true] ++ [V.bl false])) N6 = some (.lst [V.bl false, V.bl false, V.bl false, V.bl false, V.bl true, V.bl false]) := upd_same
      have heN6 := Same.add (o := .lst ([V.bl false, V.bl false, V.bl false, V.bl false, V.bl true] ++ [V.bl false])) nN6 _ _ hee6
      revert sN6 hN6 heN6
      generalize upd G6 N6 (.lst ([V.bl false, V.bl false, V.bl false, V.bl false, V.bl true] ++ [V.bl false])) = F6
      intro sN6 hN6 heN6
      refine ⟨_, rfl, _, rfl, (by show 3 ≤ sizeLine; decide), fun T7 nT7 => ?_⟩
      have sT7 := Same.add (o := .tup [V.ref cTooMany, V.ref cNotKept, V.ref cTooFar]) nT7
      refine ⟨e, T7, cNoWay, [cTooMany, cNotKept, cTooFar], false, rfl, sT7 _ _ heN6, xW, upd_same, kit_none fun C hC => ?_, (by show 1 ≤ sizeLine; decide), fun M7 nM7 => ?_⟩
      · simp only [List.mem_cons, List.not_mem_nil, or_false] at hC
        rcases hC with rfl | rfl | rfl
        · exact ⟨neW hW14, eTooMany.cls, eTooMany.ty, hW14⟩
        · exact ⟨neW hW15, eNotKept.cls, eNotKept.ty, hW15⟩
        · exact ⟨neW hW16, eTooFar.cls, eTooFar.ty, hW16⟩
      have sM7 := sT7.trans (Same.add (o := .lst [V.bl false]) nM7)
      have hM7 : upd (upd F6 T7 (.tup [V.ref cTooMany, V.ref cNotKept, V.ref cTooFar])) M7 (.lst [V.bl false]) M7 = some (.lst [V.bl false]) := upd_same
      have hh7 := sM7 _ _ hN6
      have hee7 := sM7 _ _ heN6
      have ss7 := sN6.trans sM7
      revert hM7 hh7 hee7 ss7
      generalize upd (upd F6 T7 (.tup [V.ref cTooMany, V.ref cNotKept, V.ref cTooFar])) M7 (.lst [V.bl false]) = G7
      intro hM7 hh7 hee7 ss7
      refine ⟨N6, M7, _, _, rfl, rfl, hh7, hM7, (by show 7 ≤ sizeLine; decide), fun N7 nN7 => ?_⟩
      have sN7 := ss7.trans (Same.add (o := .lst ([V.bl false, V.bl false, V.bl false, V.bl false, V.bl true, V.bl false] ++ [V.bl false])) nN7)
      have hN7 : upd G7 N7 (.lst ([V.bl false, V.bl false, V.bl false, V.bl false, V.bl true, V.bl false] ++ [V.bl false])) N7 = some (.lst [V.bl false, V.bl false, V.bl false, V.bl false, V.bl true, V.bl false, V.bl false]) := upd_same
      have heN7 := Same.add (o := .lst ([V.bl false, V.bl false, V.bl false, V.bl false, V.bl true, V.bl false] ++ [V.bl false])) nN7 _ _ hee7
      revert sN7 hN7 heN7
      generalize upd G7 N7 (.lst ([V.bl false, V.bl false, V.bl false, V.bl false, V.bl true, V.bl false] ++ [V.bl false])) = F7
      intro sN7 hN7 heN7
      refine ⟨_, rfl, .inl ⟨rfl, _, SqL.of hN7⟩, N7, [false, false, false, false, true, false, false], true, rfl, rfl, SqL.of hN7, rfl, _, rfl, iteNS (by rfl) ?_⟩
      refine ⟨_, rfl, e, cNoWay, .ty "ValueError", true, rfl, heN7, xW, .inr ⟨"ValueError", rfl, rfl, hWV⟩, _, rfl, iteF ?_⟩
      refine ⟨(by show 7 ≤ sizeLine; decide), fun W nW => ?_⟩
      have sW := Same.add (o := .lst [V.str (Str.ofString "age"), V.str (Str.ofString "place"), V.str (Str.ofString "number"), V.str (Str.ofString "letter"), V.str (Str.ofString "way"), V.str (Str.ofString "other"), V.str (Str.ofString "other")]) nW
      refine ⟨_, rfl, .inl ⟨rfl, _, SqL.of (sW _ _ hN7)⟩, N7, [false, false, false, false, true, false, false], true, 4, rfl, rfl, SqL.of (sW _ _ hN7), (by show 7 ≤ 1000; decide), rfl, ?_, W, _, _, _, rfl, rfl, SqL.of upd_same, atI_nat (j := 4) rfl, k _ (sN7.trans sW)⟩
      intro i hi
      have hi' : i = 0 ∨ i = 1 ∨ i = 2 ∨ i = 3 := by omega
      rcases hi' with rfl | rfl | rfl | rfl <;> exact fun z => by cases z
end
end Lw
namespace Lw
open PySem L2 PyProof.Rows
theorem sum_dict {K : PySem.W.Frag} {ix : List (Option Nat)} {σ τs : L2.St} {H : Hp} {Q : VK} {tl tg : TE} {d : Addr} {rs : List Rule} {ns : List Int} {x : List Nat} (e : cst ix σ = none :: τs) (hd : DictI H d rs ns) (ll : ns.length = (ltr rs).length) (hx : ∀ c ∈ x, c ∈ ltr rs) (hl : x.length ≤ 1000) (ht : ∀ R : VK, R (tx x) H → tl σ H R) (hg : ∀ (v : V) (R : VK), R (.ref d) H → tg (some v :: τs) H R)
    (k : ∀ H', Same H H' → Q (.int (x.map (lk (ltr rs) ns)).sum) H') :
    tCB (rSum K) (tCons (tComp ix (iStr tl) (gName 0) tAll (tDGet tg (tVar 0))) tNil) σ H Q := by
  refine ht _ ⟨⟨x.toArray⟩, rfl, ?_⟩
  rw [e]
  refine comp_all (Q := fun y Ha => rSum K [y] Ha Q) (τ0 := none :: τs) sure_str (by rw [List.length_map]; show x.length ≤ _; omega)
    (fun n us τ H6 => H6 = H ∧ (∃ v, τ = v :: τs) ∧ us = ((x.take n).map (lk (ltr rs) ns)).map V.int) ⟨rfl, ⟨_, rfl⟩, rfl⟩ ?_ ?_ ?_
  · rintro n us τ H6 hn ⟨rfl, _, rfl⟩
    refine ⟨trivial, ?_⟩
    rw [List.length_map, List.length_map, List.length_take]
    omega
  · rintro n y us τ H6 hy ⟨rfl, ⟨v, rfl⟩, rfl⟩
    have hy' : (x.map sign)[n]? = some y := hy
    rw [List.getElem?_map] at hy'
    cases e6 : x[n]? with
    | none => rw [e6] at hy'; cases hy'
    | some c =>
      rw [e6] at hy'
      cases hy'
      have hc := hx c (List.mem_of_getElem? e6)
      have hget := DGet.k (k := (Sum.inr (one c) : Key)) hd
      rw [dkI_val ll hc] at hget
      refine hg (sign c) _ ⟨_, rfl, d, _, rfl, hget, rfl, ⟨_, rfl⟩, ?_⟩
      rw [take_snoc (lk (ltr rs) ns) e6, List.map_append]
      rfl
  · rintro us τ H6 D ⟨rfl, _, rfl⟩ hD
    have ew : ((⟨x.toArray⟩ : Str).cps.toList.map sign).length = x.length := by simp
    rw [ew, take_all]
    exact ⟨D, _, rfl, SqL.of upd_same, k _ (Same.add hD)⟩
section
variable {P : Program} {w : World} {K : PySem.W.Frag} {mg : Str → Option Value} {base : Heap}
def spAge : Sp := fun vs H Q _ => ∃ (p : Addr) (b : Nat), vs = [.ref p] ∧ PenAt H p b ∧ b ≤ 800000 ∧ ∀ (n : Nat) H', n ≤ 300 → But p H H' → PenAt H' p (b + 2) → Q (.int (n : Int)) H'
theorem scAge : FnScope ["_law_pen_here", "_law_pick", "_law_few"] ["_law_pen_here"] (defScope sAge) := ⟨rfl, rfl, rfl, by decide +kernel, rfl, by decide +kernel, by decide +kernel⟩
theorem ok_age {f fTak : Addr} {fd fdTak : FuncData} (F : Fun K "_law_age" "_law_age" sAge f fd)
    (GTak : FnOk P w K mg base CX0 1 fTak fdTak ["_law_pen_here", "_law_size_here"] spTak)
    (gTak : Gf K mg "_law_take" fTak fdTak ["_law_pen_here", "_law_size_here"])
    : FnOk P w K mg base CX0 2 f fd ["_law_pen_here"] spAge := by
  refine F.ok scAge (fun vs H Q E h => ?_) (fun cdv A outer s H vs Q E hr h => ?_)
  · obtain ⟨p, b, rfl, _⟩ := h
    rfl
  · obtain ⟨p, b, rfl, hP, hb, k⟩ := h
    refine ⟨_, (pss_cons (ps_set (i := 1) scAge.nd rfl (Or.inl rfl) (pe_call GTak hr rfl gTak.m gTak.k gTak.b .nil pass0 (pa_cons (pv 0) (pa_cons pe_int pa_nil))))
      (pss_cons (ps_set (i := 2) scAge.nd rfl (Or.inl rfl) (pe_call GTak hr rfl gTak.m gTak.k gTak.b .nil pass0 (pa_cons (pv 0) (pa_cons pe_int pa_nil))))
      (pss_cons (ps_if (pt_cmpR op_eq (pv 1) pe_int (nomark _)) (pss_one (ps_ret (pe_op op_sub pe_int (pe_op op_mod (pv 2) pe_int)))) pss_nil)
      (pss_cons (ps_if (pt_cmpR op_eq (pv 1) pe_int (nomark _)) (pss_one (ps_ret (pe_op op_add pe_int (pe_op op_mul (pv 2) pe_int)))) pss_nil)
      (pss_one (ps_ret (pv 2))))))), ?_⟩
    refine ⟨_, rfl, p, b, 16, rfl, hP, by omega, by decide, by decide, fun z1 H1 z10 z11 hP1 e1 => ?_⟩
    refine ⟨_, rfl, p, _, 41, rfl, hP1, by omega, by decide, by decide, fun z2 H2 z20 z21 hP2 e2 => ?_⟩
    have bt : But p H H2 := fun c o h n => (e2 c n).trans ((e1 c n).trans h)
    have fin : ∀ z : Int, 0 ≤ z → z ≤ 300 → Q (.int z) H2 := fun z h0 h1 => by
      obtain ⟨n, rfl⟩ : ∃ n : Nat, z = (n : Int) := ⟨z.toNat, by omega⟩
      exact k n H2 (by omega) bt hP2
    refine ⟨_, rfl, rfl, _, rfl, ite2 (fun _ => ?_) (fun _ => ?_)⟩
    · exact ⟨_, rfl, _, _, rfl, rfl, (by show (0 : Int) < 4; decide), _, _, rfl, rfl, fin _ (by show (0 : Int) ≤ 300 - z2 % 4; omega) (by show 300 - z2 % 4 ≤ (300 : Int); omega)⟩
    · refine ⟨_, rfl, rfl, _, rfl, ite2 (fun _ => ?_) (fun _ => ?_)⟩
      · refine ⟨_, rfl, _, _, rfl, rfl, ?_, _, _, rfl, rfl, fin _ (by show (0 : Int) ≤ 41 + z2 * 6; omega) (by show 41 + z2 * 6 ≤ (300 : Int); omega)⟩
        exact .inr ⟨by decide, by decide⟩
      · exact ⟨_, rfl, fin _ z20 (by omega)⟩
def spWhl (K : PySem.W.Frag) : Sp := fun vs H Q _ => ∃ z : V, vs = [z] ∧ ((∃ n : Int, z = .int n ∧ Q (.bl true) H) ∨ (OddV K H z ∧ Q (.bl false) H))
theorem scWhl : FnScope ["_law_thing"] ["_law_thing"] (defScope sWhl) := ⟨rfl, rfl, rfl, by decide +kernel, rfl, by decide +kernel, by decide +kernel⟩
theorem ok_whl {f : Addr} {fd : FuncData} (F : Fun K "_law_whole" "_law_whole" sWhl f fd)
    (hint : mg "int" = none)
    (hisinstance : mg "isinstance" = none)
    (hbool : mg "bool" = none)
    : FnOk P w K mg base CX0 1 f fd ["_law_thing"] (spWhl K) := by
  refine F.ok scWhl (fun vs H Q E h => ?_) (fun cdv A outer s H vs Q E hr h => ?_)
  · obtain ⟨z, rfl, _⟩ := h
    rfl
  · obtain ⟨z, rfl, k⟩ := h
    refine ⟨_, (pss_one (ps_ret (pe_and (pe_callB (call_isinstK K) (by rfl) hisinstance (show bootBuiltins "isinstance" = some (.builtin "isinstance") by decide +kernel) (pa_cons (pv 0) (pa_cons (pe_bltn (v := .ty "int") (by rfl) hint (show bootBuiltins "int" = some (.type "int") by decide +kernel) rfl) pa_nil))) (pe_one (pe_not (pe_callB (call_isinstK K) (by rfl) hisinstance (show bootBuiltins "isinstance" = some (.builtin "isinstance") by decide +kernel) (pa_cons (pv 0) (pa_cons (pe_bltn (v := .ty "bool") (by rfl) hbool (show bootBuiltins "bool" = some (.type "bool") by decide +kernel) rfl) pa_nil)))))))), ?_⟩
    rcases k with ⟨n, rfl, k⟩ | ⟨⟨t, ty, ht⟩, k⟩
    · refine ⟨_, rfl, _, _, _, true, rfl, TyOf.int n, (by rfl), _, rfl, iteT ?_⟩
      exact ⟨_, rfl, _, _, _, false, rfl, TyOf.int n, (by rfl), _, rfl, k⟩
    · rcases ht with rfl | rfl | rfl | rfl | rfl
      · refine ⟨_, rfl, _, _, _, true, rfl, ty, (by rfl), _, rfl, iteT ?_⟩
        exact ⟨_, rfl, _, _, _, true, rfl, ty, (by rfl), _, rfl, k⟩
      · exact ⟨_, rfl, _, _, _, false, rfl, ty, (by rfl), _, rfl, iteF k⟩
      · exact ⟨_, rfl, _, _, _, false, rfl, ty, (by rfl), _, rfl, iteF k⟩
      · exact ⟨_, rfl, _, _, _, false, rfl, ty, (by rfl), _, rfl, iteF k⟩
      · exact ⟨_, rfl, _, _, _, false, rfl, ty, (by rfl), _, rfl, iteF k⟩
def spSzs (K : PySem.W.Frag) : Sp := fun vs H Q _ => ∃ (t : Addr) (first : List Nat) (rs : List Rule) (n : Nat), vs = [.ref t, .int (n : Int)] ∧ BookAt H t first rs ∧ Good first rs ∧ n ≤ 600 ∧
  ∀ l ls H', Same H H' → H l = none → DicsAt H' l ls rs (lenN rs.length (tabI rs)) (n + 1) → Q (.ref l) H'
theorem scSzs : FnScope ["_law_book_here", "_law_age_here", "_law_found", "_law_go", "_law_behind"] ["_law_book_here", "_law_age_here"] (defScope sSzs) := ⟨rfl, rfl, rfl, by decide +kernel, rfl, by decide +kernel, by decide +kernel⟩
theorem nd_szs1 : (["_law_letter", "_law_text_here"] : List Str).Nodup := by decide +kernel
theorem nd_szs2 : (["_law_letter", "_law_text_here", "_law_behind"] : List Str).Nodup := by decide +kernel
theorem nd_szs3 : (["_law_sign", "_law_behind"] : List Str).Nodup := by decide +kernel
theorem ok_szs {f : Addr} {fd : FuncData} (F : Fun K "_law_sizes" "_law_sizes" sSzs f fd)
    (hrange : mg "range" = none)
    (hsum : mg "sum" = none)
    (hdict : mg "dict" = none)
    : FnOk P w K mg base CX0 1 f fd ["_law_book_here", "_law_age_here"] (spSzs K) := by
  refine F.ok scSzs (fun vs H Q E h => ?_) (fun cdv A outer s H vs Q E hr h => ?_)
  · obtain ⟨t, first, rs, n, rfl, _⟩ := h
    rfl
  · obtain ⟨t, first, rs, n, rfl, hB, hG, hn, k⟩ := h
    have hu := hu_of hr
    refine ⟨_, (pss_cons (ps_set (i := 2) scSzs.nd rfl (Or.inl rfl) (pe_lst (pa_cons (pe_callTy (call_dict_pairsK K rfl hu) (by rfl) hdict (by first | exact PySem.boot_dict | decide +kernel) (pa_cons (pe_comp (N' := ["_law_letter", "_law_text_here"]) (ix := [none, none]) rfl rfl (pi_tupK K (pe_ix (ix_tupK K) (pv 0) pe_int (fun _ _ => rfl))) (fun _ _ _ _ _ _ => (pg_tupK K (n := 2) rfl (pgs_cons (pg_name (i := 0) nd_szs1 rfl (Or.inl rfl)) (pgs_cons (pg_name (i := 1) nd_szs1 rfl (Or.inl rfl)) pgs_nil)))) (fun _ _ _ _ _ _ => pts_nil) (fun _ _ _ _ _ _ => (pe_tup (pa_cons (pv 0) (pa_cons pe_int pa_nil))))) pa_nil)) pa_nil)))
      (pss_cons (ps_for PassesOwn.never rfl (pi_range1 rfl hrange (pa_cons (pv 1) pa_nil)) (pg_name (i := 3) scSzs.nd rfl (Or.inl rfl)) (pss_cons (ps_set (i := 4) scSzs.nd rfl (Or.inr rfl) (pe_ix (ix_listK K) (pv 2) (pv 3) (fun _ _ => rfl)))
      (pss_one (ps_expr (pe_bmK K PySem.F.plainAttrs_list PySem.F.slot_list_append PySem.F.type_list_append mt_append (pv 2) (pa_cons (pe_callTy (call_dict_pairsK K rfl hu) (by rfl) hdict (by first | exact PySem.boot_dict | decide +kernel) (pa_cons (pe_comp (N' := ["_law_letter", "_law_text_here", "_law_behind"]) (ix := [none, none, some 4]) rfl rfl (pi_tupK K (pe_ix (ix_tupK K) (pv 0) pe_int (fun _ _ => rfl))) (fun _ _ _ _ _ _ => (pg_tupK K (n := 2) rfl (pgs_cons (pg_name (i := 0) nd_szs2 rfl (Or.inl rfl)) (pgs_cons (pg_name (i := 1) nd_szs2 rfl (Or.inl rfl)) pgs_nil)))) (fun _ _ _ _ _ _ => pts_nil) (fun _ _ _ _ _ _ => (pe_tup (pa_cons (pv 0) (pa_cons (pe_callB (call_sumK2 K rfl) (by rfl) hsum (by first | exact PySem.boot_sum | decide +kernel) (pa_cons (pe_comp (N' := ["_law_sign", "_law_behind"]) (ix := [none, some 2]) rfl rfl (pi_str (pv 1)) (fun _ _ _ _ _ _ => (pg_name (i := 0) nd_szs3 rfl (Or.inl rfl))) (fun _ _ _ _ _ _ => pts_nil) (fun _ _ _ _ _ _ => (pe_dget hu (pv 1) (pv 0) (fun _ _ => rfl)))) pa_nil)) pa_nil))))) pa_nil)) pa_nil))))))
      (pss_one (ps_ret (pv 2))))), ?_⟩
    obtain ⟨r, ps, b1, b2, b3⟩ := hB.ex
    have hfew := hG.few
    have lr : (ltr rs).length = rs.length := by unfold ltr; rw [List.length_map]
    have ep : (ps.map V.ref).length = rs.length := by rw [List.length_map, b3.len]
    refine ⟨_, rfl, t, _, _, _, rfl, rfl, SqT.of b1, atI_nat (j := 1) rfl, r, rfl, ⟨_, SqT.of b2⟩, ?_⟩
    refine comp_allR (τ0 := [none, none]) (sure_tup (xs := ps.map V.ref)) (by rw [ep]; omega)
      (fun i ys τ H6 => Same H H6 ∧ (∃ v v', τ = [v, v']) ∧ ∃ ps' : List Addr, ys = ps'.map V.ref ∧ ps'.length = i ∧ PairsAt H6 ps' (dkI ((ltr rs).take i) (List.replicate i 1)))
      ⟨Same.refl _, ⟨_, _, rfl⟩, [], rfl, rfl, .nil⟩ ?_ ?_ ?_
    · rintro i ys τ H6 hi ⟨s6, _, ps', rfl, lp, _⟩
      exact ⟨SqT.of (s6 _ _ b2), by rw [List.length_map]; omega⟩
    · rintro i x ys τ H6 hx ⟨s6, ⟨v, v', rfl⟩, ps', rfl, lp, hP⟩
      rw [List.getElem?_map] at hx
      cases e1 : ps[i]? with
      | none => rw [e1] at hx; cases hx
      | some p =>
        rw [e1] at hx
        cases hx
        obtain ⟨c, w', d1, d2⟩ := b3.get e1
        refine ⟨p, _, rfl, SqT.of (s6 _ _ d2), rfl, _, _, rfl, _, _, rfl, rfl, ?_⟩
        refine ⟨_, rfl, (by show 2 ≤ sizeLine; decide), fun T hT => ?_⟩
        refine ⟨s6.trans (Same.add hT), ⟨_, _, rfl⟩, ps' ++ [T], by rw [List.map_append]; rfl, by rw [List.length_append, lp]; rfl, ?_⟩
        have hi := (List.getElem?_eq_some_iff.mp d1).1
        have h1 : (ltr rs)[i]? = some c := by unfold ltr; rw [List.getElem?_map, d1]; rfl
        rw [List.take_add_one, h1, List.replicate_succ']
        show PairsAt _ _ (dkI (_ ++ [c]) _)
        rw [← dkI_snoc (by rw [List.length_replicate, List.length_take]; omega)]
        refine pairs_snoc ?_ (pairs_mono (TupS.same (Same.add hT)) hP)
        rw [upd_same]
        rfl
    · rintro ys τ H6 D0 ⟨s6, _, ps', rfl, lp, hP⟩ hD0
      rw [ep] at hP
      rw [List.take_of_length_le (by omega)] at hP
      have ll : (List.replicate rs.length (1 : Int)).length = (ltr rs).length := by rw [List.length_replicate, lr]
      have sD0 := Same.add (o := .lst (ps'.map V.ref)) hD0
      refine ⟨D0, ps', _, rfl, SqL.of upd_same, pairs_mono (TupS.same sD0) hP, by rw [dkI_keys ll]; exact keys_nd hG.nd, by rw [dkI_len ll, lr]; omega, fun dn hdn => ?_⟩
      have sN := s6.trans (sD0.trans (Same.add (o := .dK (dkI (ltr rs) (List.replicate rs.length 1))) hdn))
      have hdd : upd (upd H6 D0 (.lst (ps'.map V.ref))) dn (.dK (dkI (ltr rs) (List.replicate rs.length 1))) dn = some (.dK (dkI (ltr rs) (List.replicate rs.length 1))) := upd_same
      revert sN hdd
      generalize upd (upd H6 D0 (.lst (ps'.map V.ref))) dn (.dK (dkI (ltr rs) (List.replicate rs.length 1))) = H7
      intro sN hdd
      refine ⟨(by show 1 ≤ sizeLine; decide), fun l nl => ?_⟩
      have ndl : dn ≠ l := ne_of_none hdd nl
      have nl0 : H l = none := sN.free nl
      refine ⟨_, rfl, _, rfl, by omega, by omega, ?_⟩
      refine for_by (sure_range (lo := 0) (n := Int.toNat (n : Int))) (fun i σ H5 => ∃ (ls : List Addr) (v3 v4 : Option V), σ = [some (.ref t), some (.int (n : Int)), some (.ref l), v3, v4] ∧ Same H H5 ∧ l ∉ ls ∧ DicsAt H5 l ls rs (lenN rs.length (tabI rs)) (i + 1)) ?_ (fun _ _ _ _ _ => trivial) ?_ ?_
      · refine ⟨[dn], _, _, rfl, sN.trans (Same.add nl), fun z => ndl (List.mem_singleton.mp z).symm, ⟨upd_same, rfl, fun i a e1 => ?_⟩⟩
        cases i with
        | succ i => simp at e1
        | zero =>
          cases e1
          exact upd_in hdd ndl
      · rintro j x σ H5 hx ⟨ls, v3, v4, rfl, s5, hlo, hTl⟩
        obtain ⟨hj, rfl⟩ := rng_at hx
        have hjn : j < n := by omega
        have ln : (ls.map V.ref).length = j + 1 := by rw [List.length_map, hTl.len]
        obtain ⟨a, ha⟩ : ∃ a, ls[j]? = some a := ⟨ls[j]'(by rw [hTl.len]; omega), List.getElem?_eq_getElem _⟩
        have hv := hTl.at_ j a ha
        have lsn := lenN_len (k := rs.length) (tabI_len rs)
        have lj : (lenN rs.length (tabI rs) j).length = (ltr rs).length := by rw [lsn, lr]
        refine ⟨_, rfl, _, rfl, l, _, _, _, rfl, rfl, SqL.of hTl.top, atI_nat (by rw [List.getElem?_map, ha]; rfl), ?_⟩
        refine ⟨_, rfl, .inl ⟨rfl, _, SqL.of hTl.top⟩, _, rfl, t, _, _, _, rfl, rfl, SqT.of (s5 _ _ b1), atI_nat (j := 1) rfl, r, rfl, ⟨_, SqT.of (s5 _ _ b2)⟩, ?_⟩
        refine comp_allR (τ0 := [none, none, some (V.ref a)]) (sure_tup (xs := ps.map V.ref)) (by rw [ep]; omega)
          (fun i ys τ H6 => Same H5 H6 ∧ (∃ v v', τ = [v, v', some (.ref a)]) ∧ ∃ ps' : List Addr, ys = ps'.map V.ref ∧ ps'.length = i ∧ PairsAt H6 ps' (dkI ((ltr rs).take i) ((rs.map fun q => dot (c0 rs q.2) (lenN rs.length (tabI rs) j)).take i)))
          ⟨Same.refl _, ⟨_, _, rfl⟩, [], rfl, rfl, .nil⟩ ?_ ?_ ?_
        · rintro i ys τ H6 hi ⟨s6, _, ps', rfl, lp, _⟩
          exact ⟨SqT.of (s6 _ _ (s5 _ _ b2)), by rw [List.length_map]; omega⟩
        · rintro i x ys τ H6 hx ⟨s6, ⟨v, v', rfl⟩, ps', rfl, lp, hP⟩
          rw [List.getElem?_map] at hx
          cases e1 : ps[i]? with
          | none => rw [e1] at hx; cases hx
          | some p =>
            rw [e1] at hx
            cases hx
            obtain ⟨c, w', d1, d2⟩ := b3.get e1
            have hm := List.mem_of_getElem? d1
            refine ⟨p, _, rfl, SqT.of (s6 _ _ (s5 _ _ d2)), rfl, _, _, rfl, _, _, rfl, rfl, ?_⟩
            refine ⟨_, rfl, ?_⟩
            refine sum_dict (K := K) (d := a) (rs := rs) (ns := lenN rs.length (tabI rs) j) (x := w') (τs := [some (.ref a)]) rfl (s6 _ _ hv) lj (fun c' hc' => hG.win _ hm c' hc') (by have := hG.wl _ hm; simp only at this; omega) (fun R h => ⟨_, rfl, h⟩) (fun v R h => ⟨_, rfl, h⟩) fun H7 s7 => ⟨(by show 2 ≤ sizeLine; decide), fun T hT => ?_⟩
            have s8 : Same H6 (upd H7 T (.tup [sign c, V.int (w'.map (lk (ltr rs) (lenN rs.length (tabI rs) j))).sum])) := s7.trans (Same.add hT)
            refine ⟨s6.trans s8, ⟨_, _, rfl⟩, ps' ++ [T], by rw [List.map_append]; rfl, by rw [List.length_append, lp]; rfl, ?_⟩
            have h1 : (ltr rs)[i]? = some c := by unfold ltr; rw [List.getElem?_map, d1]; rfl
            have h2 : (rs.map fun q => dot (c0 rs q.2) (lenN rs.length (tabI rs) j))[i]? = some (dot (c0 rs w') (lenN rs.length (tabI rs) j)) := by rw [List.getElem?_map, d1]; rfl
            have lt : ((rs.map fun q => dot (c0 rs q.2) (lenN rs.length (tabI rs) j)).take i).length = ((ltr rs).take i).length := by unfold ltr; rw [List.length_take, List.length_take, List.length_map, List.length_map]
            rw [List.take_add_one, List.take_add_one, h1, h2]
            show PairsAt _ _ (dkI (_ ++ [c]) (_ ++ [dot (c0 rs w') (lenN rs.length (tabI rs) j)]))
            rw [← dkI_snoc lt]
            refine pairs_snoc ?_ (pairs_mono (TupS.same s8) hP)
            rw [upd_same, word_sum hG _ (lsn j)]
            rfl
        · rintro ys τ H6 D0 ⟨s6, _, ps', rfl, lp, hP⟩ hD0
          rw [ep] at hP
          have t1 : (ltr rs).take rs.length = ltr rs := List.take_of_length_le (by omega)
          have t2 : (rs.map fun q => dot (c0 rs q.2) (lenN rs.length (tabI rs) j)).take rs.length = lenN rs.length (tabI rs) (j + 1) := by
            have := take_all (rs.map fun q => dot (c0 rs q.2) (lenN rs.length (tabI rs) j))
            rw [List.length_map] at this
            rw [this]
            exact (stepL_eq rs _).symm
          rw [t1, t2] at hP
          have ll1 : (lenN rs.length (tabI rs) (j + 1)).length = (ltr rs).length := by rw [lsn, lr]
          have sD0 := Same.add (o := .lst (ps'.map V.ref)) hD0
          refine ⟨D0, ps', _, rfl, SqL.of upd_same, pairs_mono (TupS.same sD0) hP, by rw [dkI_keys ll1]; exact keys_nd hG.nd, by rw [dkI_len ll1, lr]; omega, fun dm hdm => ?_⟩
          have sD := s6.trans (sD0.trans (Same.add (o := .dK (dkI (ltr rs) (lenN rs.length (tabI rs) (j + 1)))) hdm))
          have hdd2 : upd (upd H6 D0 (.lst (ps'.map V.ref))) dm (.dK (dkI (ltr rs) (lenN rs.length (tabI rs) (j + 1)))) dm = some (.dK (dkI (ltr rs) (lenN rs.length (tabI rs) (j + 1)))) := upd_same
          revert sD hdd2
          generalize upd (upd H6 D0 (.lst (ps'.map V.ref))) dm (.dK (dkI (ltr rs) (lenN rs.length (tabI rs) (j + 1)))) = H7
          intro sD hdd2
          have nel : dm ≠ l := fun z => by rw [z, sD _ _ hTl.top] at hdd2; cases hdd2
          refine ⟨l, _, _, rfl, rfl, sD _ _ hTl.top, small1000 (by rw [ln]; omega), ls ++ [dm], _, _, rfl, fun c o hc => ?_, ?_, ?_⟩
          · exact upd_in (sD _ _ (s5 _ _ hc)) (ne_of_none hc nl0)
          · intro z
            rcases List.mem_append.mp z with z | z
            · exact hlo z
            · exact nel (List.mem_singleton.mp z).symm
          · refine ⟨by rw [upd_same, List.map_append]; rfl, by rw [List.length_append, hTl.len]; rfl, fun i a' e1 => ?_⟩
            by_cases hi : i < ls.length
            · rw [List.getElem?_append_left hi] at e1
              exact upd_in (sD _ _ (hTl.at_ i a' e1)) fun z => hlo (by rw [← z]; exact List.mem_of_getElem? e1)
            · rw [List.getElem?_append_right (by omega)] at e1
              cases z : i - ls.length with
              | zero =>
                rw [z] at e1
                cases e1
                have ei : i = j + 1 := by have := hTl.len; omega
                subst ei
                exact upd_in hdd2 nel
              | succ n' => rw [z] at e1; cases e1
      · rintro σ H5 ⟨ls, v3, v4, rfl, s5, hlo, hTl⟩
        rw [rngV_length] at hTl
        have en : Int.toNat (n : Int) = n := by omega
        rw [en] at hTl
        exact ⟨_, rfl, k l ls H5 s5 nl0 hTl⟩
end
end Lw
namespace Lw
open PySem L2 PyProof.Rows
section
variable {P : Program} {w : World} {K : PySem.W.Frag} {mg : Str → Option Value} {base : Heap}
def spWkd (K : PySem.W.Frag) : Sp := fun vs H Q _ => ∃ (t l : Addr) (ls : List Addr) (tv : V) (first : List Nat) (rs : List Rule) (F : Nat → List Int) (g : Nat → Nat → Nat) (M : Nat), vs = [.ref t, .ref l, tv] ∧ BookAt H t first rs ∧ Good first rs ∧ DicsAt H l ls rs F M ∧ Fam rs F g ∧ ((NoLst K H tv ∧ Q (.int (-1)) H) ∨
  ∃ (st : Addr) (us : List V) (es : List Elt), tv = .ref st ∧ H st = some (.lst us) ∧ ElsAt K H us es ∧ es.length ≤ M ∧ ∀ H', Same H H' → Q (.int (wkV rs g first es)) H')
theorem scWkd : FnScope ["_law_book_here", "_law_sizes_here", "_law_steps", "_law_words", "_law_text_here", "_law_total", "_law_level", "_law_step"] ["_law_book_here", "_law_sizes_here", "_law_steps"] (defScope sWkd) := ⟨rfl, rfl, rfl, by decide +kernel, rfl, by decide +kernel, by decide +kernel⟩
theorem nd_wkd1 : (["_law_sign", "_law_sizes_here", "_law_steps", "_law_level"] : List Str).Nodup := by decide +kernel
theorem ok_wkd {f fWhl : Addr} {fd fdWhl : FuncData} (F : Fun K "_law_walked" "_law_walked" sWkd f fd)
    (GWhl : FnOk P w K mg base CX0 1 fWhl fdWhl ["_law_thing"] (spWhl K))
    (gWhl : Gf K mg "_law_whole" fWhl fdWhl ["_law_thing"])
    (hlen : mg "len" = none)
    (henumerate : mg "enumerate" = none)
    (hsum : mg "sum" = none)
    (hlist : mg "list" = none)
    (htuple : mg "tuple" = none)
    (hisinstance : mg "isinstance" = none)
    (hdict : mg "dict" = none)
    (hmin : mg "min" = none)
    : FnOk P w K mg base CX0 2 f fd ["_law_book_here", "_law_sizes_here", "_law_steps"] (spWkd K) := by
  refine F.ok scWkd (fun vs H Q E h => ?_) (fun cdv A outer s H vs Q E hr h => ?_)
  · obtain ⟨t, l, ls, tv, first, rs, Fm, g, M, rfl, _⟩ := h
    rfl
  · obtain ⟨t, l, ls, tv, first, rs, Fm, g, M, rfl, hB, hG, hD, hF, k⟩ := h
    have hu := hu_of hr
    refine ⟨_, (pss_cons (ps_if (PW.pt (pw_or (pt_not (pt_val (pe_callB (call_isinstK K) (by rfl) hisinstance (show bootBuiltins "isinstance" = some (.builtin "isinstance") by decide +kernel) (pa_cons (pv 2) (pa_cons (pe_bltn (v := .ty "list") (by rfl) hlist (show bootBuiltins "list" = some (.type "list") by decide +kernel) rfl) pa_nil))))) (pw_or1 (pt_not (pt_chain op_le op_le pe_int (pe_callB (call_lenK K) (by rfl) hlen PySem.boot_len (pa_cons (pv 2) pa_nil)) (pe_callB (call_min2 rfl) (by rfl) hmin (show bootBuiltins "min" = some (.builtin "min") by decide +kernel) (pa_cons pe_int (pa_cons (pe_callB (call_lenK K) (by rfl) hlen PySem.boot_len (pa_cons (pv 1) pa_nil)) pa_nil)))))))) (pss_one (ps_ret (pe_un un_neg pe_int))) pss_nil)
      (pss_cons (ps_set (i := 3) scWkd.nd rfl (Or.inl rfl) (pe_callTy (call_dict_tup rfl) (by rfl) hdict (by first | exact PySem.boot_dict | decide +kernel) (pa_cons (pe_ix (ix_tupK K) (pv 0) pe_int (fun _ _ => rfl)) pa_nil)))
      (pss_cons (ps_set (i := 4) scWkd.nd rfl (Or.inl rfl) (pe_ix (ix_tupK K) (pv 0) pe_int (fun _ _ => rfl)))
      (pss_cons (ps_set (i := 5) scWkd.nd rfl (Or.inl rfl) pe_int)
      (pss_cons (ps_for PassesOwn.never rfl (pi_enumK K rfl henumerate (pa_cons (pv 2) pa_nil)) (pg_tupK K (n := 2) rfl (pgs_cons (pg_name (i := 6) scWkd.nd rfl (Or.inr rfl)) (pgs_cons (pg_name (i := 7) scWkd.nd rfl (Or.inl rfl)) pgs_nil))) (pss_cons (ps_if (PW.pt (pw_or (pt_not (pt_val (pe_callB (call_isinstK K) (by rfl) hisinstance (show bootBuiltins "isinstance" = some (.builtin "isinstance") by decide +kernel) (pa_cons (pv 7) (pa_cons (pe_bltn (v := .ty "tuple") (by rfl) htuple (show bootBuiltins "tuple" = some (.type "tuple") by decide +kernel) rfl) pa_nil))))) (pw_or (pt_cmpR op_ne (pe_callB (call_lenK K) (by rfl) hlen PySem.boot_len (pa_cons (pv 7) pa_nil)) pe_int (nomark _)) (pw_or1 (pt_not (pt_val (pe_call GWhl hr rfl gWhl.m gWhl.k gWhl.b .nil pass0 (pa_cons (pe_ix (ix_tupK K) (pv 7) pe_int (fun _ _ => rfl)) pa_nil)))))))) (pss_one (ps_ret (pe_un un_neg pe_int))) pss_nil)
      (pss_cons (ps_if (PW.pt (pw_or (pt_not (pt_chain op_le op_lt pe_int (pe_ix (ix_tupK K) (pv 7) pe_int (fun _ _ => rfl)) (pe_callB call_len_str (by rfl) hlen PySem.boot_len (pa_cons (pv 4) pa_nil)))) (pw_or1 (pt_cmpR (op_neTK K hr.units) (pe_ix (ix_tupK K) (pv 7) pe_int (fun _ _ => rfl)) (pe_ix ix_str (pv 4) (pe_ix (ix_tupK K) (pv 7) pe_int (fun _ _ => rfl)) (fun _ _ => rfl)) (nomark _))))) (pss_one (ps_ret (pe_un un_neg pe_int))) pss_nil)
      (pss_cons (ps_set (i := 5) scWkd.nd rfl (Or.inl rfl) (pe_op op_add (pv 5) (pe_callB (call_sumK2 K rfl) (by rfl) hsum (by first | exact PySem.boot_sum | decide +kernel) (pa_cons (pe_comp (N' := ["_law_sign", "_law_sizes_here", "_law_steps", "_law_level"]) (ix := [none, some 1, some 2, some 6]) rfl rfl (pi_str (pe_slice sl_str (pv 4) po_none (po_some (pe_ix (ix_tupK K) (pv 7) pe_int (fun _ _ => rfl))))) (fun _ _ _ _ _ _ => (pg_name (i := 0) nd_wkd1 rfl (Or.inl rfl))) (fun _ _ _ _ _ _ => pts_nil) (fun _ _ _ _ _ _ => (pe_dget hu (pe_ix (ix_listK K) (pv 1) (pe_op op_sub (pe_op op_sub (pe_callB (call_lenK K) (by rfl) hlen PySem.boot_len (pa_cons (pv 2) pa_nil)) pe_int) (pv 3)) (fun _ _ => rfl)) (pv 0) (fun _ _ => rfl)))) pa_nil))))
      (pss_one (ps_set (i := 4) scWkd.nd rfl (Or.inl rfl) (pe_dget hu (pv 3) (pe_ix (ix_tupK K) (pv 7) pe_int (fun _ _ => rfl)) (fun _ _ => rfl))))))))
      (pss_one (ps_ret (pv 5)))))))), ?_⟩
    rcases k with ⟨⟨ty, hty, ht⟩, k⟩ | ⟨st, us, es, rfl, hst, hE, hM, k⟩
    · rcases ht with rfl | rfl | rfl | rfl
      · exact ⟨_, rfl, _, _, _, false, rfl, hty, (by rfl), _, rfl, iteT (iteT ⟨_, rfl, k⟩)⟩
      · exact ⟨_, rfl, _, _, _, false, rfl, hty, (by rfl), _, rfl, iteT (iteT ⟨_, rfl, k⟩)⟩
      · exact ⟨_, rfl, _, _, _, false, rfl, hty, (by rfl), _, rfl, iteT (iteT ⟨_, rfl, k⟩)⟩
      · exact ⟨_, rfl, _, _, _, false, rfl, hty, (by rfl), _, rfl, iteT (iteT ⟨_, rfl, k⟩)⟩
    obtain ⟨r, ps, b1, b2, b3⟩ := hB.ex
    have hfew := hG.few
    have las := hE.len
    have lls : (ls.map V.ref).length = M := by rw [List.length_map, hD.len]
    refine ⟨_, rfl, _, _, _, true, rfl, TyOf.lst hst, (by rfl), _, rfl, iteF ?_⟩
    refine ⟨_, rfl, st, _, rfl, .inl (SqL.of hst), _, _, rfl, rfl, _, rfl, ?_⟩
    rw [las]
    have no : swB rs first es = false → ∀ H', Same H H' → Q (.int (-1)) H' := fun h H' s => by
      have := k H' s
      unfold wkV at this
      rw [if_neg (by rw [h]; decide)] at this
      exact this
    by_cases h1 : 1 ≤ es.length
    case neg =>
      rw [decide_eq_false (show ¬ (1 : Int) ≤ ((es.length : Nat) : Int) by omega)]
      exact iteF ⟨_, rfl, iteT ⟨_, rfl, no (by unfold swB; rw [decide_eq_false fun h => h1 h.1]; rfl) H (Same.refl _)⟩⟩
    rw [decide_eq_true (show (1 : Int) ≤ ((es.length : Nat) : Int) by omega)]
    refine iteT ⟨_, rfl, l, _, rfl, .inl (SqL.of hD.top), 301, _, rfl, _, _, rfl, rfl, _, rfl, ?_⟩
    have hmin : (((es.length : Nat) : Int) ≤ (if (((ls.map V.ref).length : Nat) : Int) < 301 then (((ls.map V.ref).length : Nat) : Int) else 301)) ↔ es.length ≤ 301 := by
      rw [lls]
      split <;> omega
    refine ite2 (fun h => ?_) (fun h => ?_)
    · have h2 : ¬ es.length ≤ 301 := fun z => by
        have h' : (!decide (((es.length : Nat) : Int) ≤ (if (((ls.map V.ref).length : Nat) : Int) < 301 then (((ls.map V.ref).length : Nat) : Int) else 301))) = true := h
        rw [decide_eq_true (hmin.mpr z)] at h'
        cases h'
      exact ⟨_, rfl, no (by unfold swB; rw [decide_eq_false fun h => h2 h.2]; rfl) H (Same.refl _)⟩
    have h2 : es.length ≤ 301 := by
      have h' : ¬ (!decide (((es.length : Nat) : Int) ≤ (if (((ls.map V.ref).length : Nat) : Int) < 301 then (((ls.map V.ref).length : Nat) : Int) else 301))) = true := h
      by_cases z : es.length ≤ 301
      · exact z
      · rw [decide_eq_false fun q => z (hmin.mp q)] at h'; exact absurd rfl h'
    have e1 : swB rs first es = wkB rs first es := by unfold swB; rw [decide_eq_true ⟨h1, h2⟩, Bool.true_and]
    refine ⟨_, rfl, t, _, _, _, rfl, rfl, SqT.of b1, atI_nat (j := 1) rfl, r, ps, kvw rs, rfl, b2, kvw_pairs b3, by rw [kvw_keys]; exact keys_nd hG.nd, by rw [List.length_map]; omega, fun dw ndw => ?_⟩
    have s1 : Same H (upd H dw (.dK (kvw rs))) := Same.add ndw
    have hd1 : upd H dw (.dK (kvw rs)) dw = some (.dK (kvw rs)) := upd_same
    revert s1 hd1
    generalize upd H dw (.dK (kvw rs)) = H1
    intro s1 hd1
    refine ⟨_, rfl, t, _, _, _, rfl, rfl, SqT.of (s1 _ _ b1), atI_nat (j := 0) rfl, ?_⟩
    refine ⟨_, rfl, st, rfl, ⟨_, SqL.of (s1 _ _ hst)⟩, ?_⟩
    refine for_by2 (sure_enum (xs := us)) (fun i σ H2 => ∃ (x : List Nat) (tot : Nat) (er : List Elt) (v6 v7 : Option V), σ = [some (.ref t), some (.ref l), some (.ref st), some (.ref dw), some (tx x), some (.int (tot : Int)), v6, v7] ∧ Same H H2 ∧ H2 dw = some (.dK (kvw rs)) ∧
      es.drop i = er ∧ wkB rs first es = wkB rs x er ∧ tot + ahE rs g x er = ahE rs g first es ∧ (∀ c ∈ x, c ∈ ltr rs) ∧ x.length ≤ 12) ⟨first, 0, es, _, _, rfl, s1, hd1, rfl, rfl, by omega, hG.fin, hG.fl⟩ ?_ ?_ ?_
    · rintro i σ H2 hi ⟨x, tot, er, v6, v7, rfl, s2, _⟩
      exact SqL.of (s2 _ _ hst)
    · rintro i zs σ H2 T hz ⟨x, tot, er, v6, v7, rfl, s2, hd2, her, hwk, htot, hx, hx12⟩ hT
      rw [List.getElem?_map] at hz
      cases ez : us.zipIdx[i]? with
      | none => rw [ez] at hz; cases hz
      | some pr =>
        rw [ez] at hz
        cases hz
        rw [List.getElem?_zipIdx] at ez
        cases ev : us[i]? with
        | none => rw [ev] at ez; cases ez
        | some v =>
          rw [ev] at ez
          have ez' : pr = (v, 0 + i) := (Option.some.inj ez).symm
          subst ez'
          have hi : i < us.length := (List.getElem?_eq_some_iff.mp ev).1
          obtain ⟨e, ee⟩ : ∃ e, es[i]? = some e := ⟨_, List.getElem?_eq_getElem (by omega)⟩
          have hdr : es.drop i = e :: es.drop (i + 1) := by
            rw [List.drop_eq_getElem_cons (by omega)]
            congr 1
            exact Option.some.inj ((List.getElem?_eq_getElem (by omega)).symm.trans ee)
          rw [her] at hdr
          subst hdr
          have szx : (⟨x.toArray⟩ : Str).length ≤ sizeLine := Nat.le_of_lt (small1000 (show x.length ≤ 1000 by omega))
          have sT := s2.trans (Same.add (o := .tup [V.int ((0 + i : Nat) : Int), v]) hT)
          have hd3 := Same.add (o := .tup [V.int ((0 + i : Nat) : Int), v]) hT _ _ hd2
          refine ⟨T, _, rfl, SqT.of upd_same, rfl, _, _, rfl, _, _, rfl, rfl, ?_⟩
          revert sT hd3
          generalize upd H2 T (.tup [V.int ((0 + i : Nat) : Int), v]) = H3
          intro sT hd3
          have hel := (hE.keep sT).at_ i v e ev ee
          have bad : okE x e = false → Q (.int (-1)) H3 := fun ho => no (by rw [e1, hwk, wkB_no ho]) H3 sT
          have pair : ∀ (a : Addr) (y : V) (j : Int), v = .ref a → H3 a = some (.tup [y, .int j]) → True := fun _ _ _ _ _ => trivial
          cases e with
          | bad =>
            have kk := bad rfl
            rcases hel with (⟨ty, hty, ht⟩ | ⟨a, y1, y2, y3, rfl, ha⟩) | ⟨a, c, y, rfl, ha, c0, c1, hy⟩ | ⟨a, z, j, rfl, ha, hz⟩
            · rcases ht with rfl | rfl | rfl | rfl
              · exact ⟨_, rfl, _, _, _, false, rfl, hty, (by rfl), _, rfl, iteT (iteT ⟨_, rfl, kk⟩)⟩
              · exact ⟨_, rfl, _, _, _, false, rfl, hty, (by rfl), _, rfl, iteT (iteT ⟨_, rfl, kk⟩)⟩
              · exact ⟨_, rfl, _, _, _, false, rfl, hty, (by rfl), _, rfl, iteT (iteT ⟨_, rfl, kk⟩)⟩
              · exact ⟨_, rfl, _, _, _, false, rfl, hty, (by rfl), _, rfl, iteT (iteT ⟨_, rfl, kk⟩)⟩
            · refine ⟨_, rfl, _, _, _, true, rfl, TyOf.tup ha, (by rfl), _, rfl, iteF ?_⟩
              exact ⟨_, rfl, a, _, rfl, .inr (SqT.of ha), rfl, true, rfl, iteT (iteT ⟨_, rfl, kk⟩)⟩
            · refine ⟨_, rfl, _, _, _, true, rfl, TyOf.tup ha, (by rfl), _, rfl, iteF ?_⟩
              refine ⟨_, rfl, a, _, rfl, .inr (SqT.of ha), rfl, _, rfl, iteNS (by rfl) ?_⟩
              exact ⟨_, rfl, a, _, _, _, rfl, rfl, SqT.of ha, atI_nat (j := 1) rfl, y, rfl, .inr ⟨hy, _, rfl, iteT ⟨_, rfl, kk⟩⟩⟩
            · refine ⟨_, rfl, _, _, _, true, rfl, TyOf.tup ha, (by rfl), _, rfl, iteF ?_⟩
              refine ⟨_, rfl, a, _, rfl, .inr (SqT.of ha), rfl, _, rfl, iteNS (by rfl) ?_⟩
              refine ⟨_, rfl, a, _, _, _, rfl, rfl, SqT.of ha, atI_nat (j := 1) rfl, _, rfl, .inl ⟨j, rfl, _, rfl, iteF ?_⟩⟩
              refine ⟨_, rfl, a, _, _, _, rfl, rfl, SqT.of ha, atI_nat (j := 1) rfl, _, _, rfl, rfl, _, rfl, ?_⟩
              by_cases j0 : 0 ≤ j
              case neg =>
                rw [decide_eq_false j0]
                exact iteF ⟨_, rfl, iteT (iteT ⟨_, rfl, kk⟩)⟩
              rw [decide_eq_true j0]
              refine iteT ⟨_, rfl, ⟨x.toArray⟩, rfl, szx, _, _, rfl, rfl, _, rfl, ?_⟩
              refine ite2 (fun _ => iteT ⟨_, rfl, kk⟩) (fun h => ?_)
              have jl : j < ((x.length : Nat) : Int) := by
                have h' : ¬ (!decide (j < ((x.length : Nat) : Int))) = true := h
                by_cases q : j < ((x.length : Nat) : Int)
                · exact q
                · rw [decide_eq_false q] at h'; exact absurd rfl h'
              obtain ⟨jn, rfl⟩ : ∃ n : Nat, j = (n : Int) := ⟨j.toNat, by omega⟩
              obtain ⟨d, hd⟩ : ∃ d, x[jn]? = some d := ⟨_, List.getElem?_eq_getElem (by omega)⟩
              refine ⟨_, rfl, a, _, _, _, rfl, rfl, SqT.of ha, atI_nat (j := 0) rfl, _, rfl, _, rfl, a, _, _, _, rfl, rfl, SqT.of ha, atI_nat (j := 1) rfl, ⟨x.toArray⟩, _, _, rfl, rfl, szx, atI_nat hd, ?_⟩
              rcases hz with rfl | ⟨b, xs, rfl, hb⟩ | ⟨q, rfl, q1, q2⟩
              · exact .inl ⟨rfl, true, rfl, iteT ⟨_, rfl, kk⟩⟩
              · exact .inr ⟨b, xs, _, rfl, rfl, .inl hb, true, rfl, iteT ⟨_, rfl, kk⟩⟩
              · refine .inl ⟨rfl, true, ?_, iteT ⟨_, rfl, kk⟩⟩
                rw [decide_eq_false fun z => q1 ?_]
                · rfl
                · have z1 : (⟨q.toArray⟩ : Str) = ⟨#[d]⟩ := V.str.inj z
                  have z2 : q.toArray = #[d] := congrArg Str.cps z1
                  have z3 := congrArg Array.size z2
                  simpa using z3
          | good c j =>
            obtain ⟨a, rfl, ha, c0, c1⟩ := hel
            refine ⟨_, rfl, _, _, _, true, rfl, TyOf.tup ha, (by rfl), _, rfl, iteF ?_⟩
            refine ⟨_, rfl, a, _, rfl, .inr (SqT.of ha), rfl, _, rfl, iteNS (by rfl) ?_⟩
            refine ⟨_, rfl, a, _, _, _, rfl, rfl, SqT.of ha, atI_nat (j := 1) rfl, _, rfl, .inl ⟨j, rfl, _, rfl, iteF ?_⟩⟩
            refine ⟨_, rfl, a, _, _, _, rfl, rfl, SqT.of ha, atI_nat (j := 1) rfl, _, _, rfl, rfl, _, rfl, ?_⟩
            by_cases j0 : 0 ≤ j
            case neg =>
              rw [decide_eq_false j0]
              exact iteF ⟨_, rfl, iteT (iteT ⟨_, rfl, bad (decide_eq_false fun h => j0 h.1)⟩)⟩
            rw [decide_eq_true j0]
            refine iteT ⟨_, rfl, ⟨x.toArray⟩, rfl, szx, _, _, rfl, rfl, _, rfl, ?_⟩
            refine ite2 (fun h => ?_) (fun h => ?_)
            · refine iteT ⟨_, rfl, bad (decide_eq_false fun q => ?_)⟩
              have := (List.getElem?_eq_some_iff.mp q.2).1
              have h' : (!decide (j < ((x.length : Nat) : Int))) = true := h
              rw [decide_eq_true (by omega)] at h'
              cases h'
            have jl : j < ((x.length : Nat) : Int) := by
              have h' : ¬ (!decide (j < ((x.length : Nat) : Int))) = true := h
              by_cases q : j < ((x.length : Nat) : Int)
              · exact q
              · rw [decide_eq_false q] at h'; exact absurd rfl h'
            obtain ⟨jn, rfl⟩ : ∃ n : Nat, j = (n : Int) := ⟨j.toNat, by omega⟩
            obtain ⟨d, hd⟩ : ∃ d, x[jn]? = some d := ⟨_, List.getElem?_eq_getElem (by omega)⟩
            refine ⟨_, rfl, a, _, _, _, rfl, rfl, SqT.of ha, atI_nat (j := 0) rfl, _, rfl, _, rfl, a, _, _, _, rfl, rfl, SqT.of ha, atI_nat (j := 1) rfl, ⟨x.toArray⟩, _, _, rfl, rfl, szx, atI_nat hd, ?_⟩
            by_cases hcd : c = d
            case neg =>
              refine .inl ⟨rfl, true, ?_, iteT ⟨_, rfl, bad (decide_eq_false fun q => ?_)⟩⟩
              · show V.bl (!decide (sign c = sign d)) = _
                rw [decide_eq_false fun z => hcd (sign_inj z)]
                rfl
              · have := q.2
                rw [Int.toNat_natCast, hd] at this
                exact hcd (Option.some.inj this).symm
            subst hcd
            refine .inl ⟨rfl, false, ?_, iteF ?_⟩
            · show V.bl (!decide (sign c = sign c)) = _
              rw [decide_eq_true rfl]
              rfl
            have hc := hx c (List.mem_of_getElem? hd)
            refine ⟨_, rfl, ?_⟩
            obtain ⟨m, him⟩ : ∃ m, i + m + 1 = es.length := ⟨es.length - 1 - i, by omega⟩
            have hml : (es.drop (i + 1)).length = m := by rw [List.length_drop]; omega
            obtain ⟨dd, hdd⟩ : ∃ d, ls[m]? = some d := ⟨ls[m]'(by rw [hD.len]; omega), List.getElem?_eq_getElem _⟩
            have hv := sT _ _ (hD.at_ m dd hdd)
            have lr : (ltr rs).length = rs.length := by unfold ltr; rw [List.length_map]
            have ls1 : ∀ c' ∈ x.take jn, c' ∈ ltr rs := fun c' hc' => hx c' (List.mem_of_mem_take hc')
            have hsum : ((x.take jn).map (lk (ltr rs) (Fm m))).sum = ((((x.take jn).map (g m)).sum : Nat) : Int) := hF.sum m ls1
            have hix : atI (ls.map V.ref) (((us.length : Nat) : Int) - 1 - ((0 + i : Nat) : Int)) = some (V.ref dd) := by
              have : ((us.length : Nat) : Int) - 1 - ((0 + i : Nat) : Int) = (m : Int) := by rw [las]; omega
              rw [this]
              exact atI_nat (by rw [List.getElem?_map, hdd]; rfl)
            refine sum_dict (K := K) (d := dd) (rs := rs) (ns := Fm m) (x := x.take jn) (τs := [some (.ref l), some (.ref st), some (.int ((0 + i : Nat) : Int))]) rfl hv (by rw [hF.len, lr]) ls1 (by rw [List.length_take]; omega) (fun R h => ⟨_, rfl, _, rfl, a, _, _, _, rfl, rfl, SqT.of ha, atI_nat (j := 1) rfl, _, rfl, ⟨x.toArray⟩, rfl, szx, by rw [slice_take]; exact h⟩) (fun v R h => ⟨_, rfl, _, rfl, st, _, rfl, .inl (SqL.of (sT _ _ hst)), _, _, rfl, rfl, _, rfl, _, _, rfl, rfl, l, _, _, _, rfl, rfl, SqL.of (sT _ _ hD.top), hix, h⟩) fun H4 s4 => ?_
            rw [hsum]
            have hd4 := s4 _ _ hd3
            have hgw := DGet.k (k := (Sum.inr (one c) : Key)) hd4
            rw [kvw_wd hG.nd hc] at hgw
            refine ⟨_, _, rfl, rfl, _, rfl, _, rfl, a, _, _, _, rfl, rfl, SqT.of (s4 _ _ ha), atI_nat (j := 0) rfl, dw, _, rfl, hgw, ?_⟩
            refine ⟨wd rs c, tot + ((x.take jn).map (g m)).sum, _, _, _, by rw [Int.natCast_add]; rfl, sT.trans s4, hd4, rfl, ?_, ?_, wd_in hG hc, Nat.le_trans (wd_le hG hc) (by decide)⟩
            · rw [hwk]
              show (okE x (.good c (jn : Int)) && wkB rs (wd rs c) (es.drop (i + 1))) = _
              rw [show okE x (.good c (jn : Int)) = true from decide_eq_true ⟨by omega, by rw [Int.toNat_natCast]; exact hd⟩]
              rfl
            · rw [← htot]
              show _ = tot + (((x.take ((jn : Int)).toNat).map (g (es.drop (i + 1)).length)).sum + ahE rs g (wd rs c) (es.drop (i + 1)))
              rw [Int.toNat_natCast, hml]
              omega
    · rintro σ H2 ⟨x, tot, er, v6, v7, rfl, s2, hd2, her, hwk, htot, hx, hx12⟩
      have el : (us.zipIdx.map fun p => [V.int ((p.2 : Nat) : Int), p.1]).length = us.length := by simp
      rw [el, las, List.drop_of_length_le (Nat.le_refl _)] at her
      subst her
      have kk := k H2 s2
      unfold wkV at kk
      rw [e1, hwk, show wkB rs x [] = true from rfl, if_pos rfl, ← htot] at kk
      exact ⟨_, rfl, kk⟩
end
end Lw
namespace Lw
open PySem L2 PyProof.Rows
def refO : HO := .tup [.str (Str.ofString "refused"), .str (Str.ofString "way")]
def tolO (n : Int) : HO := .tup [.str (Str.ofString "told"), .int n, .bl true]
theorem five5 {α : Type} : ∀ {l : List α}, l.length = 5 → ∃ a b c d e, l = [a, b, c, d, e]
  | [a, b, c, d, e], _ => ⟨a, b, c, d, e, rfl⟩
section
variable {P : Program} {w : World} {K : PySem.W.Frag} {mg : Str → Option Value} {base : Heap}
def spDue (K : PySem.W.Frag) : Sp := fun vs H Q _ => ∃ (t l : Addr) (ls : List Addr) (tv : V) (first : List Nat) (rs : List Rule) (F : Nat → List Int) (g : Nat → Nat → Nat) (M : Nat), vs = [.ref t, .ref l, tv] ∧ BookAt H t first rs ∧ Good first rs ∧ DicsAt H l ls rs F M ∧ Fam rs F g ∧ ((NoLst K H tv ∧ ∀ T H', Same H H' → H' T = some refO → Q (.ref T) H') ∨
  ∃ (st : Addr) (us : List V) (es : List Elt), tv = .ref st ∧ H st = some (.lst us) ∧ ElsAt K H us es ∧ es.length ≤ M ∧ ((swB rs first es = false ∧ ∀ T H', Same H H' → H' T = some refO → Q (.ref T) H') ∨ (swB rs first es = true ∧ ∀ T H', Same H H' → H' T = some (tolO ((ahE rs g first es : Nat) : Int)) → Q (.ref T) H')))
theorem scDue : FnScope ["_law_book_here", "_law_sizes_here", "_law_thing", "_law_place"] ["_law_book_here", "_law_sizes_here", "_law_thing"] (defScope sDue) := ⟨rfl, rfl, rfl, by decide +kernel, rfl, by decide +kernel, by decide +kernel⟩
theorem ok_due {f fWkd : Addr} {fd fdWkd : FuncData} (F : Fun K "_law_due" "_law_due" sDue f fd)
    (GWkd : FnOk P w K mg base CX0 2 fWkd fdWkd ["_law_book_here", "_law_sizes_here", "_law_steps"] (spWkd K))
    (gWkd : Gf K mg "_law_walked" fWkd fdWkd ["_law_book_here", "_law_sizes_here", "_law_steps"])
    : FnOk P w K mg base CX0 3 f fd ["_law_book_here", "_law_sizes_here", "_law_thing"] (spDue K) := by
  refine F.ok scDue (fun vs H Q E h => ?_) (fun cdv A outer s H vs Q E hr h => ?_)
  · obtain ⟨t, l, ls, tv, first, rs, Fm, g, M, rfl, _⟩ := h
    rfl
  · obtain ⟨t, l, ls, tv, first, rs, Fm, g, M, rfl, hB, hG, hD, hF, k⟩ := h
    refine ⟨_, (pss_cons (ps_set (i := 3) scDue.nd rfl (Or.inl rfl) (pe_call GWkd hr rfl gWkd.m gWkd.k gWkd.b .nil pass0 (pa_cons (pv 0) (pa_cons (pv 1) (pa_cons (pv 2) pa_nil)))))
      (pss_cons (ps_if (pt_cmpR op_lt (pv 3) pe_int (nomark _)) (pss_one (ps_ret (pe_tup (pa_cons pe_str (pa_cons pe_str pa_nil))))) pss_nil)
      (pss_one (ps_ret (pe_tup (pa_cons pe_str (pa_cons (pv 3) (pa_cons pe_bl pa_nil)))))))), ?_⟩
    rcases k with ⟨hz, k⟩ | ⟨st, us, es, rfl, hst, hE, hM, k⟩
    · refine ⟨_, rfl, _, rfl, _, rfl, t, l, ls, tv, first, rs, Fm, g, M, rfl, hB, hG, hD, hF, .inl ⟨hz, ?_⟩⟩
      exact ⟨_, rfl, _, _, rfl, rfl, true, rfl, iteT ⟨(by show 2 ≤ sizeLine; decide), fun T nT => k T _ (Same.add nT) upd_same⟩⟩
    · refine ⟨_, rfl, _, rfl, _, rfl, t, l, ls, _, first, rs, Fm, g, M, rfl, hB, hG, hD, hF, .inr ⟨st, us, es, rfl, hst, hE, hM, fun H1 s1 => ?_⟩⟩
      rcases k with ⟨hs, k⟩ | ⟨hs, k⟩
      · have e : wkV rs g first es = -1 := by unfold wkV; rw [if_neg (by rw [hs]; decide)]
        rw [e]
        exact ⟨_, rfl, _, _, rfl, rfl, true, rfl, iteT ⟨(by show 2 ≤ sizeLine; decide), fun T nT => k T _ (s1.trans (Same.add nT)) upd_same⟩⟩
      · have e : wkV rs g first es = ((ahE rs g first es : Nat) : Int) := by unfold wkV; rw [if_pos hs]
        rw [e]
        refine ⟨_, rfl, _, _, rfl, rfl, false, ?_, iteF ⟨_, rfl, (by show 3 ≤ sizeLine; decide), fun T nT => k T _ (s1.trans (Same.add nT)) upd_same⟩⟩
        show V.bl (decide (((ahE rs g first es : Nat) : Int) < 0)) = _
        rw [decide_eq_false (by omega)]
def spTld (K : PySem.W.Frag) : Sp := fun vs H Q _ => ∃ (t : Addr) (tv : V) (first : List Nat) (rs : List Rule), vs = [.ref t, tv] ∧ BookAt H t first rs ∧ Good first rs ∧ ((NoLst K H tv ∧ ∀ T H', Same H H' → H' T = some refO → Q (.ref T) H') ∨
  ∃ (st : Addr) (us : List V) (es : List Elt), tv = .ref st ∧ H st = some (.lst us) ∧ ElsAt K H us es ∧ ((swB rs first es = false ∧ ∀ T H', Same H H' → H' T = some refO → Q (.ref T) H') ∨ (swB rs first es = true ∧ ∀ T H', Same H H' → H' T = some (tolO ((ahE rs (szG rs) first es : Nat) : Int)) → Q (.ref T) H')))
theorem scTld : FnScope ["_law_book_here", "_law_thing", "_law_caught", "_law_found", "_law_error"] ["_law_book_here", "_law_thing"] (defScope sTld) := ⟨rfl, rfl, rfl, by decide +kernel, rfl, by decide +kernel, by decide +kernel⟩
theorem ok_tld {f fPlo fWhl fRfl : Addr} {fd fdPlo fdWhl fdRfl : FuncData} (F : Fun K "_law_told" "_law_told" sTld f fd)
    (GWhl : FnOk P w K mg base CX0 1 fWhl fdWhl ["_law_thing"] (spWhl K))
    (gWhl : Gf K mg "_law_whole" fWhl fdWhl ["_law_thing"])
    (GRfl : FnOk P w K mg base CX0 1 fRfl fdRfl ["_law_error"] (spRfl K cNoWay))
    (gRfl : Gf K mg "_law_refusal" fRfl fdRfl ["_law_error"])
    {cGrowError : Addr} (hGrowError : mg "GrowError" = some (.ref cGrowError)) (eGrowError : ClsK K cGrowError)
    (GPlo : FnOk P w K mg base (CX1 P w) 5 fPlo fdPlo ["book", "way"] (spPloX K cNoWay))
    (gPlo : Gf K mg "place_of" fPlo fdPlo ["book", "way"])
    (hWG : PySem.W.mroIn K cNoWay (.ref cGrowError) = some true)
    : FnOk P w K mg base CX0 6 f fd ["_law_book_here", "_law_thing"] (spTld K) := by
  refine F.ok scTld (fun vs H Q E h => ?_) (fun cdv A outer s H vs Q E hr h => ?_)
  · obtain ⟨t, tv, first, rs, rfl, _⟩ := h
    rfl
  · obtain ⟨t, tv, first, rs, rfl, hB, hG, k⟩ := h
    have hr1 : Room 1 _ := hr.mono (by decide)
    refine ⟨_, (pss_cons (ps_set (i := 2) scTld.nd rfl (Or.inl rfl) pe_non)
      (pss_cons (ps_set (i := 3) scTld.nd rfl (Or.inl rfl) pe_non)
      (pss_cons (ps_try rfl rfl (fun _ _ _ hp => (pss_one (ps_set (i := 3) scTld.nd rfl (Or.inl rfl) (pe_call GPlo hr rfl gPlo.m gPlo.k gPlo.b .nil hp (pa_cons (pv 0) (pa_cons (pv 1) pa_nil)))))) (phs_as (i := 4) K scTld.nd rfl rfl rfl hGrowError eGrowError.cls eGrowError.nt eGrowError.bexc (fun _ => (pss_one (ps_set (i := 2) scTld.nd rfl (Or.inl rfl) (pv 4)))) phs_nil))
      (pss_cons (ps_if (pt_cmpR op_notN (pv 2) pe_non (nomark _)) (pss_one (ps_ret (pe_tup (pa_cons pe_str (pa_cons (pe_call GRfl hr1 rfl gRfl.m gRfl.k gRfl.b .nil pass0 (pa_cons (pv 2) pa_nil)) pa_nil))))) pss_nil)
      (pss_one (ps_ret (pe_tup (pa_cons pe_str (pa_cons (pv 3) (pa_cons (pe_call GWhl hr1 rfl gWhl.m gWhl.k gWhl.b .nil pass0 (pa_cons (pv 3) pa_nil)) pa_nil)))))))))), ?_⟩
    have bad : ∀ (H1 : Hp), Same H H1 → (∀ T H', Same H H' → H' T = some refO → Q (.ref T) H') → True := fun _ _ _ => trivial
    rcases k with ⟨hz, k⟩ | ⟨st, us, es, rfl, hst, hE, ⟨hs, k⟩ | ⟨hs, k⟩⟩
    · refine ⟨_, rfl, _, rfl, t, tv, first, rs, rfl, hB, hG, .inl ⟨hz, cNoWay, rfl, fun σ' hl => ?_⟩⟩
      obtain ⟨a0, a1, a2, a3, a4, rfl⟩ := five5 hl
      refine ⟨true, hWG, iteT fun e he => ?_⟩
      refine ⟨_, rfl, _, rfl, rfl, _, rfl, iteT ?_⟩
      exact ⟨_, rfl, e, cNoWay, rfl, upd_same, rfl, fun H2 s2 => ⟨(by show 2 ≤ sizeLine; decide), fun T nT => k T _ ((Same.add he).trans (s2.trans (Same.add nT))) upd_same⟩⟩
    · refine ⟨_, rfl, _, rfl, t, _, first, rs, rfl, hB, hG, .inr ⟨st, us, es, rfl, hst, hE, .inl ⟨hs, fun H1 s1 => ⟨cNoWay, rfl, fun σ' hl => ?_⟩⟩⟩⟩
      obtain ⟨a0, a1, a2, a3, a4, rfl⟩ := five5 hl
      refine ⟨true, hWG, iteT fun e he => ?_⟩
      refine ⟨_, rfl, _, rfl, rfl, _, rfl, iteT ?_⟩
      exact ⟨_, rfl, e, cNoWay, rfl, upd_same, rfl, fun H2 s2 => ⟨(by show 2 ≤ sizeLine; decide), fun T nT => k T _ (s1.trans ((Same.add he).trans (s2.trans (Same.add nT)))) upd_same⟩⟩
    · have hs' : (decide (1 ≤ es.length ∧ es.length ≤ 301) && wkB rs first es) = true := hs
      obtain ⟨h1, h2⟩ := (Bool.and_eq_true _ _).mp hs'
      obtain ⟨as, W, q1, q2, q3, q4, q5⟩ := els_way h2 hE
      have h3 := of_decide_eq_true h1
      refine ⟨_, rfl, _, rfl, t, _, first, rs, rfl, hB, hG, .inr ⟨st, us, es, rfl, hst, hE, .inr ⟨as, es.length - 1, W, hs, q1, q2, q3, by omega, by omega, fun H1 s1 => ?_⟩⟩⟩
      rw [q5]
      refine ⟨_, rfl, rfl, _, rfl, iteF ?_⟩
      exact ⟨_, rfl, _, rfl, _, rfl, .inl ⟨_, rfl, (by show 3 ≤ sizeLine; decide), fun T nT => k T _ (s1.trans (Same.add nT)) upd_same⟩⟩
end
end Lw
namespace Lw
open PySem L2 PyProof.Rows
def endT (rs : List Rule) : List Nat → List (Nat × Nat) → List Nat
  | x, [] => x
  | _, (c, _) :: W => endT rs (wd rs c) W
theorem way_snoc {rs : List Rule} {c j : Nat} : ∀ {W : List (Nat × Nat)} {x : List Nat}, Way rs x W → (endT rs x W)[j]? = some c → Way rs x (W ++ [(c, j)]) ∧ endT rs x (W ++ [(c, j)]) = wd rs c
  | [], x, _, h => ⟨⟨h, trivial⟩, rfl⟩
  | (d, i) :: W, x, hw, h => by
    obtain ⟨a, b⟩ := way_snoc (W := W) (x := wd rs d) hw.2 h
    exact ⟨⟨hw.1, a⟩, b⟩
section
variable {P : Program} {w : World} {K : PySem.W.Frag} {mg : Str → Option Value} {base : Heap}
def spDwn (K : PySem.W.Frag) : Sp := fun vs H Q _ => ∃ (p t : Addr) (b : Nat) (first : List Nat) (rs : List Rule) (n : Nat), vs = [.ref p, .ref t, .int (n : Int)] ∧ PenAt H p b ∧ b ≤ 700000 ∧ BookAt H t first rs ∧ Good first rs ∧ n ≤ 302 ∧
  ∀ l as W H', But p H H' → H l = none → H' l = some (.lst (as.map V.ref)) → StepsAt H' as W → Way rs first W → W.length ≤ n → PenAt H' p (b + 302) → Q (.ref l) H'
theorem scDwn : FnScope ["_law_pen_here", "_law_book_here", "_law_levels", "_law_words", "_law_text_here", "_law_found", "_law_level", "_law_index"] ["_law_pen_here", "_law_book_here", "_law_levels"] (defScope sDwn) := ⟨rfl, rfl, rfl, by decide +kernel, rfl, by decide +kernel, by decide +kernel⟩
theorem ok_dwn {f fTak : Addr} {fd fdTak : FuncData} (F : Fun K "_law_down" "_law_down" sDwn f fd)
    (GTak : FnOk P w K mg base CX0 1 fTak fdTak ["_law_pen_here", "_law_size_here"] spTak)
    (gTak : Gf K mg "_law_take" fTak fdTak ["_law_pen_here", "_law_size_here"])
    (hlen : mg "len" = none)
    (hrange : mg "range" = none)
    (hdict : mg "dict" = none)
    : FnOk P w K mg base CX0 2 f fd ["_law_pen_here", "_law_book_here", "_law_levels"] (spDwn K) := by
  refine F.ok scDwn (fun vs H Q E h => ?_) (fun cdv A outer s H vs Q E hr h => ?_)
  · obtain ⟨p, t, b, first, rs, n, rfl, _⟩ := h
    rfl
  · obtain ⟨p, t, b, first, rs, n, rfl, hP, hb, hB, hG, hn, k⟩ := h
    have hu := hu_of hr
    refine ⟨_, (pss_cons (ps_set (i := 3) scDwn.nd rfl (Or.inl rfl) (pe_callTy (call_dict_tup rfl) (by rfl) hdict (by first | exact PySem.boot_dict | decide +kernel) (pa_cons (pe_ix (ix_tupK K) (pv 1) pe_int (fun _ _ => rfl)) pa_nil)))
      (pss_cons (ps_set (i := 4) scDwn.nd rfl (Or.inl rfl) (pe_ix (ix_tupK K) (pv 1) pe_int (fun _ _ => rfl)))
      (pss_cons (ps_set (i := 5) scDwn.nd rfl (Or.inl rfl) (pe_lst pa_nil))
      (pss_cons (ps_for PassesOwn.never rfl (pi_range1 rfl hrange (pa_cons (pv 2) pa_nil)) (pg_name (i := 6) scDwn.nd rfl (Or.inl rfl)) (pss_one (ps_if (pt_cmpR op_ne (pv 4) pe_str (nomark _)) (pss_cons (ps_set (i := 7) scDwn.nd rfl (Or.inl rfl) (pe_call GTak hr rfl gTak.m gTak.k gTak.b .nil pass0 (pa_cons (pv 0) (pa_cons (pe_callB call_len_str (by rfl) hlen PySem.boot_len (pa_cons (pv 4) pa_nil)) pa_nil))))
      (pss_cons (ps_expr (pe_bmK K PySem.F.plainAttrs_list PySem.F.slot_list_append PySem.F.type_list_append mt_append (pv 5) (pa_cons (pe_tup (pa_cons (pe_ix ix_str (pv 4) (pv 7) (fun _ _ => rfl)) (pa_cons (pv 7) pa_nil))) pa_nil)))
      (pss_one (ps_set (i := 4) scDwn.nd rfl (Or.inl rfl) (pe_dget hu (pv 3) (pe_ix ix_str (pv 4) (pv 7) (fun _ _ => rfl)) (fun _ _ => rfl)))))) pss_nil)))
      (pss_one (ps_ret (pv 5))))))), ?_⟩
    obtain ⟨r, ps, b1, b2, b3⟩ := hB.ex
    have hfew := hG.few
    have pen : ∀ {X Y : Hp} {n : Nat}, PenAt X p n → (∀ o, X p = some o → Y p = some o) → PenAt Y p n := fun h s => by
      obtain ⟨a, n, f, e, r⟩ := h.ex
      exact ⟨a, n, f, s _ e, r⟩
    obtain ⟨op, hop⟩ : ∃ o, H p = some o := by obtain ⟨_, _, _, e, _⟩ := hP.ex; exact ⟨_, e⟩
    refine ⟨_, rfl, t, _, _, _, rfl, rfl, SqT.of b1, atI_nat (j := 1) rfl, r, ps, kvw rs, rfl, b2, kvw_pairs b3, by rw [kvw_keys]; exact keys_nd hG.nd, by rw [List.length_map]; omega, fun dw ndw => ?_⟩
    have s1 : Same H (upd H dw (.dK (kvw rs))) := Same.add ndw
    have hd1 : upd H dw (.dK (kvw rs)) dw = some (.dK (kvw rs)) := upd_same
    revert s1 hd1
    generalize upd H dw (.dK (kvw rs)) = H1
    intro s1 hd1
    have ndp : dw ≠ p := (ne_of_none hop ndw).symm
    refine ⟨_, rfl, t, _, _, _, rfl, rfl, SqT.of (s1 _ _ b1), atI_nat (j := 0) rfl, (by show 0 ≤ sizeLine; decide), fun l nl => ?_⟩
    have nl0 : H l = none := s1.free nl
    have nlp : l ≠ p := (ne_of_none hop nl0).symm
    have nld : l ≠ dw := (ne_of_none hd1 nl).symm
    have sl := Same.add (o := .lst []) nl
    refine ⟨_, rfl, _, rfl, by omega, by omega, ?_⟩
    refine for_by (sure_range (lo := 0) (n := Int.toNat (n : Int))) (fun i σ H2 => ∃ (as : List Addr) (W : List (Nat × Nat)) (v6 v7 : Option V), σ = [some (.ref p), some (.ref t), some (.int (n : Int)), some (.ref dw), some (tx (endT rs first W)), some (.ref l), v6, v7] ∧ But p H H2 ∧ H2 dw = some (.dK (kvw rs)) ∧ H2 l = some (.lst (as.map V.ref)) ∧ StepsAt H2 as W ∧ Way rs first W ∧ W.length ≤ i ∧ PenAt H2 p (b + i) ∧ (∀ c ∈ endT rs first W, c ∈ ltr rs) ∧ (endT rs first W).length ≤ 12)
      ⟨[], [], _, _, rfl, But.same (s1.trans sl), sl _ _ hd1, upd_same, ⟨rfl, fun i a p e => by simp at e⟩, trivial, Nat.le_refl 0, pen hP fun o h => sl _ _ (s1 _ _ h), hG.fin, hG.fl⟩ (fun _ _ _ _ _ => trivial) ?_ ?_
    · rintro i x0 σ H2 hx ⟨as, W, v6, v7, rfl, bt, hd2, hl2, hS, hW, hWl, hP2, hx', hx12⟩
      obtain ⟨hi, rfl⟩ := rng_at hx
      have hi' : i < n := by omega
      generalize hxe : endT rs first W = x at hx' hx12 ⊢
      have szx : (⟨x.toArray⟩ : Str).length ≤ sizeLine := Nat.le_of_lt (small1000 (show x.length ≤ 1000 by omega))
      refine ⟨_, rfl, rfl, _, rfl, ?_⟩
      refine ite2 (fun hc => ?_) (fun hc => ?_)
      · have hne : 0 < x.length := by
          refine List.length_pos_iff.mpr fun z => ?_
          have h' : (!decide (tx x = V.str (Str.ofString ""))) = true := hc
          rw [z, decide_eq_true (show tx [] = V.str (Str.ofString "") from rfl)] at h'
          cases h'
        refine ⟨_, rfl, _, rfl, ⟨x.toArray⟩, rfl, szx, p, _, ((x.length : Nat) : Int), rfl, hP2, by omega, by omega, ?_, fun z H3 z0 z1 hP3 e3 => ?_⟩
        · exact Int.le_trans (show ((x.length : Nat) : Int) ≤ 12 by omega) (by decide)
        obtain ⟨j, rfl⟩ : ∃ j : Nat, z = (j : Int) := ⟨z.toNat, by omega⟩
        obtain ⟨c, hc⟩ : ∃ c, x[j]? = some c := ⟨_, List.getElem?_eq_getElem (by omega)⟩
        have hcl := hx' c (List.mem_of_getElem? hc)
        have hl3 := (e3 l nlp).trans hl2
        have hd3 := (e3 dw ndp).trans hd2
        refine ⟨_, rfl, .inl ⟨rfl, _, SqL.of hl3⟩, _, rfl, _, rfl, ⟨x.toArray⟩, _, _, rfl, rfl, szx, atI_nat hc, _, rfl, (by show 2 ≤ sizeLine; decide), fun T nT => ⟨l, _, _, rfl, rfl, Same.add nT _ _ hl3, small1000 (by rw [List.length_map, hS.len]; omega), ?_⟩⟩
        have sT := Same.add (o := .tup [sign c, .int (j : Int)]) nT
        have nTl : T ≠ l := (ne_of_none hl3 nT).symm
        have hd4 := upd_in (o := .lst (as.map V.ref ++ [.ref T])) (sT _ _ hd3) nld.symm
        have hgw := DGet.k (k := (Sum.inr (one c) : Key)) hd4
        rw [kvw_wd hG.nd hcl] at hgw
        obtain ⟨w1, w2⟩ := way_snoc (j := j) (c := c) hW (by rw [hxe]; exact hc)
        refine ⟨_, rfl, _, rfl, _, rfl, ⟨x.toArray⟩, _, _, rfl, rfl, szx, atI_nat hc, dw, _, rfl, hgw, as ++ [T], W ++ [(c, j)], _, _, by rw [w2]; rfl, ?_, hd4, by rw [upd_same, List.map_append]; rfl, ?_, w1, by rw [List.length_append]; show W.length + 1 ≤ i + 1; omega, ?_, by rw [w2]; exact wd_in hG hcl, by rw [w2]; exact Nat.le_trans (wd_le hG hcl) (by decide)⟩
        · intro c' o h hn'
          exact upd_in (sT _ _ ((e3 c' hn').trans (bt _ _ h hn'))) (ne_of_none h nl0)
        · refine StepsAt.snoc (hS.mono fun a xs e => ?_) (upd_in upd_same nTl)
          have ap : a ≠ p := fun z => by
            obtain ⟨_, _, _, e', _⟩ := hP2.ex
            rw [z, e'] at e
            cases e
          have al : a ≠ l := fun z => by
            rw [z, hl2] at e
            cases e
          exact upd_in (sT _ _ ((e3 a ap).trans e)) al
        · exact (pen hP3 fun o h => upd_in (sT _ _ h) nlp.symm).mono (by omega)
      · exact ⟨as, W, _, _, by rw [hxe]; rfl, bt, hd2, hl2, hS, hW, by omega, hP2.mono (by omega), by rw [hxe]; exact hx', by rw [hxe]; exact hx12⟩
    · rintro σ H2 ⟨as, W, v6, v7, rfl, bt, hd2, hl2, hS, hW, hWl, hP2, hx', hx12⟩
      have en : (Int.toNat (n : Int)) = n := Int.toNat_natCast n
      rw [rngV_length, en] at hWl hP2
      exact ⟨_, rfl, k l as W H2 bt nl0 hl2 hS hW hWl (hP2.mono (by omega))⟩
end
end Lw
namespace Lw
open PySem L2 PyProof.Rows
theorem ElsAt.nil {K : PySem.W.Frag} {H : Hp} : ElsAt K H [] [] := ⟨rfl, fun i v e a => by simp at a⟩
theorem ElsAt.cons {K : PySem.W.Frag} {H : Hp} {v : V} {vs : List V} {e : Elt} {es : List Elt} (a : EltAt K H v e) (b : ElsAt K H vs es) : ElsAt K H (v :: vs) (e :: es) :=
  ⟨by rw [List.length_cons, List.length_cons, b.len], fun i v' e' h1 h2 => by
    cases i with
    | zero => cases h1; cases h2; exact a
    | succ i => exact b.at_ i v' e' h1 h2⟩
theorem ElsAt.app {K : PySem.W.Frag} {H : Hp} {vs vs' : List V} {es es' : List Elt} (a : ElsAt K H vs es) (b : ElsAt K H vs' es') : ElsAt K H (vs ++ vs') (es ++ es') :=
  ⟨by rw [List.length_append, List.length_append, a.len, b.len], fun i v e h1 h2 => by
    by_cases hi : i < vs.length
    · rw [List.getElem?_append_left hi] at h1
      rw [List.getElem?_append_left (by rw [← a.len]; exact hi)] at h2
      exact a.at_ i v e h1 h2
    · rw [List.getElem?_append_right (by omega)] at h1
      rw [List.getElem?_append_right (by rw [← a.len]; omega), ← a.len] at h2
      exact b.at_ _ v e h1 h2⟩
theorem ElsAt.drop {K : PySem.W.Frag} {H : Hp} {vs : List V} {es : List Elt} (a : ElsAt K H vs es) (m : Nat) : ElsAt K H (vs.drop m) (es.drop m) :=
  ⟨by rw [List.length_drop, List.length_drop, a.len], fun i v e h1 h2 => by
    rw [List.getElem?_drop] at h1 h2
    exact a.at_ _ v e h1 h2⟩
theorem ElsAt.take {K : PySem.W.Frag} {H : Hp} {vs : List V} {es : List Elt} (a : ElsAt K H vs es) (m : Nat) : ElsAt K H (vs.take m) (es.take m) :=
  ⟨by rw [List.length_take, List.length_take, a.len], fun i v e h1 h2 => by
    rw [List.getElem?_take] at h1 h2
    by_cases hm : i < m
    · rw [if_pos hm] at h1 h2
      exact a.at_ _ v e h1 h2
    · rw [if_neg hm] at h1
      cases h1⟩
def goods (W : List (Nat × Nat)) : List Elt := W.map fun q => .good q.1 (q.2 : Int)
theorem goods_at {K : PySem.W.Frag} {H : Hp} {as : List Addr} {W : List (Nat × Nat)} (h : StepsAt H as W) (hl : ∀ q ∈ W, 97 ≤ q.1 ∧ q.1 ≤ 122) : ElsAt K H (as.map V.ref) (goods W) :=
  ⟨by unfold goods; rw [List.length_map, List.length_map, h.len], fun i v e h1 h2 => by
    unfold goods at h2
    rw [List.getElem?_map] at h1 h2
    cases ea : as[i]? with
    | none => rw [ea] at h1; cases h1
    | some a =>
      cases ew : W[i]? with
      | none => rw [ew] at h2; cases h2
      | some q =>
        rw [ea] at h1
        rw [ew] at h2
        cases h1
        cases h2
        have := hl q (List.mem_of_getElem? ew)
        exact ⟨a, rfl, h.at_ i a q ea ew, this.1, this.2⟩⟩
def Thing (K : PySem.W.Frag) (H : Hp) (m : Nat) (z : V) : Prop := (z = .non ∨ (∃ n, z = .int n) ∨ (∃ x : Str, z = .str x) ∨ ∃ a as W, z = .ref a ∧ H a = some (.tup (as.map V.ref)) ∧ StepsAt H as W) ∨
  ∃ a us es, z = .ref a ∧ H a = some (.lst us) ∧ ElsAt K H us es ∧ es.length ≤ m
theorem Thing.keep {K : PySem.W.Frag} {H H' : Hp} {m : Nat} {z : V} (h : Thing K H m z) (s : Same H H') : Thing K H' m z := by
  rcases h with (h | h | h | ⟨a, as, W, e, h1, h2⟩) | ⟨a, us, es, e, h1, h2, h3⟩
  · exact .inl (.inl h)
  · exact .inl (.inr (.inl h))
  · exact .inl (.inr (.inr (.inl h)))
  · exact .inl (.inr (.inr (.inr ⟨a, as, W, e, s _ _ h1, h2.mono (TupS.same s)⟩)))
  · exact .inr ⟨a, us, es, e, s _ _ h1, h2.keep s, h3⟩
def MkE (K : PySem.W.Frag) (σ : L2.St) (H0 : Hp) (t : TE) (e : Elt) : Prop := ∀ (H : Hp) (Q : VK), Same H0 H → (∀ v H', Same H H' → EltAt K H' v e → Q v H') → t σ H Q
def MkL (K : PySem.W.Frag) (σ : L2.St) (H0 : Hp) (ts : TA) (es : List Elt) : Prop := ∀ (H : Hp) (Q : List V → Hp → Prop), Same H0 H → (∀ vs H', Same H H' → ElsAt K H' vs es → Q vs H') → ts σ H Q
theorem MkL.nil {K : PySem.W.Frag} {σ : L2.St} {H0 : Hp} : MkL K σ H0 tNil [] := fun H Q _ k => k [] H (Same.refl _) ElsAt.nil
theorem MkL.cons {K : PySem.W.Frag} {σ : L2.St} {H0 : Hp} {t : TE} {ts : TA} {e : Elt} {es : List Elt} (a : MkE K σ H0 t e) (b : MkL K σ H0 ts es) : MkL K σ H0 (tCons t ts) (e :: es) :=
  fun H Q s k => a H _ s fun v H1 s1 hv => b H1 _ (s.trans s1) fun vs H2 s2 hvs => k (v :: vs) H2 (s1.trans s2) (.cons (hv.keep s2) hvs)
theorem MkL.asg {K : PySem.W.Frag} {σ : L2.St} {H0 : Hp} {ts : TA} {es : List Elt} {g : TG} {D : Ends} (m : MkL K σ H0 ts es) (n : es.length ≤ 1000) (k : ∀ a vs H', Same H0 H' → H' a = some (.lst vs) → ElsAt K H' vs es → g (.ref a) σ H' D.nx) : tAsg (tLst ts) g D σ H0 :=
  m H0 _ (Same.refl _) fun vs H1 s1 hv => ⟨Nat.le_of_lt (small1000 (by rw [hv.len]; exact n)), fun a na => k a vs _ (s1.trans (Same.add na)) upd_same (hv.keep (Same.add na))⟩
theorem MkL.add {K : PySem.W.Frag} {σ : L2.St} {H0 : Hp} {ts : TA} {es es0 : List Elt} {g : TG} {D : Ends} {i : Nat} {a0 : Addr} {vs0 : List V} (h0 : σ[i]? = some (some (.ref a0))) (h1 : H0 a0 = some (.lst vs0)) (h2 : ElsAt K H0 vs0 es0) (m : MkL K σ H0 ts es) (n : es0.length + es.length ≤ 1000) (k : ∀ a vs H', Same H0 H' → H' a = some (.lst vs) → ElsAt K H' vs (es0 ++ es) → g (.ref a) σ H' D.nx) : tAsg (tOp rCat (tVar i) (tLst ts)) g D σ H0 :=
  ⟨_, h0, m H0 _ (Same.refl _) fun vs H1 s1 hv => ⟨Nat.le_of_lt (small1000 (by rw [hv.len]; omega)), fun a na =>
    have sa := Same.add (o := .lst vs) na
    ⟨a0, a, vs0, vs, rfl, rfl, sa _ _ (s1 _ _ h1), upd_same, Nat.le_of_lt (small1000 (by rw [hv.len, h2.len]; omega)), fun b nb => k b _ _ (s1.trans (sa.trans (Same.add nb))) upd_same (((h2.keep (s1.trans sa)).app (hv.keep sa)).keep (Same.add nb))⟩⟩⟩
theorem cut_drop (xs : List V) (m : Nat) : cutV xs (some (m : Int)) none = xs.drop m := by
  unfold cutV
  rw [HT.sIx_nat, HT.sIx_none]
  rw [List.take_of_length_le (by rw [List.length_drop]; omega)]
  by_cases h : m ≤ xs.length
  · rw [Nat.min_eq_left h]
  · rw [Nat.min_eq_right (by omega), List.drop_of_length_le (Nat.le_refl _), List.drop_of_length_le (by omega)]
theorem els_get {K : PySem.W.Frag} {H : Hp} {vs : List V} {es : List Elt} (h : ElsAt K H vs es) {i : Nat} (hi : i < es.length) : ∃ v e, vs[i]? = some v ∧ EltAt K H v e := by
  obtain ⟨v, hv⟩ : ∃ v, vs[i]? = some v := ⟨_, List.getElem?_eq_getElem (by rw [h.len]; exact hi)⟩
  exact ⟨v, _, hv, h.at_ i v _ hv (List.getElem?_eq_getElem hi)⟩
section
variable {P : Program} {w : World} {K : PySem.W.Frag} {mg : Str → Option Value} {base : Heap}
theorem scSpo : FnScope ["_law_pen_here", "_law_steps", "_law_pick", "_law_at", "_law_letter", "_law_index", "_law_other", "_law_some"] ["_law_pen_here", "_law_steps"] (defScope sSpo) := ⟨rfl, rfl, rfl, by decide +kernel, rfl, by decide +kernel, by decide +kernel⟩
theorem tail_spo {f : Addr} {cdv : Value} {A : Around} {outer : List Env} {s : Shared} {H : Hp} {E : XK}
    (hbool : mg "bool" = none)
    (hstr : mg "str" = none)
    (hr : Room 1 (A.deeper (PyProof.Rows.envOfC "_law_spoiled" (defScope sSpo) s.heap.objs.size f cdv))) :
    ∃ tt, PSs (cxOf CX0 P w K mg base ["_law_pen_here", "_law_steps", "_law_pick", "_law_at", "_law_letter", "_law_index", "_law_other", "_law_some"] "_law_spoiled" (defScope sSpo) f cdv A outer s H E).nox ((defBody sSpo).drop 8) tt ∧
      ∀ (D : Ends) (l : Addr) (as : List Addr) (W : List (Nat × Nat)) (pick i c j o : Nat) (v0 v7 : Option V) (H0 : Hp), H0 l = some (.lst (as.map V.ref)) → StepsAt H0 as W → (∀ q ∈ W, 97 ≤ q.1 ∧ q.1 ≤ 122) → pick < 15 → i < W.length → W.length ≤ 302 → 97 ≤ c → c ≤ 122 → 97 ≤ o → o ≤ 122 → j ≤ 1000 →
        (∀ z H', Same H0 H' → Thing K H' (W.length + 1) z → D.rt z H') →
        tt D [v0, some (.ref l), some (.int (pick : Int)), some (.int (i : Int)), some (sign c), some (.int (j : Int)), some (sign o), v7] H0 := by
  obtain ⟨s8, s9, s10, s11, hd, h8, h9, h10, h11⟩ : ∃ s8 s9 s10 s11, (defBody sSpo).drop 8 = [s8, s9, s10, s11] ∧ s8 = (defBody sSpo).getD 8 (.Pass ⟨0, 0, 0, 0⟩) ∧ s9 = (defBody sSpo).getD 9 (.Pass ⟨0, 0, 0, 0⟩) ∧ s10 = (defBody sSpo).getD 10 (.Pass ⟨0, 0, 0, 0⟩) ∧ s11 = (defBody sSpo).getD 11 (.Pass ⟨0, 0, 0, 0⟩) := ⟨_, _, _, _, rfl, rfl, rfl, rfl, rfl⟩
  rw [hd]
  refine ⟨_, pss_cons (ps_set5 7 (h8.trans rfl) (pe_tup (pa_cons (pv 4) (pa_cons (pe_op op_add (pv 5) pe_int) pa_nil))) (pe_tup (pa_cons (pv 4) (pa_cons (pe_op op_sub (pv 5) pe_int) pa_nil))) (pe_tup (pa_cons (pv 4) (pa_cons (pe_callTy call_bool1 (by rfl) hbool (show bootBuiltins "bool" = some (.type "bool") by decide +kernel) (pa_cons (pv 5) pa_nil)) pa_nil))) (pe_tup (pa_cons (pv 6) (pa_cons (pv 5) pa_nil))) (pe_lst (pa_cons (pv 4) (pa_cons (pv 5) pa_nil))) scSpo.nd rfl (Or.inl rfl) (by first | exact .inl rfl | exact .inr rfl) ns_T ns_T ns_T ns_T ns_L)
    (pss_cons (ps_add5 7 (h9.trans rfl) (pv 7) (pe_tup (pa_cons (pv 4) (pa_cons (pv 5) (pa_cons pe_int pa_nil)))) (pe_tup (pa_cons (pv 4) (pa_cons (pe_callTy call_strI (by rfl) hstr (show bootBuiltins "str" = some (.type "str") by decide +kernel) (pa_cons (pv 5) pa_nil)) pa_nil))) (pe_tup (pa_cons (pv 4) (pa_cons pe_non pa_nil))) (pe_tup (pa_cons (pv 4) (pa_cons (pe_tup (pa_cons (pv 5) pa_nil)) pa_nil))) (pe_tup (pa_cons (pe_lst (pa_cons (pv 4) pa_nil)) (pa_cons (pv 5) pa_nil))) scSpo.nd rfl (Or.inl rfl) (by first | exact .inl rfl | exact .inr rfl) ns_T ns_T ns_T ns_T ns_T)
    (pss_cons (ps_add5 7 (h10.trans rfl) (pv 7) (pe_tup (pa_cons pe_non (pa_cons (pv 5) pa_nil))) (pe_tup (pa_cons (pe_op op_add_str (pv 4) (pv 4)) (pa_cons (pv 5) pa_nil))) pe_non pe_int (pv 4) scSpo.nd rfl (Or.inl rfl) (by first | exact .inl rfl | exact .inr rfl) ns_T ns_T ns_C ns_C ns_N)
    (pss_one (ps_eq h11 (ps_ret (pe_op op_cat (pe_op op_cat (pe_slice (sl_listK K) (pv 1) po_none (po_some (pv 3))) (pe_lst (pa_cons (pe_ix (ix_listK K) (pv 7) (pv 2) (fun _ _ => rfl)) pa_nil))) (pe_slice (sl_listK K) (pv 1) (po_some (pe_op op_add (pv 3) pe_int)) po_none))))))), ?_⟩
  intro D l as W pick i c j o v0 v7 H0 hl hS hlet hp hi hW c0 c1 o0 o1 hj k
  have hE := goods_at (K := K) hS hlet
  have hEl : (goods W).length = W.length := by unfold goods; rw [List.length_map]
  have hjB : ((j : Nat) : Int).natAbs < 2 ^ 1900 := by
    rw [Int.natAbs_natCast]
    exact Nat.lt_of_le_of_lt hj (by decide +kernel)
  have sz : ∀ m, m ≤ 3 → m ≤ sizeLine := fun m h => Nat.le_trans h (by decide)
  rw [tSeq]
  refine MkL.asg (K := K) (es := [.good c ((j : Int) + 1), .good c ((j : Int) - 1), .bad, .good o (j : Int), .bad])
    (MkL.cons (fun H Q s k => ⟨_, rfl, _, rfl, _, _, rfl, rfl, sz 2 (by decide), fun T nT => k _ _ (Same.add nT) ⟨T, rfl, upd_same, c0, c1⟩⟩)
    (MkL.cons (fun H Q s k => ⟨_, rfl, _, rfl, _, _, rfl, rfl, sz 2 (by decide), fun T nT => k _ _ (Same.add nT) ⟨T, rfl, upd_same, c0, c1⟩⟩)
    (MkL.cons (fun H Q s k => ⟨_, rfl, _, rfl, .inl ⟨_, rfl, sz 2 (by decide), fun T nT => k _ _ (Same.add nT) (.inr (.inl ⟨T, c, _, rfl, upd_same, c0, c1, ⟨_, TyOf.bl _, .inl rfl⟩⟩))⟩⟩)
    (MkL.cons (fun H Q s k => ⟨_, rfl, _, rfl, sz 2 (by decide), fun T nT => k _ _ (Same.add nT) ⟨T, rfl, upd_same, o0, o1⟩⟩)
    (MkL.cons (fun H Q s k => ⟨_, rfl, _, rfl, sz 2 (by decide), fun T nT => k _ _ (Same.add nT) (.inl (.inl ⟨_, TyOf.lst upd_same, .inr (.inr (.inr rfl))⟩))⟩)
    MkL.nil))))) (by show 5 ≤ 1000; decide) (fun a1 us1 H1 s1 ha1 hu1 => ?_)
  refine MkL.add (K := K) (i := 7) (a0 := a1) (vs0 := us1) (es := [.bad, .bad, .bad, .bad, .bad]) rfl ha1 hu1
    (MkL.cons (fun H Q s k => ⟨_, rfl, _, rfl, sz 3 (by decide), fun T nT => k _ _ (Same.add nT) (.inl (.inr ⟨T, _, _, _, rfl, upd_same⟩))⟩)
    (MkL.cons (fun H Q s k => ⟨_, rfl, _, rfl, _, rfl, hjB, fun z hz => ⟨sz 2 (by decide), fun T nT => k _ _ (Same.add nT) (.inr (.inl ⟨T, c, _, rfl, upd_same, c0, c1, ⟨_, TyOf.str _, .inr (.inr (.inl rfl))⟩⟩))⟩⟩)
    (MkL.cons (fun H Q s k => ⟨_, rfl, sz 2 (by decide), fun T nT => k _ _ (Same.add nT) (.inr (.inl ⟨T, c, _, rfl, upd_same, c0, c1, ⟨_, TyOf.non, .inr (.inl rfl)⟩⟩))⟩)
    (MkL.cons (fun H Q s k => ⟨_, rfl, _, rfl, sz 1 (by decide), fun T1 nT1 => ⟨sz 2 (by decide), fun T nT => k _ _ ((Same.add nT1).trans (Same.add nT)) (.inr (.inl ⟨T, c, _, rfl, upd_same, c0, c1, ⟨_, TyOf.tup (Same.add nT _ _ upd_same), .inr (.inr (.inr (.inr rfl)))⟩⟩))⟩⟩)
    (MkL.cons (fun H Q s k => ⟨_, rfl, sz 1 (by decide), fun L1 nL1 => ⟨_, rfl, sz 2 (by decide), fun T nT => k _ _ ((Same.add nL1).trans (Same.add nT)) (.inr (.inr ⟨T, .ref L1, (j : Int), rfl, upd_same, .inr (.inl ⟨L1, _, rfl, Same.add nT _ _ upd_same⟩)⟩))⟩⟩)
    MkL.nil))))) (by show 10 ≤ 1000; decide) (fun a2 us2 H2 s2 ha2 hu2 => ?_)
  refine MkL.add (K := K) (i := 7) (a0 := a2) (vs0 := us2) (es := [.bad, .bad, .bad, .bad, .bad]) rfl ha2 hu2
    (MkL.cons (fun H Q s k => ⟨_, rfl, sz 2 (by decide), fun T nT => k _ _ (Same.add nT) (.inr (.inr ⟨T, .non, (j : Int), rfl, upd_same, .inl rfl⟩))⟩)
    (MkL.cons (fun H Q s k => ⟨_, rfl, _, rfl, _, _, rfl, rfl, sz 2 (by decide), _, rfl, sz 2 (by decide), fun T nT => k _ _ (Same.add nT) (.inr (.inr ⟨T, _, (j : Int), rfl, upd_same, .inr (.inr ⟨[c, c], (by show V.str ((⟨[c].toArray⟩ : Str) ++ ⟨[c].toArray⟩) = _; rw [tx_app]; rfl), by show (2 : Nat) ≠ 1; decide, by show 2 ≤ 1000; decide⟩)⟩))⟩)
    (MkL.cons (fun H Q s k => k _ _ (Same.refl _) (.inl (.inl ⟨_, TyOf.non, .inl rfl⟩)))
    (MkL.cons (fun H Q s k => k _ _ (Same.refl _) (.inl (.inl ⟨_, TyOf.int _, .inr (.inl rfl)⟩)))
    (MkL.cons (fun H Q s k => ⟨_, rfl, k _ _ (Same.refl _) (.inl (.inl ⟨_, TyOf.str _, .inr (.inr (.inl rfl))⟩))⟩)
    MkL.nil))))) (by show 15 ≤ 1000; decide) (fun a3 us3 H3 s3 ha3 hu3 => ?_)
  obtain ⟨z, e, hz, he⟩ := els_get hu3 (i := pick) (by show pick < 15; exact hp)
  have s03 := s1.trans (s2.trans s3)
  have hl3 := s03 _ _ hl
  have hE3 := hE.keep s03
  have la : (as.map V.ref).length = W.length := by rw [List.length_map, hS.len]
  refine ⟨_, rfl, _, rfl, _, rfl, l, _, rfl, SqL.of hl3, fun P1 nP1 => ⟨_, rfl, _, rfl, a3, _, _, _, rfl, rfl, SqL.of (Same.add nP1 _ _ ha3), atI_nat hz, sz 1 (by decide), fun P2 nP2 => ?_⟩⟩
  rw [cut_take] at nP2 ⊢
  have sA := Same.add (o := .lst ((as.map V.ref).take i)) nP1
  have sB := Same.add (o := .lst [z]) nP2
  refine ⟨P1, P2, _, _, rfl, rfl, sB _ _ upd_same, upd_same, Nat.le_of_lt (small1000 (by rw [List.length_take, la]; show _ + 1 ≤ 1000; omega)), fun P3 nP3 => ?_⟩
  have sC := Same.add (o := .lst ((as.map V.ref).take i ++ [z])) nP3
  have s3C := sA.trans (sB.trans sC)
  have hP3 := upd_same (H := upd (upd H3 P1 (.lst ((as.map V.ref).take i))) P2 (.lst [z])) (a := P3) (o := .lst ((as.map V.ref).take i ++ [z]))
  revert s3C hP3
  generalize upd (upd (upd H3 P1 (.lst ((as.map V.ref).take i))) P2 (.lst [z])) P3 (.lst ((as.map V.ref).take i ++ [z])) = H4
  intro s3C hP3
  refine ⟨_, rfl, _, rfl, _, _, rfl, rfl, _, rfl, l, _, rfl, SqL.of (s3C _ _ hl3), fun P4 nP4 => ?_⟩
  rw [show ((i : Int) + 1) = ((i + 1 : Nat) : Int) by omega, cut_drop]
  have sD := Same.add (o := .lst ((as.map V.ref).drop (i + 1))) nP4
  refine ⟨P3, P4, _, _, rfl, rfl, sD _ _ hP3, upd_same, Nat.le_of_lt (small1000 (by rw [List.length_append, List.length_take, List.length_drop, la]; show _ + 1 + _ ≤ 1000; omega)), fun P5 nP5 => ?_⟩
  have sE := Same.add (o := .lst ((as.map V.ref).take i ++ [z] ++ (as.map V.ref).drop (i + 1))) nP5
  have s3E := s3C.trans (sD.trans sE)
  refine k _ _ (s03.trans s3E) (.inr ⟨P5, _, (goods W).take i ++ [e] ++ (goods W).drop (i + 1), rfl, upd_same, ?_, ?_⟩)
  · exact (((hE3.take i).app (.cons he .nil)).app (hE3.drop (i + 1))).keep s3E
  · rw [List.length_append, List.length_append, List.length_take, List.length_drop, hEl]
    show _ + 1 + _ ≤ _
    omega
end
end Lw
namespace Lw
open PySem L2 PyProof.Rows
theorem pt_eq {X : Cx} {a b : Expr} {t : TT} (h : a = b) (p : PT X b t) : PT X a t := h ▸ p
def testOf : Stmt → Expr
  | .If t _ _ _ => t
  | _ => .Name "" ⟨0, 0, 0, 0⟩
section
variable {P : Program} {w : World} {K : PySem.W.Frag} {mg : Str → Option Value} {base : Heap}
theorem odd_ret {D : Ends} {σ : L2.St} {H : Hp} {p : Addr} {b m : Nat} (hσ : σ[0]? = some (some (.ref p))) (hP : PenAt H p b) (hb : b ≤ 900000) (hm : 1 ≤ m) (k : ∀ z H', But p H H' → Thing K H' m z → D.rt z H') :
    tRet (tOp (rIxL K) (tLst (tCons (tLst tNil) (tCons (tC V.non) (tCons (tTup tNil) (tCons (tC (V.str (Str.ofString "a"))) (tCons (tLst (tCons (tTup (tCons (tC (V.str (Str.ofString "a"))) (tCons (tC (V.int 0)) tNil))) tNil)) (tCons (tC (V.int 3)) tNil))))))) (tCall spTak [] E0 (tCons (tVar 0) (tCons (tC (V.int 6)) tNil)))) D σ H := by
  have sz : ∀ m, m ≤ 6 → m ≤ sizeLine := fun m h => Nat.le_trans h (by decide)
  refine ⟨sz 0 (by decide), fun L0 n0 => ⟨sz 0 (by decide), fun T0 n1 => ⟨sz 2 (by decide), fun T1 n2 => ⟨sz 1 (by decide), fun L1 n3 => ⟨sz 6 (by decide), fun M nM => ?_⟩⟩⟩⟩⟩
  obtain ⟨o0, ho0⟩ := hP.some
  have f0 := ho0
  have q0 := (ne_of_none f0 n0).symm
  have r0 := upd_same (H := H) (a := L0) (o := .lst [])
  have s0 := Same.add (o := .lst []) n0
  revert q0 r0 s0 n1 n2 n3 nM
  generalize upd H L0 (.lst []) = Ha
  intro n1 n2 n3 nM q0 r0 s0
  have f1 := s0 _ _ f0
  have q1 := (ne_of_none f1 n1).symm
  have r1 := upd_same (H := Ha) (a := T0) (o := .tup [])
  have s1 := Same.add (o := .tup []) n1
  revert q1 r1 s1 n2 n3 nM
  generalize upd Ha T0 (.tup []) = Hb
  intro n2 n3 nM q1 r1 s1
  have f2 := s1 _ _ f1
  have q2 := (ne_of_none f2 n2).symm
  have r2 := upd_same (H := Hb) (a := T1) (o := .tup [V.str (Str.ofString "a"), V.int 0])
  have s2 := Same.add (o := .tup [V.str (Str.ofString "a"), V.int 0]) n2
  revert q2 r2 s2 n3 nM
  generalize upd Hb T1 (.tup [V.str (Str.ofString "a"), V.int 0]) = Hc
  intro n3 nM q2 r2 s2
  have f3 := s2 _ _ f2
  have q3 := (ne_of_none f3 n3).symm
  have r3 := upd_same (H := Hc) (a := L1) (o := .lst [V.ref T1])
  have s3 := Same.add (o := .lst [V.ref T1]) n3
  revert q3 r3 s3 nM
  generalize upd Hc L1 (.lst [V.ref T1]) = Hd
  intro nM q3 r3 s3
  have f4 := s3 _ _ f3
  have q4 := (ne_of_none f4 nM).symm
  have r4 := upd_same (H := Hd) (a := M) (o := .lst [V.ref L0, V.non, V.ref T0, V.str (Str.ofString "a"), V.ref L1, V.int 3])
  have s4 := Same.add (o := .lst [V.ref L0, V.non, V.ref T0, V.str (Str.ofString "a"), V.ref L1, V.int 3]) nM
  revert q4 r4 s4
  generalize upd Hd M (.lst [V.ref L0, V.non, V.ref T0, V.str (Str.ofString "a"), V.ref L1, V.int 3]) = He
  intro q4 r4 s4
  have sHe := s0.trans (s1.trans (s2.trans (s3.trans s4)))
  refine ⟨_, hσ, p, b, 6, rfl, hP.other ((sHe _ _ ho0).trans ho0.symm), by omega, by decide, by decide, fun q Hf z0 z1 hPf ef => ?_⟩
  obtain ⟨j, rfl⟩ : ∃ j : Nat, q = (j : Int) := ⟨q.toNat, by omega⟩
  have hj : j < 6 := by omega
  have bt : But p H Hf := fun c o h n => (ef c n).trans (sHe _ _ h)
  have g0 := (ef L0 q0).trans (s4 _ _ (s3 _ _ (s2 _ _ (s1 _ _ r0))))
  have g1 := (ef T0 q1).trans (s4 _ _ (s3 _ _ (s2 _ _ r1)))
  have g2 := (ef T1 q2).trans (s4 _ _ (s3 _ _ r2))
  have g3 := (ef L1 q3).trans (s4 _ _ r3)
  have g4 := (ef M q4).trans r4
  rw [show Str.ofString "a" = one 97 by decide +kernel] at g2
  have pick : ∃ z, ([V.ref L0, V.non, V.ref T0, V.str (Str.ofString "a"), V.ref L1, V.int 3] : List V)[j]? = some z ∧ Thing K Hf m z := by
    rcases j with _ | _ | _ | _ | _ | _ | j
    · exact ⟨_, rfl, .inr ⟨L0, [], [], rfl, g0, ElsAt.nil, Nat.zero_le _⟩⟩
    · exact ⟨_, rfl, .inl (.inl rfl)⟩
    · exact ⟨_, rfl, .inl (.inr (.inr (.inr ⟨T0, [], [], rfl, g1, rfl, fun i a p e => by simp at e⟩)))⟩
    · exact ⟨_, rfl, .inl (.inr (.inr (.inl ⟨_, rfl⟩)))⟩
    · exact ⟨_, rfl, .inr ⟨L1, [.ref T1], [.good 97 0], rfl, g3, .cons ⟨T1, rfl, g2, by decide, by decide⟩ .nil, hm⟩⟩
    · exact ⟨_, rfl, .inl (.inr (.inl ⟨_, rfl⟩))⟩
    · omega
  obtain ⟨z, y1, y2⟩ := pick
  exact ⟨M, _, _, _, rfl, rfl, SqL.of g4, atI_nat y1, k z Hf bt y2⟩
theorem abc_at {j : Nat} (h : j < 26) : ([97, 98, 99, 100, 101, 102, 103, 104, 105, 106, 107, 108, 109, 110, 111, 112, 113, 114, 115, 116, 117, 118, 119, 120, 121, 122] : List Nat)[j]? = some (97 + j) := by
  have : ∀ i : Fin 26, ([97, 98, 99, 100, 101, 102, 103, 104, 105, 106, 107, 108, 109, 110, 111, 112, 113, 114, 115, 116, 117, 118, 119, 120, 121, 122] : List Nat)[i.1]? = some (97 + i.1) := by decide
  exact this ⟨j, h⟩
def spSpo (K : PySem.W.Frag) : Sp := fun vs H Q _ => ∃ (p l : Addr) (b : Nat) (as : List Addr) (W : List (Nat × Nat)), vs = [.ref p, .ref l] ∧ PenAt H p b ∧ b ≤ 700000 ∧ H l = some (.lst (as.map V.ref)) ∧ StepsAt H as W ∧ (∀ q ∈ W, 97 ≤ q.1 ∧ q.1 ≤ 122 ∧ q.2 ≤ 1000) ∧ W.length ≤ 302 ∧ l ≠ p ∧
  ∀ z H', But p H H' → Thing K H' (W.length + 1) z → Q z H'
theorem ok_spo {f fTak : Addr} {fd fdTak : FuncData} (F : Fun K "_law_spoiled" "_law_spoiled" sSpo f fd)
    (GTak : FnOk P w K mg base CX0 1 fTak fdTak ["_law_pen_here", "_law_size_here"] spTak)
    (gTak : Gf K mg "_law_take" fTak fdTak ["_law_pen_here", "_law_size_here"])
    (hlen : mg "len" = none)
    (htuple : mg "tuple" = none)
    (hbool : mg "bool" = none)
    (hstr : mg "str" = none)
    : FnOk P w K mg base CX0 2 f fd ["_law_pen_here", "_law_steps"] (spSpo K) := by
  refine F.ok scSpo (fun vs H Q E h => ?_) (fun cdv A outer s H vs Q E hr h => ?_)
  · obtain ⟨p, l, b, as, W, rfl, _⟩ := h
    rfl
  · obtain ⟨p, l, b, as, W, rfl, hP, hb, hl, hS, hq, hW, nlp, k⟩ := h
    obtain ⟨tt, hps, htl⟩ := tail_spo (P := P) (w := w) (K := K) (mg := mg) (base := base) (f := f) (cdv := cdv) (A := A) (outer := outer) (s := s) (H := H) (E := E) hbool hstr hr
    obtain ⟨s0, s1, s2, s3, s4, s5, s6, s7, rest, hd, h0, h1, h2, h3, h4, h5, h6, h7, hrest⟩ : ∃ s0 s1 s2 s3 s4 s5 s6 s7 rest, defBody sSpo = s0 :: s1 :: s2 :: s3 :: s4 :: s5 :: s6 :: s7 :: rest ∧ s0 = (defBody sSpo).getD 0 (.Pass ⟨0, 0, 0, 0⟩) ∧ s1 = (defBody sSpo).getD 1 (.Pass ⟨0, 0, 0, 0⟩) ∧ s2 = (defBody sSpo).getD 2 (.Pass ⟨0, 0, 0, 0⟩) ∧ s3 = (defBody sSpo).getD 3 (.Pass ⟨0, 0, 0, 0⟩) ∧ s4 = (defBody sSpo).getD 4 (.Pass ⟨0, 0, 0, 0⟩) ∧ s5 = (defBody sSpo).getD 5 (.Pass ⟨0, 0, 0, 0⟩) ∧ s6 = (defBody sSpo).getD 6 (.Pass ⟨0, 0, 0, 0⟩) ∧ s7 = (defBody sSpo).getD 7 (.Pass ⟨0, 0, 0, 0⟩) ∧ rest = (defBody sSpo).drop 8 := ⟨_, _, _, _, _, _, _, _, _, rfl, rfl, rfl, rfl, rfl, rfl, rfl, rfl, rfl, rfl⟩
    obtain ⟨tst, a0, ps1, hs1, ht, ha⟩ : ∃ tst a0 ps1, s1 = .If tst [a0] [] ps1 ∧ tst = testOf ((defBody sSpo).getD 1 (.Pass ⟨0, 0, 0, 0⟩)) ∧ a0 = (inner ((defBody sSpo).getD 1 (.Pass ⟨0, 0, 0, 0⟩))).getD 0 (.Pass ⟨0, 0, 0, 0⟩) := ⟨_, _, _, h1.trans rfl, rfl, rfl⟩
    rw [← hrest] at hps
    rw [hd]
    refine ⟨_, (pss_cons (ps_eq h0 (ps_set (i := 2) scSpo.nd rfl (Or.inl rfl) (pe_call GTak hr rfl gTak.m gTak.k gTak.b .nil pass0 (pa_cons (pv 0) (pa_cons pe_int pa_nil)))))
      (pss_cons (ps_eq hs1 (ps_if (pt_eq ht (PW.pt (pw_or (pt_cmpR op_gt (pv 2) pe_int (nomark _)) (pw_or1 (pt_cmpR (op_eqL0K K hr.units) (pv 1) (pe_lst pa_nil) (nomark _)))))) (pss_one (ps_ret6 (ha.trans rfl) (ix_listK K) (pe_lst pa_nil) pe_non (pe_tup pa_nil) pe_str (pe_lst (pa_cons (pe_tup (pa_cons pe_str (pa_cons pe_int pa_nil))) pa_nil)) pe_int (pe_call GTak hr rfl gTak.m gTak.k gTak.b .nil pass0 (pa_cons (pv 0) (pa_cons pe_int pa_nil))) (fun _ _ => rfl) ns_L ns_C ns_T ns_C ns_L ns_C)) pss_nil))
      (pss_cons (ps_eq h2 (ps_set (i := 3) scSpo.nd rfl (Or.inl rfl) (pe_call GTak hr rfl gTak.m gTak.k gTak.b .nil pass0 (pa_cons (pv 0) (pa_cons (pe_callB (call_lenK K) (by rfl) hlen PySem.boot_len (pa_cons (pv 1) pa_nil)) pa_nil)))))
      (pss_cons (ps_eq h3 (ps_asg (pe_ix (ix_listK K) (pv 1) (pv 3) (fun _ _ => rfl)) (pg_tupK K (n := 2) rfl (pgs_cons (pg_name (i := 4) scSpo.nd rfl (Or.inl rfl)) (pgs_cons (pg_name (i := 5) scSpo.nd rfl (Or.inl rfl)) pgs_nil)))))
      (pss_cons (ps_eq h4 (ps_set (i := 6) scSpo.nd rfl (Or.inl rfl) (pe_ix ix_str pe_str (pe_call GTak hr rfl gTak.m gTak.k gTak.b .nil pass0 (pa_cons (pv 0) (pa_cons pe_int pa_nil))) (fun _ _ => rfl))))
      (pss_cons (ps_eq h5 (ps_if (pt_cmpR op_eq (pv 2) pe_int (nomark _)) (pss_one (ps_ret (pe_op op_cat (pe_slice (sl_listK K) (pv 1) po_none (po_some (pv 3))) (pe_slice (sl_listK K) (pv 1) (po_some (pe_op op_add (pv 3) pe_int)) po_none)))) pss_nil))
      (pss_cons (ps_eq h6 (ps_if (pt_cmpR op_eq (pv 2) pe_int (nomark _)) (pss_one (ps_ret (pe_op op_cat (pe_op op_cat (pe_slice (sl_listK K) (pv 1) po_none (po_some (pv 3))) (pe_lst (pa_cons (pe_ix (ix_listK K) (pv 1) (pv 3) (fun _ _ => rfl)) pa_nil))) (pe_slice (sl_listK K) (pv 1) (po_some (pv 3)) po_none)))) pss_nil))
      (pss_cons (ps_eq h7 (ps_if (pt_cmpR op_eq (pv 2) pe_int (nomark _)) (pss_one (ps_ret (pe_callTy (call_tuple_ofK K) (by rfl) htuple (by first | exact PySem.boot_tuple | decide +kernel) (pa_cons (pv 1) pa_nil)))) pss_nil))
      hps)))))))), ?_⟩
    refine ⟨_, rfl, p, b, 20, rfl, hP, by omega, by decide, by decide, fun z0 H1 z00 z01 hP1 e1 => ?_⟩
    obtain ⟨pick, rfl⟩ : ∃ j : Nat, z0 = (j : Int) := ⟨z0.toNat, by omega⟩
    have b1 : But p H H1 := fun c o h n => (e1 c n).trans h
    have hl1 := b1 _ _ hl nlp
    have pen : ∀ {X Y : Hp} {n : Nat}, PenAt X p n → Same X Y → PenAt Y p n := fun h s => by
      obtain ⟨o, ho⟩ := h.some
      exact h.other ((s _ _ ho).trans ho.symm)
    have la : (as.map V.ref).length = W.length := by rw [List.length_map, hS.len]
    refine ⟨_, rfl, _, _, rfl, rfl, _, rfl, ite2 (fun h17 => ?_) (fun h17 => ?_)⟩
    · exact iteT (odd_ret rfl hP1 (by omega) (by omega) fun z H' bt ht => k z H' (b1.trans bt) ht)
    refine ⟨_, rfl, (by show 0 ≤ sizeLine; decide), fun E1 nE1 => ⟨l, E1, _, rfl, rfl, SqL.of (Same.add nE1 _ _ hl1), SqL.of upd_same, _, rfl, ?_⟩⟩
    have sE := Same.add (o := .lst []) nE1
    revert sE
    generalize upd H1 E1 (.lst []) = H2
    intro sE
    have b2 := b1.trans (But.same (p := p) sE)
    have hP2 := pen hP1 sE
    by_cases h0 : W.length = 0
    · have : (as.map V.ref).isEmpty = true := by
        rw [List.isEmpty_iff]
        exact List.eq_nil_of_length_eq_zero (by rw [la, h0])
      rw [this]
      exact iteT (odd_ret rfl hP2 (by omega) (by omega) fun z H' bt ht => k z H' (b2.trans bt) ht)
    have : (as.map V.ref).isEmpty = false := by
      cases hh : (as.map V.ref) with
      | nil => rw [hh] at la; exact absurd la.symm h0
      | cons a l => rfl
    rw [this]
    refine iteF ?_
    have hl2 := sE _ _ hl1
    refine ⟨_, rfl, _, rfl, l, _, rfl, .inl (SqL.of hl2), p, _, _, rfl, hP2, by omega, by rw [la]; omega, by rw [la]; exact Int.le_trans (show ((W.length : Nat) : Int) ≤ 302 by omega) (by decide), fun zi H3 zi0 zi1 hP3 e3 => ?_⟩
    rw [la] at zi1
    obtain ⟨i, rfl⟩ : ∃ j : Nat, zi = (j : Int) := ⟨zi.toNat, by omega⟩
    have hi : i < W.length := by omega
    have b3 : But p H H3 := b2.trans fun c o h n => (e3 c n).trans h
    have hl3 := b3 _ _ hl nlp
    have tupk : ∀ {Y : Hp}, But p H Y → TupS H Y := fun bt a xs e => bt _ _ e fun z => by
      obtain ⟨_, _, _, e', _⟩ := hP.ex
      rw [z, e'] at e
      cases e
    obtain ⟨a, ha⟩ : ∃ a, as[i]? = some a := ⟨_, List.getElem?_eq_getElem (by rw [hS.len]; exact hi)⟩
    obtain ⟨⟨c, j⟩, hcj⟩ : ∃ q, W[i]? = some q := ⟨_, List.getElem?_eq_getElem hi⟩
    obtain ⟨c0, c1, hj⟩ := hq _ (List.mem_of_getElem? hcj)
    have hS3 := hS.mono (tupk b3)
    have hva : (as.map V.ref)[i]? = some (.ref a) := by rw [List.getElem?_map, ha]; rfl
    refine ⟨_, rfl, _, rfl, l, _, _, _, rfl, rfl, SqL.of hl3, atI_nat hva, a, _, rfl, SqT.of (hS3.at_ i a _ ha hcj), rfl, _, _, rfl, _, _, rfl, rfl, ?_⟩
    have e26 : (Str.ofString "abcdefghijklmnopqrstuvwxyz").cps.toList = [97, 98, 99, 100, 101, 102, 103, 104, 105, 106, 107, 108, 109, 110, 111, 112, 113, 114, 115, 116, 117, 118, 119, 120, 121, 122] := by decide +kernel
    have sz26 : (Str.ofString "abcdefghijklmnopqrstuvwxyz").length ≤ sizeLine := by
      have : (Str.ofString "abcdefghijklmnopqrstuvwxyz").length = 26 := by decide +kernel
      rw [this]
      decide
    refine ⟨_, rfl, p, _, 26, rfl, hP3, by omega, by decide, by decide, fun z4 H4 z40 z41 hP4 e4 => ?_⟩
    obtain ⟨d, rfl⟩ : ∃ j : Nat, z4 = (j : Int) := ⟨z4.toNat, by omega⟩
    have hd26 : d < 26 := by omega
    have hc : (Str.ofString "abcdefghijklmnopqrstuvwxyz").cps.toList[d]? = some (97 + d) := by
      rw [e26]
      exact abc_at hd26
    have b4 : But p H H4 := b3.trans fun c o h n => (e4 c n).trans h
    have hl4 := b4 _ _ hl nlp
    have hS4 := hS.mono (tupk b4)
    have hE := goods_at (K := K) hS4 (fun q h => ⟨(hq q h).1, (hq q h).2.1⟩)
    have hEl : (goods W).length = W.length := by unfold goods; rw [List.length_map]
    refine ⟨_, _, _, rfl, rfl, sz26, atI_nat hc, ?_⟩
    refine ⟨_, rfl, rfl, _, rfl, ite2 (fun _ => ?_) (fun n15 => ?_)⟩
    · refine ⟨_, rfl, _, rfl, _, rfl, l, _, rfl, SqL.of hl4, fun P1 nP1 => ?_⟩
      rw [cut_take]
      have sA := Same.add (o := .lst ((as.map V.ref).take i)) nP1
      refine ⟨_, rfl, _, rfl, _, _, rfl, rfl, _, rfl, l, _, rfl, SqL.of (sA _ _ hl4), fun P4 nP4 => ?_⟩
      rw [show ((i : Int) + 1) = ((i + 1 : Nat) : Int) by omega, cut_drop]
      have sD := Same.add (o := .lst ((as.map V.ref).drop (i + 1))) nP4
      refine ⟨P1, P4, _, _, rfl, rfl, sD _ _ upd_same, upd_same, Nat.le_of_lt (small1000 (by rw [List.length_take, List.length_drop, la]; omega)), fun P5 nP5 => ?_⟩
      have sZ := sA.trans (sD.trans (Same.add (o := .lst ((as.map V.ref).take i ++ (as.map V.ref).drop (i + 1))) nP5))
      refine k _ _ (b4.trans (But.same sZ)) (.inr ⟨P5, _, (goods W).take i ++ (goods W).drop (i + 1), rfl, upd_same, ((hE.take i).app (hE.drop (i + 1))).keep sZ, ?_⟩)
      rw [List.length_append, List.length_take, List.length_drop, hEl]
      omega
    refine ⟨_, rfl, rfl, _, rfl, ite2 (fun _ => ?_) (fun n16 => ?_)⟩
    · refine ⟨_, rfl, _, rfl, _, rfl, l, _, rfl, SqL.of hl4, fun P1 nP1 => ?_⟩
      rw [cut_take]
      have sA := Same.add (o := .lst ((as.map V.ref).take i)) nP1
      refine ⟨_, rfl, _, rfl, l, _, _, _, rfl, rfl, SqL.of (sA _ _ hl4), atI_nat hva, (by show 1 ≤ sizeLine; decide), fun P2 nP2 => ?_⟩
      have sB := Same.add (o := .lst [.ref a]) nP2
      refine ⟨P1, P2, _, _, rfl, rfl, sB _ _ upd_same, upd_same, Nat.le_of_lt (small1000 (by rw [List.length_take, la]; show _ + 1 ≤ 1000; omega)), fun P3 nP3 => ?_⟩
      have sC := sA.trans (sB.trans (Same.add (o := .lst ((as.map V.ref).take i ++ [.ref a])) nP3))
      refine ⟨_, rfl, _, rfl, _, rfl, l, _, rfl, SqL.of (sC _ _ hl4), fun P4 nP4 => ?_⟩
      rw [cut_drop]
      have sD := Same.add (o := .lst ((as.map V.ref).drop i)) nP4
      refine ⟨P3, P4, _, _, rfl, rfl, sD _ _ upd_same, upd_same, Nat.le_of_lt (small1000 (by rw [List.length_append, List.length_take, List.length_drop, la]; show _ + 1 + _ ≤ 1000; omega)), fun P5 nP5 => ?_⟩
      have sZ := sC.trans (sD.trans (Same.add (o := .lst ((as.map V.ref).take i ++ [.ref a] ++ (as.map V.ref).drop i)) nP5))
      refine k _ _ (b4.trans (But.same sZ)) (.inr ⟨P5, _, (goods W).take i ++ [.good c (j : Int)] ++ (goods W).drop i, rfl, upd_same, (((hE.take i).app (ElsAt.cons (v := .ref a) (e := .good c (j : Int)) ⟨a, rfl, hS4.at_ i a _ ha hcj, c0, c1⟩ .nil)).app (hE.drop i)).keep sZ, ?_⟩)
      rw [List.length_append, List.length_append, List.length_take, List.length_drop, hEl]
      show _ + 1 + _ ≤ _
      omega
    refine ⟨_, rfl, rfl, _, rfl, ite2 (fun _ => ?_) (fun n17 => ?_)⟩
    · exact ⟨_, rfl, l, _, rfl, .inl ⟨SqL.of hl4, fun T nT => k _ _ (b4.trans (But.same (Same.add nT))) (.inl (.inr (.inr (.inr ⟨T, as, W, rfl, upd_same, hS4.mono (TupS.same (Same.add nT))⟩))))⟩⟩
    have hp : pick < 15 := by
      have k17 : ¬ (17 : Int) < (pick : Int) := fun z => h17 (decide_eq_true z)
      have k15 : pick ≠ 15 := fun z => n15 (by rw [z]; exact decide_eq_true rfl)
      have k16 : pick ≠ 16 := fun z => n16 (by rw [z]; exact decide_eq_true rfl)
      have k18 : pick ≠ 17 := fun z => n17 (by rw [z]; exact decide_eq_true rfl)
      omega
    exact htl _ l as W pick i c j (97 + d) _ _ H4 hl4 hS4 (fun q h => ⟨(hq q h).1, (hq q h).2.1⟩) hp hi hW c0 c1 (by omega) (by omega) hj fun z H' sz' ht => k z H' (b4.trans (But.same sz')) ht
end
end Lw
namespace Lw
open PySem L2 PyProof.Rows
theorem vs_flat {K : PySem.W.Frag} {H : Hp} {n : Nat} {a b : Addr} {xs : List V} (ha : H a = some (.tup xs)) (hb : H b = some (.tup xs)) (hx : ∀ x ∈ xs, flatV x = true) : VSame K H (n + 1) (.ref a) (.ref b) :=
  VSame.seq true (SqT.of ha) (SqT.of hb) rfl fun i x y e1 e2 => by
    rw [e1] at e2
    cases e2
    exact .flat (hx _ (List.mem_of_getElem? e1))
theorem vs_ref {K : PySem.W.Frag} {H : Hp} {n : Nat} {a b : Addr} (ha : H a = some refO) (hb : H b = some refO) : VSame K H (n + 1) (.ref a) (.ref b) :=
  vs_flat ha hb fun x hx => by
    simp only [List.mem_cons, List.not_mem_nil, or_false] at hx
    rcases hx with rfl | rfl <;> rfl
theorem vs_tol {K : PySem.W.Frag} {H : Hp} {n : Nat} {z : Int} {a b : Addr} (ha : H a = some (tolO z)) (hb : H b = some (tolO z)) : VSame K H (n + 1) (.ref a) (.ref b) :=
  vs_flat ha hb fun x hx => by
    simp only [List.mem_cons, List.not_mem_nil, or_false] at hx
    rcases hx with rfl | rfl | rfl <;> rfl
theorem vs_steps {K : PySem.W.Frag} {H : Hp} {n : Nat} {a b : Addr} {as bs : List Addr} {W : List (Nat × Nat)} (ha : H a = some (.lst (as.map V.ref))) (hb : H b = some (.lst (bs.map V.ref))) (h1 : StepsAt H as W) (h2 : StepsAt H bs W) : VSame K H (n + 2) (.ref a) (.ref b) :=
  VSame.seq false (SqL.of ha) (SqL.of hb) (by rw [List.length_map, List.length_map, h1.len, h2.len]) fun i x y e1 e2 => by
    rw [List.getElem?_map] at e1 e2
    cases f1 : as[i]? with
    | none => rw [f1] at e1; cases e1
    | some u =>
      cases f2 : bs[i]? with
      | none => rw [f2] at e2; cases e2
      | some v =>
        rw [f1] at e1
        rw [f2] at e2
        cases e1
        cases e2
        obtain ⟨q, hq⟩ : ∃ q, W[i]? = some q := ⟨_, List.getElem?_eq_getElem (by rw [← h1.len]; exact (List.getElem?_eq_some_iff.mp f1).1)⟩
        refine vs_flat (h1.at_ i u q f1 hq) (h2.at_ i v q f2 hq) fun x hx => ?_
        simp only [List.mem_cons, List.not_mem_nil, or_false] at hx
        rcases hx with rfl | rfl <;> rfl
theorem elt_plain {K : PySem.W.Frag} {H : Hp} {v : V} {e : Elt} (h : EltAt K H v e) : flatV v = true ∨ ∃ c, v = .ref c := by
  cases e with
  | good c j => obtain ⟨a, e, _⟩ := h; exact .inr ⟨a, e⟩
  | bad =>
    rcases h with (⟨t, h, ht⟩ | ⟨a, x, y, z, e, _⟩) | ⟨a, c, y, e, _⟩ | ⟨a, x, j, e, _⟩
    · have q : ∀ ty, TyOf K H v ty → ty ≠ .type "float" → flatV v = true ∨ ∃ c, v = .ref c := fun ty h n => by
        cases h <;> first | exact .inl rfl | exact .inr ⟨_, rfl⟩ | exact absurd rfl n
      rcases ht with rfl | rfl | rfl | rfl <;> exact q _ h fun z => absurd (Value.type.inj z) (by decide)
    · exact .inr ⟨a, e⟩
    · exact .inr ⟨a, e⟩
    · exact .inr ⟨a, e⟩
theorem els_plain {K : PySem.W.Frag} {H : Hp} {us : List V} {es : List Elt} (h : ElsAt K H us es) : ∀ u ∈ us, flatV u = true ∨ ∃ c, u = .ref c := fun u hu => by
  obtain ⟨i, hi⟩ := List.getElem?_of_mem hu
  exact elt_plain (h.at_ i u _ hi (List.getElem?_eq_getElem (by rw [← h.len]; exact (List.getElem?_eq_some_iff.mp hi).1)))
theorem way_abc {rs : List Rule} {first : List Nat} (hG : Good first rs) : ∀ {W : List (Nat × Nat)} {x : List Nat}, Way rs x W → (∀ c ∈ x, c ∈ ltr rs) → x.length ≤ 12 → ∀ q ∈ W, 97 ≤ q.1 ∧ q.1 ≤ 122 ∧ q.2 ≤ 1000
  | [], x, _, _, _, q, hq => by cases hq
  | p :: W, x, hw, hx, hl, q, hq => by
    have hc := hx _ (List.mem_of_getElem? hw.1)
    have hi := (List.getElem?_eq_some_iff.mp hw.1).1
    obtain ⟨r, hr, er⟩ := List.mem_map.mp hc
    have ha := hG.abc r hr
    rcases List.mem_cons.mp hq with rfl | hq
    · have er' : r.1 = q.1 := er
      exact ⟨by omega, by omega, by omega⟩
    · exact way_abc hG hw.2 (wd_in hG hc) (Nat.le_trans (wd_le hG hc) (by decide)) q hq
theorem nolst {K : PySem.W.Frag} {H : Hp} {z : V} (h : z = .non ∨ (∃ n, z = .int n) ∨ (∃ x : Str, z = .str x) ∨ ∃ a as W, z = .ref a ∧ H a = some (.tup (as.map V.ref)) ∧ StepsAt H as W) : NoLst K H z := by
  rcases h with rfl | ⟨n, rfl⟩ | ⟨x, rfl⟩ | ⟨a, as, W, rfl, h, _⟩
  · exact ⟨_, TyOf.non, .inl rfl⟩
  · exact ⟨_, TyOf.int _, .inr (.inl rfl)⟩
  · exact ⟨_, TyOf.str _, .inr (.inr (.inl rfl))⟩
  · exact ⟨_, TyOf.tup h, .inr (.inr (.inr rfl))⟩
theorem neS_self {K : PySem.W.Frag} {H : Hp} {z : V} {Q : VK} (h : z = .non ∨ (∃ n, z = .int n) ∨ (∃ x : Str, z = .str x) ∨ ∃ a as W, z = .ref a ∧ H a = some (.tup (as.map V.ref)) ∧ StepsAt H as W) (q : Q (.bl false) H) : rNeS K z z H Q := by
  rcases h with rfl | ⟨n, rfl⟩ | ⟨x, rfl⟩ | ⟨a, as, W, rfl, h, _⟩
  · exact .inl ⟨rfl, rfl, q⟩
  · exact .inl ⟨rfl, rfl, q⟩
  · exact .inl ⟨rfl, rfl, q⟩
  · exact .inr (.inr ⟨a, a, _, true, rfl, rfl, SqT.of h, SqT.of h, fun u hu => by
      obtain ⟨c, _, e⟩ := List.mem_map.mp hu
      exact .inr ⟨c, e.symm⟩, q⟩)
theorem odd_keep {H H' : Hp} {z : V} (s : Same H H') (h : z = .non ∨ (∃ n, z = .int n) ∨ (∃ x : Str, z = .str x) ∨ ∃ a as W, z = .ref a ∧ H a = some (.tup (as.map V.ref)) ∧ StepsAt H as W) : z = .non ∨ (∃ n, z = .int n) ∨ (∃ x : Str, z = .str x) ∨ ∃ a as W, z = .ref a ∧ H' a = some (.tup (as.map V.ref)) ∧ StepsAt H' as W := by
  rcases h with h | h | h | ⟨a, as, W, e, h1, h2⟩
  · exact .inl h
  · exact .inr (.inl h)
  · exact .inr (.inr (.inl h))
  · exact .inr (.inr (.inr ⟨a, as, W, e, s _ _ h1, h2.mono (TupS.same s)⟩))
theorem Thing.le {K : PySem.W.Frag} {H : Hp} {m n : Nat} {z : V} (h : Thing K H m z) (hmn : m ≤ n) : Thing K H n z := by
  rcases h with h | ⟨a, us, es, e, h1, h2, h3⟩
  · exact .inl h
  · exact .inr ⟨a, us, es, e, h1, h2, Nat.le_trans h3 hmn⟩
section
variable {P : Program} {w : World} {K : PySem.W.Frag} {mg : Str → Option Value} {base : Heap}
theorem seq_keep {H H' : Hp} {a : Addr} {xs : List V} (e : ∀ o, H a = some o → H' a = some o) (h : SqL K H a xs) : SqL K H' a xs := by
  rcases h with (h | ⟨o, h⟩) | h
  · exact .inl (.inl (e _ h))
  · exact .inl (.inr ⟨o, e _ h⟩)
  · exact .inr h
def spLaw (K : PySem.W.Frag) : Sp := fun vs H Q _ => ∃ (a : Addr) (ns : List Int), vs = [.ref a] ∧ SqL K H a (ns.map V.int) ∧ ns.length ≤ 63 ∧ ∀ H', Q (.bl true) H'
theorem scLaw : FnScope ["_law_script", "_law_pen_here", "_law_levels", "_law_book_here", "_law_sizes_here", "_law_k", "_law_draw", "_law_odd", "_law_steps", "_law_thing", "_law_one", "_law_handed", "_law_due_here"] ["_law_script"] (defScope sLaw) := ⟨rfl, rfl, rfl, by decide +kernel, rfl, by decide +kernel, by decide +kernel⟩
theorem ok_law {f fPen fBok fSzs fTak fDwn fSpo fDue fAge fTld fWay : Addr} {fd fdPen fdBok fdSzs fdTak fdDwn fdSpo fdDue fdAge fdTld fdWay : FuncData} (F : Fun K "law" "law" sLaw f fd)
    (GPen : FnOk P w K mg base CX0 1 fPen fdPen ["_law_script", "_law_k"] (spPen K))
    (gPen : Gf K mg "_law_pen" fPen fdPen ["_law_script", "_law_k"])
    (GBok : FnOk P w K mg base CX0 4 fBok fdBok ["_law_pen_here"] spBok)
    (gBok : Gf K mg "_law_book" fBok fdBok ["_law_pen_here"])
    (GSzs : FnOk P w K mg base CX0 1 fSzs fdSzs ["_law_book_here", "_law_age_here"] (spSzs K))
    (gSzs : Gf K mg "_law_sizes" fSzs fdSzs ["_law_book_here", "_law_age_here"])
    (GTak : FnOk P w K mg base CX0 1 fTak fdTak ["_law_pen_here", "_law_size_here"] spTak)
    (gTak : Gf K mg "_law_take" fTak fdTak ["_law_pen_here", "_law_size_here"])
    (GDwn : FnOk P w K mg base CX0 2 fDwn fdDwn ["_law_pen_here", "_law_book_here", "_law_levels"] (spDwn K))
    (gDwn : Gf K mg "_law_down" fDwn fdDwn ["_law_pen_here", "_law_book_here", "_law_levels"])
    (GSpo : FnOk P w K mg base CX0 2 fSpo fdSpo ["_law_pen_here", "_law_steps"] (spSpo K))
    (gSpo : Gf K mg "_law_spoiled" fSpo fdSpo ["_law_pen_here", "_law_steps"])
    (GDue : FnOk P w K mg base CX0 3 fDue fdDue ["_law_book_here", "_law_sizes_here", "_law_thing"] (spDue K))
    (gDue : Gf K mg "_law_due" fDue fdDue ["_law_book_here", "_law_sizes_here", "_law_thing"])
    (GAge : FnOk P w K mg base CX0 2 fAge fdAge ["_law_pen_here"] spAge)
    (gAge : Gf K mg "_law_age" fAge fdAge ["_law_pen_here"])
    (GTld : FnOk P w K mg base CX0 6 fTld fdTld ["_law_book_here", "_law_thing"] (spTld K))
    (gTld : Gf K mg "_law_told" fTld fdTld ["_law_book_here", "_law_thing"])
    (GWay : FnOk P w K mg base CX0 5 fWay fdWay ["book", "age", "place"] spWay)
    (gWay : Gf K mg "way" fWay fdWay ["book", "age", "place"])
    (hlen : mg "len" = none)
    (hrange : mg "range" = none)
    (hint : mg "int" = none)
    (hlist : mg "list" = none)
    (hisinstance : mg "isinstance" = none)
    : FnOk P w K mg base CX0 7 f fd ["_law_script"] (spLaw K) := by
  refine F.ok scLaw (fun vs H Q E h => ?_) (fun cdv A outer s H vs Q E hr h => ?_)
  · obtain ⟨a, ns, rfl, _⟩ := h
    rfl
  · obtain ⟨a, ns, rfl, hS, h63, k⟩ := h
    have hr1 : Room 1 _ := hr.mono (by decide)
    have hr2 : Room 2 _ := hr.mono (by decide)
    have hr3 : Room 3 _ := hr.mono (by decide)
    have hr4 : Room 4 _ := hr.mono (by decide)
    have hr5 : Room 5 _ := hr.mono (by decide)
    refine ⟨_, (pss_cons (ps_set (i := 1) scLaw.nd rfl (Or.inl rfl) (pe_call GPen hr1 rfl gPen.m gPen.k gPen.b .nil pass0 (pa_cons (pv 0) (pa_cons pe_int pa_nil))))
      (pss_cons (ps_set (i := 2) scLaw.nd rfl (Or.inl rfl) (pe_ix (ix_listK K) (pe_lst (pa_cons (pe_op op_add (pe_call GAge hr2 rfl gAge.m gAge.k gAge.b .nil pass0 (pa_cons (pv 1) pa_nil)) pe_int) (pa_cons pe_int pa_nil))) (pe_callTy call_int1 (by rfl) hint (by first | exact PySem.boot_int | decide +kernel) (pa_cons (pe_cmpR op_eq (pe_call GTak hr1 rfl gTak.m gTak.k gTak.b .nil pass0 (pa_cons (pv 1) (pa_cons pe_int pa_nil))) pe_int (nomark _)) pa_nil)) (fun _ _ => rfl)))
      (pss_cons (ps_set (i := 3) scLaw.nd rfl (Or.inl rfl) (pe_call GBok hr4 rfl gBok.m gBok.k gBok.b .nil pass0 (pa_cons (pv 1) pa_nil)))
      (pss_cons (ps_set (i := 4) scLaw.nd rfl (Or.inl rfl) (pe_call GSzs hr1 rfl gSzs.m gSzs.k gSzs.b .nil pass0 (pa_cons (pv 3) (pa_cons (pv 2) pa_nil))))
      (pss_cons (ps_for PassesOwn.never rfl (pi_range1 rfl hrange (pa_cons pe_int pa_nil)) (pg_name (i := 5) scLaw.nd rfl (Or.inl rfl)) (pss_cons (ps_set (i := 6) scLaw.nd rfl (Or.inl rfl) (pe_call GPen hr1 rfl gPen.m gPen.k gPen.b .nil pass0 (pa_cons (pv 0) (pa_cons (pe_op op_add pe_int (pv 5)) pa_nil))))
      (pss_cons (ps_set (i := 7) scLaw.nd rfl (Or.inl rfl) (pe_call GTak hr1 rfl gTak.m gTak.k gTak.b .nil pass0 (pa_cons (pv 6) (pa_cons pe_int pa_nil))))
      (pss_cons (ps_set (i := 8) scLaw.nd rfl (Or.inl rfl) (pe_call GDwn hr2 rfl gDwn.m gDwn.k gDwn.b .nil pass0 (pa_cons (pv 6) (pa_cons (pv 3) (pa_cons (pv 2) pa_nil)))))
      (pss_cons (ps_set (i := 9) scLaw.nd rfl (Or.inl rfl) (pe_call GSpo hr2 rfl gSpo.m gSpo.k gSpo.b .nil pass0 (pa_cons (pe_call GPen hr1 rfl gPen.m gPen.k gPen.b .nil pass0 (pa_cons (pv 0) (pa_cons (pe_op op_add pe_int (pv 5)) pa_nil))) (pa_cons (pv 8) pa_nil))))
      (pss_one (ps_for PassesOwn.never rfl (pi_listK K (pe_op op_cat (pe_ix (ix_listK K) (pe_lst (pa_cons (pe_lst (pa_cons (pv 8) (pa_cons (pv 9) pa_nil))) (pa_cons (pe_lst (pa_cons (pv 9) (pa_cons (pv 8) pa_nil))) pa_nil))) (pv 7) (fun _ _ => rfl)) (pe_lst (pa_cons (pv 8) pa_nil)))) (pg_name (i := 10) scLaw.nd rfl (Or.inl rfl)) (pss_cons (ps_set (i := 11) scLaw.nd rfl (Or.inl rfl) (pv 10))
      (pss_cons (ps_if (pt_val (pe_callB (call_isinstK K) (by rfl) hisinstance (show bootBuiltins "isinstance" = some (.builtin "isinstance") by decide +kernel) (pa_cons (pv 10) (pa_cons (pe_bltn (v := .ty "list") (by rfl) hlist (show bootBuiltins "list" = some (.type "list") by decide +kernel) rfl) pa_nil)))) (pss_one (ps_set (i := 11) scLaw.nd rfl (Or.inl rfl) (pe_callTy (call_list_ofK K) (by rfl) hlist (by first | exact PySem.boot_list | decide +kernel) (pa_cons (pv 10) pa_nil)))) pss_nil)
      (pss_cons (ps_set (i := 12) scLaw.nd rfl (Or.inl rfl) (pe_call GDue hr3 rfl gDue.m gDue.k gDue.b .nil pass0 (pa_cons (pv 3) (pa_cons (pv 4) (pa_cons (pv 10) pa_nil)))))
      (pss_cons (ps_if (PW.pt (pw_or (pt_cmpR (op_neVK K hr.units) (pe_call GTld hr rfl gTld.m gTld.k gTld.b .nil pass0 (pa_cons (pv 3) (pa_cons (pv 11) pa_nil))) (pv 12) (nomark _)) (pw_or1 (pt_cmpR (op_neSK K hr.units) (pv 11) (pv 10) (nomark _))))) (pss_one (ps_ret pe_bl)) pss_nil)
      (pss_one (ps_if (PW.pt (pw_and (pt_cmpR op_eq (pe_ix (ix_tupK K) (pv 12) pe_int (fun _ _ => rfl)) pe_str (nomark _)) (pw_and1 (pt_cmpR (op_neVK K hr.units) (pe_call GWay hr5 rfl gWay.m gWay.k gWay.b .nil pass0 (pa_cons (pv 3) (pa_cons (pe_op op_sub (pe_callB (call_lenK K) (by rfl) hlen PySem.boot_len (pa_cons (pv 10) pa_nil)) pe_int) (pa_cons (pe_ix (ix_tupK K) (pv 12) pe_int (fun _ _ => rfl)) pa_nil)))) (pv 10) (nomark _))))) (pss_one (ps_ret pe_bl)) pss_nil)))))))))))))
      (pss_one (ps_ret pe_bl))))))), ?_⟩
    refine ⟨_, rfl, a, ns, 0, rfl, hS, h63, by omega, by omega, fun p H1 s1 np hP1 => ?_⟩
    refine ⟨_, rfl, p, _, rfl, hP1, by omega, fun n H2 hn b2 hP2 => ⟨_, _, rfl, rfl, (by show 2 ≤ sizeLine; decide), fun Lv nLv => ?_⟩⟩
    have pen : ∀ {X Y : Hp} {d : Addr} {n : Nat}, PenAt X d n → Same X Y → PenAt Y d n := fun h s => by
      obtain ⟨o, ho⟩ := h.some
      exact h.other ((s _ _ ho).trans ho.symm)
    obtain ⟨o2, ho2⟩ := hP2.some
    have npv : Lv ≠ p := (ne_of_none ho2 nLv).symm
    have sv := Same.add (o := .lst [V.int ((n : Int) + 1), V.int 302]) nLv
    have hv := upd_same (H := H2) (a := Lv) (o := .lst [V.int ((n : Int) + 1), V.int 302])
    revert sv hv
    generalize upd H2 Lv (.lst [V.int ((n : Int) + 1), V.int 302]) = H2'
    intro sv hv
    refine ⟨_, rfl, p, _, 12, rfl, pen hP2 sv, by omega, by decide, by decide, fun zz H3 zz0 zz1 hP3 e3 => ⟨rfl, .inr ⟨_, rfl, ?_⟩⟩⟩
    obtain ⟨lv, j, hj, hlv, lv0, lv1⟩ : ∃ lv j : Nat, (if decide (V.int zz = V.int 0) = true then (1 : Int) else 0) = (j : Int) ∧ ([V.int ((n : Int) + 1), V.int 302] : List V)[j]? = some (V.int (lv : Int)) ∧ 1 ≤ lv ∧ lv ≤ 302 := by
      by_cases h : zz = 0
      · exact ⟨302, 1, by rw [h]; rfl, rfl, by decide, by decide⟩
      · refine ⟨n + 1, 0, ?_, rfl, by omega, by omega⟩
        rw [decide_eq_false fun z => h (V.int.inj z)]
        rfl
    rw [hj]
    refine ⟨Lv, _, _, _, rfl, rfl, SqL.of ((e3 Lv npv).trans hv), atI_nat hlv, ?_⟩
    refine ⟨_, rfl, p, _, rfl, hP3, by omega, fun t first rs H4 hG hB b4 hP4 => ?_⟩
    have s04 : Same H H4 := fun c o h => by
      have nc := ne_of_none h np
      exact b4 _ _ ((e3 c nc).trans (sv _ _ (b2 _ _ (s1 _ _ h) nc))) nc
    refine ⟨_, rfl, _, rfl, t, first, rs, lv, rfl, hB, hG, by omega, fun l ls H5 s5 nl hD => ?_⟩
    have s05 := s04.trans s5
    have hS5 := seq_keep (fun o ho => s05 _ _ ho) hS
    have hB5 := hB.mono (TupS.same s5)
    have hF := fam_len hG
    refine ⟨_, rfl, by decide, by decide, ?_⟩
    refine for_by (sure_range (lo := 0) (n := Int.toNat 3)) (fun i σ H9 => ∃ (v5 v6 v7 v8 v9 v10 v11 v12 : Option V), σ = [some (.ref a), some (.ref p), some (.int (lv : Int)), some (.ref t), some (.ref l), v5, v6, v7, v8, v9, v10, v11, v12] ∧ Same H5 H9)
      ⟨_, _, _, _, _, _, _, _, rfl, Same.refl _⟩ (fun _ _ _ _ _ => trivial) ?_ ?_
    · rintro i x σ H9 hx ⟨v5, v6, v7, v8, v9, v10, v11, v12, rfl, s9⟩
      obtain ⟨hi, rfl⟩ := rng_at hx
      have hi3 : i < 3 := hi
      refine ⟨_, rfl, _, rfl, _, _, rfl, rfl, a, ns, _, rfl, seq_keep (fun o ho => s9 _ _ ho) hS5, h63, by omega, by omega, fun d Ha sa nd hDa => ?_⟩
      refine ⟨_, rfl, d, _, 2, rfl, hDa, by omega, by decide, by decide, fun zo Hb zo0 zo1 hDb eb => ?_⟩
      have s9b : Same H9 Hb := fun c o h => (eb c (ne_of_none h nd)).trans (sa _ _ h)
      refine ⟨_, rfl, _, rfl, _, rfl, d, t, _, first, rs, lv, rfl, hDb, by omega, hB5.mono (TupS.same (s9.trans s9b)), hG, lv1, fun sl as W Hc bc nsl hsl hSt hWay hWl hDc => ?_⟩
      have s9c : Same H9 Hc := fun c o h => bc _ _ (s9b _ _ h) (ne_of_none h nd)
      refine ⟨_, rfl, _, rfl, _, _, rfl, rfl, a, ns, _, rfl, seq_keep (fun o ho => (s9.trans s9c) _ _ ho) hS5, h63, by omega, by omega, fun q Hd sd nq hQd => ?_⟩
      have habc := way_abc hG hWay hG.fin hG.fl
      refine ⟨_, rfl, q, sl, 0, as, W, rfl, hQd, by omega, sd _ _ hsl, hSt.mono (TupS.same sd), habc, by omega, ne_of_none hsl nq, fun z He be hz => ?_⟩
      have sce : Same Hc He := fun c o h => be _ _ (sd _ _ h) (ne_of_none h nq)
      have s5e := s9.trans (s9c.trans sce)
      have hz1 := hz.le (show W.length + 1 ≤ lv + 1 by omega)
      have hs1 : Thing K He (lv + 1) (.ref sl) := .inr ⟨sl, _, goods W, rfl, sce _ _ hsl, (goods_at (hSt.mono (TupS.same sce)) fun q h => ⟨(habc q h).1, (habc q h).2.1⟩), by unfold goods; rw [List.length_map]; omega⟩
      have sz : ∀ m, m ≤ 3 → m ≤ sizeLine := fun m h => Nat.le_trans h (by decide)
      refine ⟨_, rfl, _, rfl, sz 2 (by decide), fun A1 nA1 => ⟨_, rfl, _, rfl, sz 2 (by decide), fun A2 nA2 => ⟨sz 2 (by decide), fun A3 nA3 => ?_⟩⟩⟩
      have t1 := Same.add (o := .lst [.ref sl, z]) nA1
      have t2 := Same.add (o := .lst [z, .ref sl]) nA2
      have t3 := Same.add (o := .lst [.ref A1, .ref A2]) nA3
      have g1 := t3 _ _ (t2 _ _ (upd_same (H := He) (a := A1) (o := .lst [.ref sl, z])))
      have g2 := t3 _ _ (upd_same (H := upd He A1 (.lst [.ref sl, z])) (a := A2) (o := .lst [z, .ref sl]))
      have g3 := upd_same (H := upd (upd He A1 (.lst [.ref sl, z])) A2 (.lst [z, .ref sl])) (a := A3) (o := .lst [.ref A1, .ref A2])
      have tt := t1.trans (t2.trans t3)
      revert g1 g2 g3 tt
      generalize upd (upd (upd He A1 (.lst [.ref sl, z])) A2 (.lst [z, .ref sl])) A3 (.lst [.ref A1, .ref A2]) = Hf
      intro g1 g2 g3 tt
      obtain ⟨jo, rfl⟩ : ∃ j : Nat, zo = (j : Int) := ⟨zo.toNat, by omega⟩
      obtain ⟨Aj, x1, x2, hAj, gj, hx1, hx2⟩ : ∃ Aj x1 x2, ([V.ref A1, V.ref A2] : List V)[jo]? = some (.ref Aj) ∧ Hf Aj = some (.lst [x1, x2]) ∧ Thing K He (lv + 1) x1 ∧ Thing K He (lv + 1) x2 := by
        rcases jo with _ | _ | jo
        · exact ⟨A1, _, _, rfl, g1, hs1, hz1⟩
        · exact ⟨A2, _, _, rfl, g2, hz1, hs1⟩
        · omega
      refine ⟨_, rfl, A3, _, _, _, rfl, rfl, SqL.of g3, atI_nat hAj, _, rfl, sz 1 (by decide), fun A4 nA4 => ?_⟩
      have t4 := Same.add (o := .lst [.ref sl]) nA4
      refine ⟨Aj, A4, _, _, rfl, rfl, t4 _ _ gj, upd_same, sz 3 (by decide), fun M nM => ?_⟩
      have t5 := Same.add (o := .lst [x1, x2, .ref sl]) nM
      have hM : upd (upd Hf A4 (.lst [.ref sl])) M (.lst [x1, x2, .ref sl]) M = some (.lst [x1, x2, .ref sl]) := upd_same
      have seM := tt.trans (t4.trans t5)
      show _
      revert hM seM
      have ee : ([x1, x2] ++ [V.ref sl] : List V) = [x1, x2, .ref sl] := rfl
      rw [ee]
      generalize upd (upd Hf A4 (.lst [.ref sl])) M (.lst [x1, x2, .ref sl]) = HM
      intro hM seM
      have s5M := s5e.trans seM
      refine ⟨M, rfl, ⟨_, SqL.of hM⟩, ?_⟩
      have all3 : ∀ x ∈ ([x1, x2, .ref sl] : List V), Thing K HM (lv + 1) x := fun x hx => by
        simp only [List.mem_cons, List.not_mem_nil, or_false] at hx
        rcases hx with rfl | rfl | rfl
        · exact hx1.keep seM
        · exact hx2.keep seM
        · exact hs1.keep seM
      refine for_by (sure_list (xs := [x1, x2, .ref sl])) (fun j σ Hx => ∃ (v10 v11 v12 : Option V), σ = [some (.ref a), some (.ref p), some (.int (lv : Int)), some (.ref t), some (.ref l), some (.int (i : Int)), some (.ref d), some (.int (jo : Int)), some (.ref sl), some z, v10, v11, v12] ∧ Same HM Hx)
        ⟨_, _, _, rfl, Same.refl _⟩ ?_ ?_ ?_
      · rintro j σ Hx hj ⟨v10, v11, v12, rfl, sx⟩
        exact SqL.of (sx _ _ hM)
      · rintro j v σ Hx hv ⟨v10, v11, v12, rfl, sx⟩
        have hT := (all3 v (List.mem_of_getElem? hv)).keep sx
        have s5x := s5M.trans sx
        have hBx := hB5.mono (TupS.same s5x)
        have hDx := hD.mono s5x
        refine ⟨_, rfl, ?_⟩
        rcases hT with hN | ⟨st, us, es, rfl, hst, hE, hM'⟩
        · have hNo := nolst (K := K) hN
          obtain ⟨ty, hty, ht⟩ := id hNo
          rcases ht with rfl | rfl | rfl | rfl <;>
          ( refine ⟨_, rfl, _, _, _, false, rfl, hty, (by rfl), _, rfl, iteF ?_⟩
            refine ⟨_, rfl, _, rfl, _, rfl, t, l, ls, v, first, rs, lenN rs.length (tabI rs), szG rs, lv + 1, rfl, hBx, hG, hDx, hF, .inl ⟨hNo, fun T1 Hy sy hT1 => ?_⟩⟩
            refine ⟨_, rfl, _, rfl, t, v, first, rs, rfl, hBx.mono (TupS.same sy), hG, .inl ⟨hNo.keep sy, fun T2 Hz sz' hT2 => ?_⟩⟩
            refine ⟨_, rfl, 0, T2, T1, rfl, rfl, vs_ref hT2 (sz' _ _ hT1), by omega, _, rfl, iteF ?_⟩
            refine ⟨_, rfl, _, rfl, neS_self (odd_keep (sy.trans sz') hN) ⟨_, rfl, iteF ?_⟩⟩
            refine ⟨_, rfl, T1, _, _, _, rfl, rfl, SqT.of (sz' _ _ hT1), atI_nat (j := 0) rfl, rfl, _, rfl, ite2 (fun h => absurd (V.str.inj (of_decide_eq_true h)) (by decide +kernel)) (fun _ => ?_)⟩
            exact iteF ⟨_, _, _, rfl, sx.trans (sy.trans sz')⟩)
        · refine ⟨_, rfl, _, _, _, true, rfl, TyOf.lst hst, (by rfl), _, rfl, iteT ?_⟩
          refine ⟨_, rfl, st, _, rfl, .inl (SqL.of hst), fun hd nhd => ?_⟩
          have sh := Same.add (o := .lst us) nhd
          have hhd : upd Hx hd (.lst us) hd = some (.lst us) := upd_same
          revert sh hhd
          generalize upd Hx hd (.lst us) = Hh
          intro sh hhd
          have hplain := els_plain hE
          cases hsw : swB rs first es with
          | false =>
            refine ⟨_, rfl, _, rfl, _, rfl, t, l, ls, _, first, rs, lenN rs.length (tabI rs), szG rs, lv + 1, rfl, hBx.mono (TupS.same sh), hG, hDx.mono sh, hF, .inr ⟨st, us, es, rfl, sh _ _ hst, hE.keep sh, hM', .inl ⟨hsw, fun T1 Hy sy hT1 => ?_⟩⟩⟩
            have shy := sh.trans sy
            refine ⟨_, rfl, _, rfl, t, _, first, rs, rfl, hBx.mono (TupS.same shy), hG, .inr ⟨hd, us, es, rfl, sy _ _ hhd, hE.keep shy, .inl ⟨hsw, fun T2 Hz sz' hT2 => ?_⟩⟩⟩
            refine ⟨_, rfl, 0, T2, T1, rfl, rfl, vs_ref hT2 (sz' _ _ hT1), by omega, _, rfl, iteF ?_⟩
            refine ⟨_, rfl, _, rfl, .inr (.inr ⟨hd, st, us, false, rfl, rfl, SqL.of (sz' _ _ (sy _ _ hhd)), SqL.of (sz' _ _ (shy _ _ hst)), hplain, _, rfl, iteF ?_⟩)⟩
            refine ⟨_, rfl, T1, _, _, _, rfl, rfl, SqT.of (sz' _ _ hT1), atI_nat (j := 0) rfl, rfl, _, rfl, ite2 (fun h => absurd (V.str.inj (of_decide_eq_true h)) (by decide +kernel)) (fun _ => ?_)⟩
            exact iteF ⟨_, _, _, rfl, sx.trans (shy.trans sz')⟩
          | true =>
            refine ⟨_, rfl, _, rfl, _, rfl, t, l, ls, _, first, rs, lenN rs.length (tabI rs), szG rs, lv + 1, rfl, hBx.mono (TupS.same sh), hG, hDx.mono sh, hF, .inr ⟨st, us, es, rfl, sh _ _ hst, hE.keep sh, hM', .inr ⟨hsw, fun T1 Hy sy hT1 => ?_⟩⟩⟩
            have shy := sh.trans sy
            refine ⟨_, rfl, _, rfl, t, _, first, rs, rfl, hBx.mono (TupS.same shy), hG, .inr ⟨hd, us, es, rfl, sy _ _ hhd, hE.keep shy, .inr ⟨hsw, fun T2 Hz sz' hT2 => ?_⟩⟩⟩
            refine ⟨_, rfl, 0, T2, T1, rfl, rfl, vs_tol hT2 (sz' _ _ hT1), by omega, _, rfl, iteF ?_⟩
            refine ⟨_, rfl, _, rfl, .inr (.inr ⟨hd, st, us, false, rfl, rfl, SqL.of (sz' _ _ (sy _ _ hhd)), SqL.of (sz' _ _ (shy _ _ hst)), hplain, _, rfl, iteF ?_⟩)⟩
            have shz := shy.trans sz'
            refine ⟨_, rfl, T1, _, _, _, rfl, rfl, SqT.of (sz' _ _ hT1), atI_nat (j := 0) rfl, rfl, _, rfl, ite2 (fun _ => ?_) (fun h => absurd (decide_eq_true rfl) h)⟩
            have hs' : (decide (1 ≤ es.length ∧ es.length ≤ 301) && wkB rs first es) = true := hsw
            obtain ⟨h1, h2⟩ := (Bool.and_eq_true _ _).mp hs'
            obtain ⟨as', W', q1, q2, q3, q4, q5⟩ := els_way h2 hE
            have h3 := of_decide_eq_true h1
            obtain ⟨y1, y2⟩ := way_back (rs := rs) (g0 := fun _ => 1) W' first 0 (es.length - 1) q3 (by omega) (by show 0 < 1; decide)
            have y1' : ahE rs (szG rs) first es < (first.map (szG rs (es.length - 1))).sum := by rw [← q5 (szG rs)]; exact y1
            have y2' : wayG rs (szG rs) (es.length - 1 + 1) first (ahE rs (szG rs) first es) = W' := by rw [← q5 (szG rs)]; exact y2
            have lus := hE.len
            refine ⟨_, rfl, _, rfl, st, _, rfl, .inl (SqL.of (shz _ _ hst)), _, _, rfl, rfl, _, rfl, T1, _, _, _, rfl, rfl, SqT.of (sz' _ _ hT1), atI_nat (j := 1) rfl, t, first, rs, es.length - 1, _, ?_, hBx.mono (TupS.same shz), hG, by omega, y1', fun lw as2 Hw sw nlw hlw hSw => ?_⟩
            · have : ((us.length : Nat) : Int) - 1 = ((es.length - 1 : Nat) : Int) := by omega
              show [V.ref t, V.int (((us.length : Nat) : Int) - 1), V.int ((ahE rs (szG rs) first es : Nat) : Int)] = _
              rw [this]
            rw [y2'] at hSw
            rw [q1] at hst
            refine ⟨_, rfl, 1, lw, st, rfl, rfl, vs_steps hlw (sw _ _ (shz _ _ hst)) hSw (q2.mono (TupS.same (shz.trans sw))), by omega, _, rfl, iteF ?_⟩
            exact ⟨_, _, _, rfl, sx.trans (shz.trans sw)⟩
      · rintro σ Hx ⟨v10, v11, v12, rfl, sx⟩
        exact ⟨_, _, _, _, _, _, _, _, rfl, s5M.trans sx⟩
    · rintro σ H9 ⟨v5, v6, v7, v8, v9, v10, v11, v12, rfl, s9⟩
      exact k _
end
end Lw
namespace Lw
open PySem L2 PyProof.Rows PySem.W
theorem own_mk {K : PySem.W.Frag} {h : Heap} {mg : Str → Option Value} {x : Str} {C : Addr} {bmB : List Value} {newId : String} (X : K.In h) (G : h.Ns mainGlobals mg) (e : nsIn K mainGlobals x = some (some (.ref C))) (q : excIn K C bmB newId = true) : OwnCls x C bmB newId mg h := by
  refine ⟨mg_of X G e, ?_⟩
  unfold excIn at q
  split at q
  · rename_i dd cd sl hobj
    split at q
    · rename_i C2 bm2 s0 s1 s2 s3 nid s5 hmro hslots
      simp only [Bool.and_eq_true, beq_iff_eq, Bool.not_eq_true'] at q
      obtain ⟨⟨⟨⟨⟨rfl, rfl⟩, hdl⟩, htl⟩, hns⟩, hin⟩ := q
      obtain ⟨nm, bs, mro, nsa, qn, hd, sn, sub, ab, col, del⟩ := cd
      dsimp only at hmro hdl hns hin
      subst hmro hdl
      have esl : sl = #[s0, s1, s2, s3, some (.builtin nid), s5] := by
        obtain ⟨lst⟩ := sl
        simp only at hslots
        rw [hslots]
      subst esl
      exact ⟨bm2, nsa, nm, qn, bs, hd, sn, sub, ab, col, dd, s0, s1, s2, s3, s5, _, X _ _ hobj, .of_isNs (isNs_of_in X hns), nsMap_none_of_in X hns hin, tail_of_in X htl⟩
    · cases q
  · cases q
end Lw
namespace Lw
open PySem L2 PyProof.Rows
theorem gf_mk {K : PySem.W.Frag} {h : Heap} {mg : Str → Option Value} {x : Str} {fd : FuncData} {f : Addr} {ps : List Str} (X : K.In h) (G : h.Ns mainGlobals mg) (a : PySem.W.nsIn K mainGlobals x = some (some (.ref f))) (k : PySem.W.keepIn K (.ref f) = true) (b : Binds K fd ps []) : Gf K mg x f fd ps :=
  ⟨PySem.W.mg_of X G a, k, b⟩
theorem all_mk {l : PySem.W.OpenLaw} {w : World} {K : PySem.W.Frag} {h : Heap} {mg : Str → Option Value} {fa f0 f1 f2 f3 f4 f5 f6 f7 f8 f9 f10 f11 f12 f13 f14 f15 f16 f17 f18 f19 f20 f21 f22 f23 f24 f25 f26 f27 f28 f29 f30 f31 f32 : Addr} (X : K.In h) (G : h.Ns mainGlobals mg) (hfa : mg "law" = some (.ref fa))
    {od0 an0 od1 an1 od2 an2 od3 an3 od4 an4 od5 an5 od6 an6 od7 an7 od8 an8 od9 an9 od10 an10 od11 an11 od12 an12 od13 an13 od14 an14 od15 an15 od16 an16 od17 an17 od18 an18 od19 an19 od20 an20 od21 an21 od22 an22 od23 an23 od24 an24 od25 an25 od26 an26 od27 an27 od28 an28 od29 an29 od30 an30 od31 an31 od32 an32 : Option Addr} {sl0 sl1 sl2 sl3 sl4 sl5 sl6 sl7 sl8 sl9 sl10 sl11 sl12 sl13 sl14 sl15 sl16 sl17 sl18 sl19 sl20 sl21 sl22 sl23 sl24 sl25 sl26 sl27 sl28 sl29 sl30 sl31 sl32 : Array (Option Value)} {oc0 kV0 dc0 pm0 cd0 ct0 oc1 kV1 dc1 pm1 cd1 ct1 oc2 kV2 dc2 pm2 cd2 ct2 oc3 kV3 dc3 pm3 cd3 ct3 oc4 kV4 dc4 pm4 cd4 ct4 oc5 kV5 dc5 pm5 cd5 ct5 oc6 kV6 dc6 pm6 cd6 ct6 oc7 kV7 dc7 pm7 cd7 ct7 oc8 kV8 dc8 pm8 cd8 ct8 oc9 kV9 dc9 pm9 cd9 ct9 oc10 kV10 dc10 pm10 cd10 ct10 oc11 kV11 dc11 pm11 cd11 ct11 oc12 kV12 dc12 pm12 cd12 ct12 oc13 kV13 dc13 pm13 cd13 ct13 oc14 kV14 dc14 pm14 cd14 ct14 oc15 kV15 dc15 pm15 cd15 ct15 oc16 kV16 dc16 pm16 cd16 ct16 oc17 kV17 dc17 pm17 cd17 ct17 oc18 kV18 dc18 pm18 cd18 ct18 oc19 kV19 dc19 pm19 cd19 ct19 oc20 kV20 dc20 pm20 cd20 ct20 oc21 kV21 dc21 pm21 cd21 ct21 oc22 kV22 dc22 pm22 cd22 ct22 oc23 kV23 dc23 pm23 cd23 ct23 oc24 kV24 dc24 pm24 cd24 ct24 oc25 kV25 dc25 pm25 cd25 ct25 oc26 kV26 dc26 pm26 cd26 ct26 oc27 kV27 dc27 pm27 cd27 ct27 oc28 kV28 dc28 pm28 cd28 ct28 oc29 kV29 dc29 pm29 cd29 ct29 oc30 kV30 dc30 pm30 cd30 ct30 oc31 kV31 dc31 pm31 cd31 ct31 oc32 kV32 dc32 pm32 cd32 ct32 : Value} {tkSMALL_LETTERS tkLAST_AGE : Tok}
    (a0 : PySem.W.nsIn K mainGlobals "is_whole" = some (some (.ref f0))) (l0 : K.lookup f0 = some ⟨oc0, od0, .func (PySem.W.fnOf "is_whole" "is_whole" (defArgs sWho) (defBody sWho) (defScope sWho) .none kV0 dc0 pm0 an0 cd0 ct0), sl0⟩) (c0 : PySem.W.codeIn K cd0 "is_whole" = true) (k0 : PySem.W.keepIn K (.ref f0) = true)
    (a1 : PySem.W.nsIn K mainGlobals "is_within" = some (some (.ref f1))) (l1 : K.lookup f1 = some ⟨oc1, od1, .func (PySem.W.fnOf "is_within" "is_within" (defArgs sWin) (defBody sWin) (defScope sWin) .none kV1 dc1 pm1 an1 cd1 ct1), sl1⟩) (c1 : PySem.W.codeIn K cd1 "is_within" = true) (k1 : PySem.W.keepIn K (.ref f1) = true)
    (a2 : PySem.W.nsIn K mainGlobals "is_tuple_of" = some (some (.ref f2))) (l2 : K.lookup f2 = some ⟨oc2, od2, .func (PySem.W.fnOf "is_tuple_of" "is_tuple_of" (defArgs sIto) (defBody sIto) (defScope sIto) .none kV2 dc2 pm2 an2 cd2 ct2), sl2⟩) (c2 : PySem.W.codeIn K cd2 "is_tuple_of" = true) (k2 : PySem.W.keepIn K (.ref f2) = true)
    (a3 : PySem.W.nsIn K mainGlobals "is_letter" = some (some (.ref f3))) (l3 : K.lookup f3 = some ⟨oc3, od3, .func (PySem.W.fnOf "is_letter" "is_letter" (defArgs sIsl) (defBody sIsl) (defScope sIsl) .none kV3 dc3 pm3 an3 cd3 ct3), sl3⟩) (c3 : PySem.W.codeIn K cd3 "is_letter" = true) (k3 : PySem.W.keepIn K (.ref f3) = true)
    (a4 : PySem.W.nsIn K mainGlobals "need_age" = some (some (.ref f4))) (l4 : K.lookup f4 = some ⟨oc4, od4, .func (PySem.W.fnOf "need_age" "need_age" (defArgs sNag) (defBody sNag) (defScope sNag) .none kV4 dc4 pm4 an4 cd4 ct4), sl4⟩) (c4 : PySem.W.codeIn K cd4 "need_age" = true) (k4 : PySem.W.keepIn K (.ref f4) = true)
    (a5 : PySem.W.nsIn K mainGlobals "text_sum" = some (some (.ref f5))) (l5 : K.lookup f5 = some ⟨oc5, od5, .func (PySem.W.fnOf "text_sum" "text_sum" (defArgs sTsm) (defBody sTsm) (defScope sTsm) .none kV5 dc5 pm5 an5 cd5 ct5), sl5⟩) (c5 : PySem.W.codeIn K cd5 "text_sum" = true) (k5 : PySem.W.keepIn K (.ref f5) = true)
    (a6 : PySem.W.nsIn K mainGlobals "words_by_age" = some (some (.ref f6))) (l6 : K.lookup f6 = some ⟨oc6, od6, .func (PySem.W.fnOf "words_by_age" "words_by_age" (defArgs sWba) (defBody sWba) (defScope sWba) .none kV6 dc6 pm6 an6 cd6 ct6), sl6⟩) (c6 : PySem.W.codeIn K cd6 "words_by_age" = true) (k6 : PySem.W.keepIn K (.ref f6) = true)
    (a7 : PySem.W.nsIn K mainGlobals "letter_sums" = some (some (.ref f7))) (l7 : K.lookup f7 = some ⟨oc7, od7, .func (PySem.W.fnOf "letter_sums" "letter_sums" (defArgs sLsm) (defBody sLsm) (defScope sLsm) .none kV7 dc7 pm7 an7 cd7 ct7), sl7⟩) (c7 : PySem.W.codeIn K cd7 "letter_sums" = true) (k7 : PySem.W.keepIn K (.ref f7) = true)
    (a8 : PySem.W.nsIn K mainGlobals "size_sums" = some (some (.ref f8))) (l8 : K.lookup f8 = some ⟨oc8, od8, .func (PySem.W.fnOf "size_sums" "size_sums" (defArgs sSsm) (defBody sSsm) (defScope sSsm) .none kV8 dc8 pm8 an8 cd8 ct8), sl8⟩) (c8 : PySem.W.codeIn K cd8 "size_sums" = true) (k8 : PySem.W.keepIn K (.ref f8) = true)
    (a9 : PySem.W.nsIn K mainGlobals "length_sums" = some (some (.ref f9))) (l9 : K.lookup f9 = some ⟨oc9, od9, .func (PySem.W.fnOf "length_sums" "length_sums" (defArgs sLns) (defBody sLns) (defScope sLns) .none kV9 dc9 pm9 an9 cd9 ct9), sl9⟩) (c9 : PySem.W.codeIn K cd9 "length_sums" = true) (k9 : PySem.W.keepIn K (.ref f9) = true)
    (a10 : PySem.W.nsIn K mainGlobals "need_place" = some (some (.ref f10))) (l10 : K.lookup f10 = some ⟨oc10, od10, .func (PySem.W.fnOf "need_place" "need_place" (defArgs sNpl) (defBody sNpl) (defScope sNpl) .none kV10 dc10 pm10 an10 cd10 ct10), sl10⟩) (c10 : PySem.W.codeIn K cd10 "need_place" = true) (k10 : PySem.W.keepIn K (.ref f10) = true)
    (a11 : PySem.W.nsIn K mainGlobals "way_behind" = some (some (.ref f11))) (l11 : K.lookup f11 = some ⟨oc11, od11, .func (PySem.W.fnOf "way_behind" "way_behind" (defArgs sWbh) (defBody sWbh) (defScope sWbh) .none kV11 dc11 pm11 an11 cd11 ct11), sl11⟩) (c11 : PySem.W.codeIn K cd11 "way_behind" = true) (k11 : PySem.W.keepIn K (.ref f11) = true)
    (a12 : PySem.W.nsIn K mainGlobals "worth_ahead" = some (some (.ref f12))) (l12 : K.lookup f12 = some ⟨oc12, od12, .func (PySem.W.fnOf "worth_ahead" "worth_ahead" (defArgs sWah) (defBody sWah) (defScope sWah) .none kV12 dc12 pm12 an12 cd12 ct12), sl12⟩) (c12 : PySem.W.codeIn K cd12 "worth_ahead" = true) (k12 : PySem.W.keepIn K (.ref f12) = true)
    (a13 : PySem.W.nsIn K mainGlobals "way" = some (some (.ref f13))) (l13 : K.lookup f13 = some ⟨oc13, od13, .func (PySem.W.fnOf "way" "way" (defArgs sWay) (defBody sWay) (defScope sWay) .none kV13 dc13 pm13 an13 cd13 ct13), sl13⟩) (c13 : PySem.W.codeIn K cd13 "way" = true) (k13 : PySem.W.keepIn K (.ref f13) = true)
    (a14 : PySem.W.nsIn K mainGlobals "is_step" = some (some (.ref f14))) (l14 : K.lookup f14 = some ⟨oc14, od14, .func (PySem.W.fnOf "is_step" "is_step" (defArgs sIst) (defBody sIst) (defScope sIst) .none kV14 dc14 pm14 an14 cd14 ct14), sl14⟩) (c14 : PySem.W.codeIn K cd14 "is_step" = true) (k14 : PySem.W.keepIn K (.ref f14) = true)
    (a15 : PySem.W.nsIn K mainGlobals "is_way" = some (some (.ref f15))) (l15 : K.lookup f15 = some ⟨oc15, od15, .func (PySem.W.fnOf "is_way" "is_way" (defArgs sIsw) (defBody sIsw) (defScope sIsw) .none kV15 dc15 pm15 an15 cd15 ct15), sl15⟩) (c15 : PySem.W.codeIn K cd15 "is_way" = true) (k15 : PySem.W.keepIn K (.ref f15) = true)
    (a16 : PySem.W.nsIn K mainGlobals "place_of" = some (some (.ref f16))) (l16 : K.lookup f16 = some ⟨oc16, od16, .func (PySem.W.fnOf "place_of" "place_of" (defArgs sPlo) (defBody sPlo) (defScope sPlo) .none kV16 dc16 pm16 an16 cd16 ct16), sl16⟩) (c16 : PySem.W.codeIn K cd16 "place_of" = true) (k16 : PySem.W.keepIn K (.ref f16) = true)
    (a17 : PySem.W.nsIn K mainGlobals "_law_pen" = some (some (.ref f17))) (l17 : K.lookup f17 = some ⟨oc17, od17, .func (PySem.W.fnOf "_law_pen" "_law_pen" (defArgs sPen) (defBody sPen) (defScope sPen) .none kV17 dc17 pm17 an17 cd17 ct17), sl17⟩) (c17 : PySem.W.codeIn K cd17 "_law_pen" = true) (k17 : PySem.W.keepIn K (.ref f17) = true)
    (a18 : PySem.W.nsIn K mainGlobals "_law_take" = some (some (.ref f18))) (l18 : K.lookup f18 = some ⟨oc18, od18, .func (PySem.W.fnOf "_law_take" "_law_take" (defArgs sTak) (defBody sTak) (defScope sTak) .none kV18 dc18 pm18 an18 cd18 ct18), sl18⟩) (c18 : PySem.W.codeIn K cd18 "_law_take" = true) (k18 : PySem.W.keepIn K (.ref f18) = true)
    (a19 : PySem.W.nsIn K mainGlobals "_law_signs" = some (some (.ref f19))) (l19 : K.lookup f19 = some ⟨oc19, od19, .func (PySem.W.fnOf "_law_signs" "_law_signs" (defArgs sSig) (defBody sSig) (defScope sSig) .none kV19 dc19 pm19 an19 cd19 ct19), sl19⟩) (c19 : PySem.W.codeIn K cd19 "_law_signs" = true) (k19 : PySem.W.keepIn K (.ref f19) = true)
    (a20 : PySem.W.nsIn K mainGlobals "_law_text" = some (some (.ref f20))) (l20 : K.lookup f20 = some ⟨oc20, od20, .func (PySem.W.fnOf "_law_text" "_law_text" (defArgs sTxt) (defBody sTxt) (defScope sTxt) .none kV20 dc20 pm20 an20 cd20 ct20), sl20⟩) (c20 : PySem.W.codeIn K cd20 "_law_text" = true) (k20 : PySem.W.keepIn K (.ref f20) = true)
    (a21 : PySem.W.nsIn K mainGlobals "_law_word" = some (some (.ref f21))) (l21 : K.lookup f21 = some ⟨oc21, od21, .func (PySem.W.fnOf "_law_word" "_law_word" (defArgs sWrd) (defBody sWrd) (defScope sWrd) .none kV21 dc21 pm21 an21 cd21 ct21), sl21⟩) (c21 : PySem.W.codeIn K cd21 "_law_word" = true) (k21 : PySem.W.keepIn K (.ref f21) = true)
    (a22 : PySem.W.nsIn K mainGlobals "_law_book" = some (some (.ref f22))) (l22 : K.lookup f22 = some ⟨oc22, od22, .func (PySem.W.fnOf "_law_book" "_law_book" (defArgs sBok) (defBody sBok) (defScope sBok) .none kV22 dc22 pm22 an22 cd22 ct22), sl22⟩) (c22 : PySem.W.codeIn K cd22 "_law_book" = true) (k22 : PySem.W.keepIn K (.ref f22) = true)
    (a23 : PySem.W.nsIn K mainGlobals "_law_age" = some (some (.ref f23))) (l23 : K.lookup f23 = some ⟨oc23, od23, .func (PySem.W.fnOf "_law_age" "_law_age" (defArgs sAge) (defBody sAge) (defScope sAge) .none kV23 dc23 pm23 an23 cd23 ct23), sl23⟩) (c23 : PySem.W.codeIn K cd23 "_law_age" = true) (k23 : PySem.W.keepIn K (.ref f23) = true)
    (a24 : PySem.W.nsIn K mainGlobals "_law_whole" = some (some (.ref f24))) (l24 : K.lookup f24 = some ⟨oc24, od24, .func (PySem.W.fnOf "_law_whole" "_law_whole" (defArgs sWhl) (defBody sWhl) (defScope sWhl) .none kV24 dc24 pm24 an24 cd24 ct24), sl24⟩) (c24 : PySem.W.codeIn K cd24 "_law_whole" = true) (k24 : PySem.W.keepIn K (.ref f24) = true)
    (a25 : PySem.W.nsIn K mainGlobals "_law_sizes" = some (some (.ref f25))) (l25 : K.lookup f25 = some ⟨oc25, od25, .func (PySem.W.fnOf "_law_sizes" "_law_sizes" (defArgs sSzs) (defBody sSzs) (defScope sSzs) .none kV25 dc25 pm25 an25 cd25 ct25), sl25⟩) (c25 : PySem.W.codeIn K cd25 "_law_sizes" = true) (k25 : PySem.W.keepIn K (.ref f25) = true)
    (a26 : PySem.W.nsIn K mainGlobals "_law_refusal" = some (some (.ref f26))) (l26 : K.lookup f26 = some ⟨oc26, od26, .func (PySem.W.fnOf "_law_refusal" "_law_refusal" (defArgs sRfl) (defBody sRfl) (defScope sRfl) .none kV26 dc26 pm26 an26 cd26 ct26), sl26⟩) (c26 : PySem.W.codeIn K cd26 "_law_refusal" = true) (k26 : PySem.W.keepIn K (.ref f26) = true)
    (a27 : PySem.W.nsIn K mainGlobals "_law_walked" = some (some (.ref f27))) (l27 : K.lookup f27 = some ⟨oc27, od27, .func (PySem.W.fnOf "_law_walked" "_law_walked" (defArgs sWkd) (defBody sWkd) (defScope sWkd) .none kV27 dc27 pm27 an27 cd27 ct27), sl27⟩) (c27 : PySem.W.codeIn K cd27 "_law_walked" = true) (k27 : PySem.W.keepIn K (.ref f27) = true)
    (a28 : PySem.W.nsIn K mainGlobals "_law_down" = some (some (.ref f28))) (l28 : K.lookup f28 = some ⟨oc28, od28, .func (PySem.W.fnOf "_law_down" "_law_down" (defArgs sDwn) (defBody sDwn) (defScope sDwn) .none kV28 dc28 pm28 an28 cd28 ct28), sl28⟩) (c28 : PySem.W.codeIn K cd28 "_law_down" = true) (k28 : PySem.W.keepIn K (.ref f28) = true)
    (a29 : PySem.W.nsIn K mainGlobals "_law_spoiled" = some (some (.ref f29))) (l29 : K.lookup f29 = some ⟨oc29, od29, .func (PySem.W.fnOf "_law_spoiled" "_law_spoiled" (defArgs sSpo) (defBody sSpo) (defScope sSpo) .none kV29 dc29 pm29 an29 cd29 ct29), sl29⟩) (c29 : PySem.W.codeIn K cd29 "_law_spoiled" = true) (k29 : PySem.W.keepIn K (.ref f29) = true)
    (a30 : PySem.W.nsIn K mainGlobals "_law_told" = some (some (.ref f30))) (l30 : K.lookup f30 = some ⟨oc30, od30, .func (PySem.W.fnOf "_law_told" "_law_told" (defArgs sTld) (defBody sTld) (defScope sTld) .none kV30 dc30 pm30 an30 cd30 ct30), sl30⟩) (c30 : PySem.W.codeIn K cd30 "_law_told" = true) (k30 : PySem.W.keepIn K (.ref f30) = true)
    (a31 : PySem.W.nsIn K mainGlobals "_law_due" = some (some (.ref f31))) (l31 : K.lookup f31 = some ⟨oc31, od31, .func (PySem.W.fnOf "_law_due" "_law_due" (defArgs sDue) (defBody sDue) (defScope sDue) .none kV31 dc31 pm31 an31 cd31 ct31), sl31⟩) (c31 : PySem.W.codeIn K cd31 "_law_due" = true) (k31 : PySem.W.keepIn K (.ref f31) = true)
    (a32 : PySem.W.nsIn K mainGlobals "law" = some (some (.ref f32))) (l32 : K.lookup f32 = some ⟨oc32, od32, .func (PySem.W.fnOf "law" "law" (defArgs sLaw) (defBody sLaw) (defScope sLaw) .none kV32 dc32 pm32 an32 cd32 ct32), sl32⟩) (c32 : PySem.W.codeIn K cd32 "law" = true) (k32 : PySem.W.keepIn K (.ref f32) = true)
    (z0 : PySem.W.nsIn K mainGlobals "int" = some none) (z1 : PySem.W.nsIn K mainGlobals "isinstance" = some none) (z2 : PySem.W.nsIn K mainGlobals "bool" = some none) (z3 : PySem.W.nsIn K mainGlobals "len" = some none) (z4 : PySem.W.nsIn K mainGlobals "tuple" = some none) (z5 : PySem.W.nsIn K mainGlobals "str" = some none) (z6 : PySem.W.nsIn K mainGlobals "sum" = some none) (z7 : PySem.W.nsIn K mainGlobals "dict" = some none) (z8 : PySem.W.nsIn K mainGlobals "reversed" = some none) (z9 : PySem.W.nsIn K mainGlobals "zip" = some none) (z10 : PySem.W.nsIn K mainGlobals "list" = some none) (z11 : PySem.W.nsIn K mainGlobals "range" = some none) (z12 : PySem.W.nsIn K mainGlobals "enumerate" = some none) (z13 : PySem.W.nsIn K mainGlobals "sorted" = some none) (z14 : PySem.W.nsIn K mainGlobals "ValueError" = some none) (z15 : PySem.W.nsIn K mainGlobals "min" = some none)
    (y0 : PySem.W.nsIn K mainGlobals "SMALL_LETTERS" = some (some (.str "abcdefghijklmnopqrstuvwxyz" tkSMALL_LETTERS)))
    (y1 : PySem.W.nsIn K mainGlobals "LAST_AGE" = some (some (.int 300 tkLAST_AGE)))
    {cGrowError cNoBook cNoAge cNoLetter cNoNumber cNoPlace cNoWay cNoGroups cNoWord cNoTurn cNoMark cNoText cNoRow cTooLong cTooMany cNotKept cTooFar cNoName : Addr} {cdt0 cdt1 cdt2 cdt3 cdt4 cdt5 cdt6 cdt7 cdt8 cdt9 cdt10 cdt11 cdt12 cdt13 cdt14 cdt15 cdt16 cdt17 : ClassData}
    (ac0 : PySem.W.nsIn K mainGlobals "GrowError" = some (some (.ref cGrowError))) (kc0 : PySem.W.clsIn K cGrowError = some cdt0) (kn0 : PySem.W.instIn K (.ref cGrowError) (.type "tuple") = some false) (kb0 : PySem.W.mroIn K cGrowError (.type "BaseException") = some true) (kt0 : PySem.W.typeIn K (.ref cGrowError) = some (.type "type"))
    (ac1 : PySem.W.nsIn K mainGlobals "NoBook" = some (some (.ref cNoBook))) (kc1 : PySem.W.clsIn K cNoBook = some cdt1) (kn1 : PySem.W.instIn K (.ref cNoBook) (.type "tuple") = some false) (kb1 : PySem.W.mroIn K cNoBook (.type "BaseException") = some true) (kt1 : PySem.W.typeIn K (.ref cNoBook) = some (.type "type"))
    (ac2 : PySem.W.nsIn K mainGlobals "NoAge" = some (some (.ref cNoAge))) (kc2 : PySem.W.clsIn K cNoAge = some cdt2) (kn2 : PySem.W.instIn K (.ref cNoAge) (.type "tuple") = some false) (kb2 : PySem.W.mroIn K cNoAge (.type "BaseException") = some true) (kt2 : PySem.W.typeIn K (.ref cNoAge) = some (.type "type")) (q2 : PySem.W.excIn K cNoAge [.type "ValueError", .type "Exception", .type "BaseException", .type "object"] "ValueError.__new__" = true) (xf2 : PySem.W.findIn K (.ref cNoAge) "__class__" = some (some (.builtin "object.__class__"))) (xg2 : PySem.W.specialIn K (.builtin "object.__class__") "__get__" = some (some (.builtin "getset_descriptor.__get__"))) (xt2 : PySem.W.takesIn K (.builtin "object.__class__") = some true) (xo2 : PySem.W.mroIn K cNoAge (.type "object") = some true) (xa2 : PySem.W.findIn K (.ref cNoAge) "__getattribute__" = some (some (.builtin "BaseException.__getattribute__"))) (xh2 : PySem.W.findIn K (.ref cNoAge) "__getattr__" = some none) (xv2 : PySem.W.mroIn K cNoAge (.type "ValueError") = some true) (r2_0 : PySem.W.mroIn K cNoAge (.ref cGrowError) = some true) (r2_1 : PySem.W.mroIn K cNoAge (.ref cNoBook) = some false) (r2_2 : PySem.W.mroIn K cNoAge (.ref cNoAge) = some true) (r2_3 : PySem.W.mroIn K cNoAge (.ref cNoLetter) = some false) (r2_4 : PySem.W.mroIn K cNoAge (.ref cNoNumber) = some false) (r2_5 : PySem.W.mroIn K cNoAge (.ref cNoPlace) = some false) (r2_6 : PySem.W.mroIn K cNoAge (.ref cNoWay) = some false) (r2_7 : PySem.W.mroIn K cNoAge (.ref cNoGroups) = some false) (r2_8 : PySem.W.mroIn K cNoAge (.ref cNoWord) = some false) (r2_9 : PySem.W.mroIn K cNoAge (.ref cNoTurn) = some false) (r2_10 : PySem.W.mroIn K cNoAge (.ref cNoMark) = some false) (r2_11 : PySem.W.mroIn K cNoAge (.ref cNoText) = some false) (r2_12 : PySem.W.mroIn K cNoAge (.ref cNoRow) = some false) (r2_13 : PySem.W.mroIn K cNoAge (.ref cTooLong) = some false) (r2_14 : PySem.W.mroIn K cNoAge (.ref cTooMany) = some false) (r2_15 : PySem.W.mroIn K cNoAge (.ref cNotKept) = some false) (r2_16 : PySem.W.mroIn K cNoAge (.ref cTooFar) = some false) (r2_17 : PySem.W.mroIn K cNoAge (.ref cNoName) = some false)
    (ac3 : PySem.W.nsIn K mainGlobals "NoLetter" = some (some (.ref cNoLetter))) (kc3 : PySem.W.clsIn K cNoLetter = some cdt3) (kn3 : PySem.W.instIn K (.ref cNoLetter) (.type "tuple") = some false) (kb3 : PySem.W.mroIn K cNoLetter (.type "BaseException") = some true) (kt3 : PySem.W.typeIn K (.ref cNoLetter) = some (.type "type"))
    (ac4 : PySem.W.nsIn K mainGlobals "NoNumber" = some (some (.ref cNoNumber))) (kc4 : PySem.W.clsIn K cNoNumber = some cdt4) (kn4 : PySem.W.instIn K (.ref cNoNumber) (.type "tuple") = some false) (kb4 : PySem.W.mroIn K cNoNumber (.type "BaseException") = some true) (kt4 : PySem.W.typeIn K (.ref cNoNumber) = some (.type "type"))
    (ac5 : PySem.W.nsIn K mainGlobals "NoPlace" = some (some (.ref cNoPlace))) (kc5 : PySem.W.clsIn K cNoPlace = some cdt5) (kn5 : PySem.W.instIn K (.ref cNoPlace) (.type "tuple") = some false) (kb5 : PySem.W.mroIn K cNoPlace (.type "BaseException") = some true) (kt5 : PySem.W.typeIn K (.ref cNoPlace) = some (.type "type")) (q5 : PySem.W.excIn K cNoPlace [.type "ValueError", .type "Exception", .type "BaseException", .type "object"] "ValueError.__new__" = true) (xf5 : PySem.W.findIn K (.ref cNoPlace) "__class__" = some (some (.builtin "object.__class__"))) (xg5 : PySem.W.specialIn K (.builtin "object.__class__") "__get__" = some (some (.builtin "getset_descriptor.__get__"))) (xt5 : PySem.W.takesIn K (.builtin "object.__class__") = some true) (xo5 : PySem.W.mroIn K cNoPlace (.type "object") = some true) (xa5 : PySem.W.findIn K (.ref cNoPlace) "__getattribute__" = some (some (.builtin "BaseException.__getattribute__"))) (xh5 : PySem.W.findIn K (.ref cNoPlace) "__getattr__" = some none) (xv5 : PySem.W.mroIn K cNoPlace (.type "ValueError") = some true) (r5_0 : PySem.W.mroIn K cNoPlace (.ref cGrowError) = some true) (r5_1 : PySem.W.mroIn K cNoPlace (.ref cNoBook) = some false) (r5_2 : PySem.W.mroIn K cNoPlace (.ref cNoAge) = some false) (r5_3 : PySem.W.mroIn K cNoPlace (.ref cNoLetter) = some false) (r5_4 : PySem.W.mroIn K cNoPlace (.ref cNoNumber) = some false) (r5_5 : PySem.W.mroIn K cNoPlace (.ref cNoPlace) = some true) (r5_6 : PySem.W.mroIn K cNoPlace (.ref cNoWay) = some false) (r5_7 : PySem.W.mroIn K cNoPlace (.ref cNoGroups) = some false) (r5_8 : PySem.W.mroIn K cNoPlace (.ref cNoWord) = some false) (r5_9 : PySem.W.mroIn K cNoPlace (.ref cNoTurn) = some false) (r5_10 : PySem.W.mroIn K cNoPlace (.ref cNoMark) = some false) (r5_11 : PySem.W.mroIn K cNoPlace (.ref cNoText) = some false) (r5_12 : PySem.W.mroIn K cNoPlace (.ref cNoRow) = some false) (r5_13 : PySem.W.mroIn K cNoPlace (.ref cTooLong) = some false) (r5_14 : PySem.W.mroIn K cNoPlace (.ref cTooMany) = some false) (r5_15 : PySem.W.mroIn K cNoPlace (.ref cNotKept) = some false) (r5_16 : PySem.W.mroIn K cNoPlace (.ref cTooFar) = some false) (r5_17 : PySem.W.mroIn K cNoPlace (.ref cNoName) = some false)
    (ac6 : PySem.W.nsIn K mainGlobals "NoWay" = some (some (.ref cNoWay))) (kc6 : PySem.W.clsIn K cNoWay = some cdt6) (kn6 : PySem.W.instIn K (.ref cNoWay) (.type "tuple") = some false) (kb6 : PySem.W.mroIn K cNoWay (.type "BaseException") = some true) (kt6 : PySem.W.typeIn K (.ref cNoWay) = some (.type "type")) (q6 : PySem.W.excIn K cNoWay [.type "ValueError", .type "Exception", .type "BaseException", .type "object"] "ValueError.__new__" = true) (xf6 : PySem.W.findIn K (.ref cNoWay) "__class__" = some (some (.builtin "object.__class__"))) (xg6 : PySem.W.specialIn K (.builtin "object.__class__") "__get__" = some (some (.builtin "getset_descriptor.__get__"))) (xt6 : PySem.W.takesIn K (.builtin "object.__class__") = some true) (xo6 : PySem.W.mroIn K cNoWay (.type "object") = some true) (xa6 : PySem.W.findIn K (.ref cNoWay) "__getattribute__" = some (some (.builtin "BaseException.__getattribute__"))) (xh6 : PySem.W.findIn K (.ref cNoWay) "__getattr__" = some none) (xv6 : PySem.W.mroIn K cNoWay (.type "ValueError") = some true) (r6_0 : PySem.W.mroIn K cNoWay (.ref cGrowError) = some true) (r6_1 : PySem.W.mroIn K cNoWay (.ref cNoBook) = some false) (r6_2 : PySem.W.mroIn K cNoWay (.ref cNoAge) = some false) (r6_3 : PySem.W.mroIn K cNoWay (.ref cNoLetter) = some false) (r6_4 : PySem.W.mroIn K cNoWay (.ref cNoNumber) = some false) (r6_5 : PySem.W.mroIn K cNoWay (.ref cNoPlace) = some false) (r6_6 : PySem.W.mroIn K cNoWay (.ref cNoWay) = some true) (r6_7 : PySem.W.mroIn K cNoWay (.ref cNoGroups) = some false) (r6_8 : PySem.W.mroIn K cNoWay (.ref cNoWord) = some false) (r6_9 : PySem.W.mroIn K cNoWay (.ref cNoTurn) = some false) (r6_10 : PySem.W.mroIn K cNoWay (.ref cNoMark) = some false) (r6_11 : PySem.W.mroIn K cNoWay (.ref cNoText) = some false) (r6_12 : PySem.W.mroIn K cNoWay (.ref cNoRow) = some false) (r6_13 : PySem.W.mroIn K cNoWay (.ref cTooLong) = some false) (r6_14 : PySem.W.mroIn K cNoWay (.ref cTooMany) = some false) (r6_15 : PySem.W.mroIn K cNoWay (.ref cNotKept) = some false) (r6_16 : PySem.W.mroIn K cNoWay (.ref cTooFar) = some false) (r6_17 : PySem.W.mroIn K cNoWay (.ref cNoName) = some false)
    (ac7 : PySem.W.nsIn K mainGlobals "NoGroups" = some (some (.ref cNoGroups))) (kc7 : PySem.W.clsIn K cNoGroups = some cdt7) (kn7 : PySem.W.instIn K (.ref cNoGroups) (.type "tuple") = some false) (kb7 : PySem.W.mroIn K cNoGroups (.type "BaseException") = some true) (kt7 : PySem.W.typeIn K (.ref cNoGroups) = some (.type "type"))
    (ac8 : PySem.W.nsIn K mainGlobals "NoWord" = some (some (.ref cNoWord))) (kc8 : PySem.W.clsIn K cNoWord = some cdt8) (kn8 : PySem.W.instIn K (.ref cNoWord) (.type "tuple") = some false) (kb8 : PySem.W.mroIn K cNoWord (.type "BaseException") = some true) (kt8 : PySem.W.typeIn K (.ref cNoWord) = some (.type "type"))
    (ac9 : PySem.W.nsIn K mainGlobals "NoTurn" = some (some (.ref cNoTurn))) (kc9 : PySem.W.clsIn K cNoTurn = some cdt9) (kn9 : PySem.W.instIn K (.ref cNoTurn) (.type "tuple") = some false) (kb9 : PySem.W.mroIn K cNoTurn (.type "BaseException") = some true) (kt9 : PySem.W.typeIn K (.ref cNoTurn) = some (.type "type"))
    (ac10 : PySem.W.nsIn K mainGlobals "NoMark" = some (some (.ref cNoMark))) (kc10 : PySem.W.clsIn K cNoMark = some cdt10) (kn10 : PySem.W.instIn K (.ref cNoMark) (.type "tuple") = some false) (kb10 : PySem.W.mroIn K cNoMark (.type "BaseException") = some true) (kt10 : PySem.W.typeIn K (.ref cNoMark) = some (.type "type"))
    (ac11 : PySem.W.nsIn K mainGlobals "NoText" = some (some (.ref cNoText))) (kc11 : PySem.W.clsIn K cNoText = some cdt11) (kn11 : PySem.W.instIn K (.ref cNoText) (.type "tuple") = some false) (kb11 : PySem.W.mroIn K cNoText (.type "BaseException") = some true) (kt11 : PySem.W.typeIn K (.ref cNoText) = some (.type "type"))
    (ac12 : PySem.W.nsIn K mainGlobals "NoRow" = some (some (.ref cNoRow))) (kc12 : PySem.W.clsIn K cNoRow = some cdt12) (kn12 : PySem.W.instIn K (.ref cNoRow) (.type "tuple") = some false) (kb12 : PySem.W.mroIn K cNoRow (.type "BaseException") = some true) (kt12 : PySem.W.typeIn K (.ref cNoRow) = some (.type "type"))
    (ac13 : PySem.W.nsIn K mainGlobals "TooLong" = some (some (.ref cTooLong))) (kc13 : PySem.W.clsIn K cTooLong = some cdt13) (kn13 : PySem.W.instIn K (.ref cTooLong) (.type "tuple") = some false) (kb13 : PySem.W.mroIn K cTooLong (.type "BaseException") = some true) (kt13 : PySem.W.typeIn K (.ref cTooLong) = some (.type "type"))
    (ac14 : PySem.W.nsIn K mainGlobals "TooMany" = some (some (.ref cTooMany))) (kc14 : PySem.W.clsIn K cTooMany = some cdt14) (kn14 : PySem.W.instIn K (.ref cTooMany) (.type "tuple") = some false) (kb14 : PySem.W.mroIn K cTooMany (.type "BaseException") = some true) (kt14 : PySem.W.typeIn K (.ref cTooMany) = some (.type "type"))
    (ac15 : PySem.W.nsIn K mainGlobals "NotKept" = some (some (.ref cNotKept))) (kc15 : PySem.W.clsIn K cNotKept = some cdt15) (kn15 : PySem.W.instIn K (.ref cNotKept) (.type "tuple") = some false) (kb15 : PySem.W.mroIn K cNotKept (.type "BaseException") = some true) (kt15 : PySem.W.typeIn K (.ref cNotKept) = some (.type "type"))
    (ac16 : PySem.W.nsIn K mainGlobals "TooFar" = some (some (.ref cTooFar))) (kc16 : PySem.W.clsIn K cTooFar = some cdt16) (kn16 : PySem.W.instIn K (.ref cTooFar) (.type "tuple") = some false) (kb16 : PySem.W.mroIn K cTooFar (.type "BaseException") = some true) (kt16 : PySem.W.typeIn K (.ref cTooFar) = some (.type "type"))
    (ac17 : PySem.W.nsIn K mainGlobals "NoName" = some (some (.ref cNoName))) (kc17 : PySem.W.clsIn K cNoName = some cdt17) (kn17 : PySem.W.instIn K (.ref cNoName) (.type "tuple") = some false) (kb17 : PySem.W.mroIn K cNoName (.type "BaseException") = some true) (kt17 : PySem.W.typeIn K (.ref cNoName) = some (.type "type"))
    : ∃ fd : FuncData, (∀ (s : Shared) (v : Value), BindsTo s fd ⟨[v], []⟩ [("_law_script", v)]) ∧ ∀ base : Heap, K.In base → base.Ns mainGlobals mg → FnOk l.prog w K mg base CX0 7 fa fd ["_law_script"] (spLaw K) := by
  have e := hfa.symm.trans (PySem.W.mg_of X G a32)
  cases e
  have F0 := fun_mk (st := sWho) l0 c0 k0
  have F1 := fun_mk (st := sWin) l1 c1 k1
  have F2 := fun_mk (st := sIto) l2 c2 k2
  have F3 := fun_mk (st := sIsl) l3 c3 k3
  have F4 := fun_mk (st := sNag) l4 c4 k4
  have F5 := fun_mk (st := sTsm) l5 c5 k5
  have F6 := fun_mk (st := sWba) l6 c6 k6
  have F7 := fun_mk (st := sLsm) l7 c7 k7
  have F8 := fun_mk (st := sSsm) l8 c8 k8
  have F9 := fun_mk (st := sLns) l9 c9 k9
  have F10 := fun_mk (st := sNpl) l10 c10 k10
  have F11 := fun_mk (st := sWbh) l11 c11 k11
  have F12 := fun_mk (st := sWah) l12 c12 k12
  have F13 := fun_mk (st := sWay) l13 c13 k13
  have F14 := fun_mk (st := sIst) l14 c14 k14
  have F15 := fun_mk (st := sIsw) l15 c15 k15
  have F16 := fun_mk (st := sPlo) l16 c16 k16
  have F17 := fun_mk (st := sPen) l17 c17 k17
  have F18 := fun_mk (st := sTak) l18 c18 k18
  have F19 := fun_mk (st := sSig) l19 c19 k19
  have F20 := fun_mk (st := sTxt) l20 c20 k20
  have F21 := fun_mk (st := sWrd) l21 c21 k21
  have F22 := fun_mk (st := sBok) l22 c22 k22
  have F23 := fun_mk (st := sAge) l23 c23 k23
  have F24 := fun_mk (st := sWhl) l24 c24 k24
  have F25 := fun_mk (st := sSzs) l25 c25 k25
  have F26 := fun_mk (st := sRfl) l26 c26 k26
  have F27 := fun_mk (st := sWkd) l27 c27 k27
  have F28 := fun_mk (st := sDwn) l28 c28 k28
  have F29 := fun_mk (st := sSpo) l29 c29 k29
  have F30 := fun_mk (st := sTld) l30 c30 k30
  have F31 := fun_mk (st := sDue) l31 c31 k31
  have F32 := fun_mk (st := sLaw) l32 c32 k32
  have b0 := F0.binds (ps := ["thing"]) fun _ _ _ _ _ _ us hl => match us, hl with | [_], _ => rfl
  have gWho := gf_mk X G a0 k0 b0
  have b1 := F1.binds (ps := ["thing", "least", "most"]) fun _ _ _ _ _ _ us hl => match us, hl with | [_, _, _], _ => rfl
  have gWin := gf_mk X G a1 k1 b1
  have b2 := F2.binds (ps := ["thing", "many"]) fun _ _ _ _ _ _ us hl => match us, hl with | [_, _], _ => rfl
  have gIto := gf_mk X G a2 k2 b2
  have b3 := F3.binds (ps := ["thing"]) fun _ _ _ _ _ _ us hl => match us, hl with | [_], _ => rfl
  have gIsl := gf_mk X G a3 k3 b3
  have b4 := F4.binds (ps := ["age"]) fun _ _ _ _ _ _ us hl => match us, hl with | [_], _ => rfl
  have gNag := gf_mk X G a4 k4 b4
  have b5 := F5.binds (ps := ["text", "worths"]) fun _ _ _ _ _ _ us hl => match us, hl with | [_, _], _ => rfl
  have gTsm := gf_mk X G a5 k5 b5
  have b6 := F6.binds (ps := ["book", "age"]) fun _ _ _ _ _ _ us hl => match us, hl with | [_, _], _ => rfl
  have gWba := gf_mk X G a6 k6 b6
  have b7 := F7.binds (ps := ["words", "worths"]) fun _ _ _ _ _ _ us hl => match us, hl with | [_, _], _ => rfl
  have gLsm := gf_mk X G a7 k7 b7
  have b8 := F8.binds (ps := ["words"]) fun _ _ _ _ _ _ us hl => match us, hl with | [_], _ => rfl
  have gSsm := gf_mk X G a8 k8 b8
  have b9 := F9.binds (ps := ["book", "age"]) fun _ _ _ _ _ _ us hl => match us, hl with | [_, _], _ => rfl
  have gLns := gf_mk X G a9 k9 b9
  have b10 := F10.binds (ps := ["place", "last"]) fun _ _ _ _ _ _ us hl => match us, hl with | [_, _], _ => rfl
  have gNpl := gf_mk X G a10 k10 b10
  have b11 := F11.binds (ps := ["first", "words", "sums", "many"]) fun _ _ _ _ _ _ us hl => match us, hl with | [_, _, _, _], _ => rfl
  have gWbh := gf_mk X G a11 k11 b11
  have b12 := F12.binds (ps := ["first", "words", "steps", "sums"]) fun _ _ _ _ _ _ us hl => match us, hl with | [_, _, _, _], _ => rfl
  have gWah := gf_mk X G a12 k12 b12
  have b13 := F13.binds (ps := ["book", "age", "place"]) fun _ _ _ _ _ _ us hl => match us, hl with | [_, _, _], _ => rfl
  have gWay := gf_mk X G a13 k13 b13
  have b14 := F14.binds (ps := ["thing", "text"]) fun _ _ _ _ _ _ us hl => match us, hl with | [_, _], _ => rfl
  have gIst := gf_mk X G a14 k14 b14
  have b15 := F15.binds (ps := ["book", "thing"]) fun _ _ _ _ _ _ us hl => match us, hl with | [_, _], _ => rfl
  have gIsw := gf_mk X G a15 k15 b15
  have b16 := F16.binds (ps := ["book", "way"]) fun _ _ _ _ _ _ us hl => match us, hl with | [_, _], _ => rfl
  have gPlo := gf_mk X G a16 k16 b16
  have b17 := F17.binds (ps := ["_law_script", "_law_k"]) fun _ _ _ _ _ _ us hl => match us, hl with | [_, _], _ => rfl
  have gPen := gf_mk X G a17 k17 b17
  have b18 := F18.binds (ps := ["_law_pen_here", "_law_size_here"]) fun _ _ _ _ _ _ us hl => match us, hl with | [_, _], _ => rfl
  have gTak := gf_mk X G a18 k18 b18
  have b19 := F19.binds (ps := ["_law_pen_here", "_law_many"]) fun _ _ _ _ _ _ us hl => match us, hl with | [_, _], _ => rfl
  have gSig := gf_mk X G a19 k19 b19
  have b20 := F20.binds (ps := ["_law_pen_here", "_law_signs_here", "_law_many"]) fun _ _ _ _ _ _ us hl => match us, hl with | [_, _, _], _ => rfl
  have gTxt := gf_mk X G a20 k20 b20
  have b21 := F21.binds (ps := ["_law_pen_here", "_law_pick", "_law_signs_here", "_law_at"]) fun _ _ _ _ _ _ us hl => match us, hl with | [_, _, _, _], _ => rfl
  have gWrd := gf_mk X G a21 k21 b21
  have b22 := F22.binds (ps := ["_law_pen_here"]) fun _ _ _ _ _ _ us hl => match us, hl with | [_], _ => rfl
  have gBok := gf_mk X G a22 k22 b22
  have b23 := F23.binds (ps := ["_law_pen_here"]) fun _ _ _ _ _ _ us hl => match us, hl with | [_], _ => rfl
  have gAge := gf_mk X G a23 k23 b23
  have b24 := F24.binds (ps := ["_law_thing"]) fun _ _ _ _ _ _ us hl => match us, hl with | [_], _ => rfl
  have gWhl := gf_mk X G a24 k24 b24
  have b25 := F25.binds (ps := ["_law_book_here", "_law_age_here"]) fun _ _ _ _ _ _ us hl => match us, hl with | [_, _], _ => rfl
  have gSzs := gf_mk X G a25 k25 b25
  have b26 := F26.binds (ps := ["_law_error"]) fun _ _ _ _ _ _ us hl => match us, hl with | [_], _ => rfl
  have gRfl := gf_mk X G a26 k26 b26
  have b27 := F27.binds (ps := ["_law_book_here", "_law_sizes_here", "_law_steps"]) fun _ _ _ _ _ _ us hl => match us, hl with | [_, _, _], _ => rfl
  have gWkd := gf_mk X G a27 k27 b27
  have b28 := F28.binds (ps := ["_law_pen_here", "_law_book_here", "_law_levels"]) fun _ _ _ _ _ _ us hl => match us, hl with | [_, _, _], _ => rfl
  have gDwn := gf_mk X G a28 k28 b28
  have b29 := F29.binds (ps := ["_law_pen_here", "_law_steps"]) fun _ _ _ _ _ _ us hl => match us, hl with | [_, _], _ => rfl
  have gSpo := gf_mk X G a29 k29 b29
  have b30 := F30.binds (ps := ["_law_book_here", "_law_thing"]) fun _ _ _ _ _ _ us hl => match us, hl with | [_, _], _ => rfl
  have gTld := gf_mk X G a30 k30 b30
  have b31 := F31.binds (ps := ["_law_book_here", "_law_sizes_here", "_law_thing"]) fun _ _ _ _ _ _ us hl => match us, hl with | [_, _, _], _ => rfl
  have gDue := gf_mk X G a31 k31 b31
  have m_int := PySem.W.mg_none_of X G z0
  have m_isinstance := PySem.W.mg_none_of X G z1
  have m_bool := PySem.W.mg_none_of X G z2
  have m_len := PySem.W.mg_none_of X G z3
  have m_tuple := PySem.W.mg_none_of X G z4
  have m_str := PySem.W.mg_none_of X G z5
  have m_sum := PySem.W.mg_none_of X G z6
  have m_dict := PySem.W.mg_none_of X G z7
  have m_reversed := PySem.W.mg_none_of X G z8
  have m_zip := PySem.W.mg_none_of X G z9
  have m_list := PySem.W.mg_none_of X G z10
  have m_range := PySem.W.mg_none_of X G z11
  have m_enumerate := PySem.W.mg_none_of X G z12
  have m_sorted := PySem.W.mg_none_of X G z13
  have m_ValueError := PySem.W.mg_none_of X G z14
  have m_min := PySem.W.mg_none_of X G z15
  have m_SMALL_LETTERS := PySem.W.mg_of X G y0
  have m_LAST_AGE := PySem.W.mg_of X G y1
  refine ⟨PySem.W.fnOf "law" "law" (defArgs sLaw) (defBody sLaw) (defScope sLaw) .none kV32 dc32 pm32 an32 cd32 ct32, fun s v => .of_eq rfl, fun base KB GB => ?_⟩
  have mGrowError := PySem.W.mg_of X G ac0
  have ckGrowError : ClsK K cGrowError := ⟨by rw [kc0]; rfl, kn0, kb0, kt0⟩
  have mNoBook := PySem.W.mg_of X G ac1
  have ckNoBook : ClsK K cNoBook := ⟨by rw [kc1]; rfl, kn1, kb1, kt1⟩
  have mNoAge := PySem.W.mg_of X G ac2
  have ckNoAge : ClsK K cNoAge := ⟨by rw [kc2]; rfl, kn2, kb2, kt2⟩
  have owNoAge : OwnCls "NoAge" cNoAge bmV "ValueError.__new__" mg base := own_mk KB GB ac2 q2
  have xkNoAge : ExcK K cNoAge := ⟨by rw [kc2]; rfl, xf2, xg2, xt2, xo2, kb2, xa2, xh2⟩
  have mNoLetter := PySem.W.mg_of X G ac3
  have ckNoLetter : ClsK K cNoLetter := ⟨by rw [kc3]; rfl, kn3, kb3, kt3⟩
  have mNoNumber := PySem.W.mg_of X G ac4
  have ckNoNumber : ClsK K cNoNumber := ⟨by rw [kc4]; rfl, kn4, kb4, kt4⟩
  have mNoPlace := PySem.W.mg_of X G ac5
  have ckNoPlace : ClsK K cNoPlace := ⟨by rw [kc5]; rfl, kn5, kb5, kt5⟩
  have owNoPlace : OwnCls "NoPlace" cNoPlace bmV "ValueError.__new__" mg base := own_mk KB GB ac5 q5
  have xkNoPlace : ExcK K cNoPlace := ⟨by rw [kc5]; rfl, xf5, xg5, xt5, xo5, kb5, xa5, xh5⟩
  have mNoWay := PySem.W.mg_of X G ac6
  have ckNoWay : ClsK K cNoWay := ⟨by rw [kc6]; rfl, kn6, kb6, kt6⟩
  have owNoWay : OwnCls "NoWay" cNoWay bmV "ValueError.__new__" mg base := own_mk KB GB ac6 q6
  have xkNoWay : ExcK K cNoWay := ⟨by rw [kc6]; rfl, xf6, xg6, xt6, xo6, kb6, xa6, xh6⟩
  have mNoGroups := PySem.W.mg_of X G ac7
  have ckNoGroups : ClsK K cNoGroups := ⟨by rw [kc7]; rfl, kn7, kb7, kt7⟩
  have mNoWord := PySem.W.mg_of X G ac8
  have ckNoWord : ClsK K cNoWord := ⟨by rw [kc8]; rfl, kn8, kb8, kt8⟩
  have mNoTurn := PySem.W.mg_of X G ac9
  have ckNoTurn : ClsK K cNoTurn := ⟨by rw [kc9]; rfl, kn9, kb9, kt9⟩
  have mNoMark := PySem.W.mg_of X G ac10
  have ckNoMark : ClsK K cNoMark := ⟨by rw [kc10]; rfl, kn10, kb10, kt10⟩
  have mNoText := PySem.W.mg_of X G ac11
  have ckNoText : ClsK K cNoText := ⟨by rw [kc11]; rfl, kn11, kb11, kt11⟩
  have mNoRow := PySem.W.mg_of X G ac12
  have ckNoRow : ClsK K cNoRow := ⟨by rw [kc12]; rfl, kn12, kb12, kt12⟩
  have mTooLong := PySem.W.mg_of X G ac13
  have ckTooLong : ClsK K cTooLong := ⟨by rw [kc13]; rfl, kn13, kb13, kt13⟩
  have mTooMany := PySem.W.mg_of X G ac14
  have ckTooMany : ClsK K cTooMany := ⟨by rw [kc14]; rfl, kn14, kb14, kt14⟩
  have mNotKept := PySem.W.mg_of X G ac15
  have ckNotKept : ClsK K cNotKept := ⟨by rw [kc15]; rfl, kn15, kb15, kt15⟩
  have mTooFar := PySem.W.mg_of X G ac16
  have ckTooFar : ClsK K cTooFar := ⟨by rw [kc16]; rfl, kn16, kb16, kt16⟩
  have mNoName := PySem.W.mg_of X G ac17
  have ckNoName : ClsK K cNoName := ⟨by rw [kc17]; rfl, kn17, kb17, kt17⟩
  have oTsm := ok_tsm (P := l.prog) (w := w) (mg := mg) (base := base) F5 m_sum
  have oWah := ok_wah (P := l.prog) (w := w) (mg := mg) (base := base) F12 oTsm gTsm m_zip m_reversed
  have oIto := ok_ito (P := l.prog) (w := w) (mg := mg) (base := base) F2 m_len m_tuple m_isinstance
  have oIsl := ok_isl (P := l.prog) (w := w) (mg := mg) (base := base) F3 m_len m_isinstance m_str m_SMALL_LETTERS
  have oWho := ok_who (P := l.prog) (w := w) (mg := mg) (base := base) F0 m_int m_isinstance m_bool
  have oWin := ok_win (P := l.prog) (w := w) (mg := mg) (base := base) F1 oWho gWho
  have oIst := ok_ist (P := l.prog) (w := w) (mg := mg) (base := base) F14 oIto gIto oIsl gIsl oWin gWin m_len
  have oIsw := ok_isw (P := l.prog) (w := w) (mg := mg) (base := base) F15 oIst gIst m_len m_list m_isinstance m_dict m_LAST_AGE
  have oWba := ok_wba (P := l.prog) (w := w) (mg := mg) (base := base) F6 m_dict
  have oLsm := ok_lsm (P := l.prog) (w := w) (mg := mg) (base := base) F7 oTsm gTsm m_dict m_reversed
  have oSsm := ok_ssm (P := l.prog) (w := w) (mg := mg) (base := base) F8 oLsm gLsm m_dict
  have oLns := ok_lns (P := l.prog) (w := w) (mg := mg) (base := base) F9 oSsm gSsm oWba gWba
  have oPloX := ok_plox (P := l.prog) (w := w) (mg := mg) (base := base) F16 oWah gWah oIsw gIsw oWba gWba oLns gLns gWay.m owNoWay m_len
  have oPen := ok_pen (P := l.prog) (w := w) (mg := mg) (base := base) F17 m_len
  have oTak := ok_tak (P := l.prog) (w := w) (mg := mg) (base := base) F18
  have oSig := ok_sig (P := l.prog) (w := w) (mg := mg) (base := base) F19 oTak gTak m_len m_list m_range
  have oTxt := ok_txt (P := l.prog) (w := w) (mg := mg) (base := base) F20 oTak gTak m_len m_int m_range
  have oWrd := ok_wrd (P := l.prog) (w := w) (mg := mg) (base := base) F21 oTak gTak oTxt gTxt m_len
  have oBok := ok_bok (P := l.prog) (w := w) (mg := mg) (base := base) F22 oTak gTak oTxt gTxt oSig gSig oWrd gWrd m_int m_enumerate m_sorted m_tuple
  have oSzs := ok_szs (P := l.prog) (w := w) (mg := mg) (base := base) F25 m_range m_sum m_dict
  have oDwn := ok_dwn (P := l.prog) (w := w) (mg := mg) (base := base) F28 oTak gTak m_len m_range m_dict
  have oSpo := ok_spo (P := l.prog) (w := w) (mg := mg) (base := base) F29 oTak gTak m_len m_tuple m_bool m_str
  have oWhl := ok_whl (P := l.prog) (w := w) (mg := mg) (base := base) F24 m_int m_isinstance m_bool
  have oWkd := ok_wkd (P := l.prog) (w := w) (mg := mg) (base := base) F27 oWhl gWhl m_len m_enumerate m_sum m_list m_tuple m_isinstance m_dict m_min
  have oDue := ok_due (P := l.prog) (w := w) (mg := mg) (base := base) F31 oWkd gWkd
  have oAge := ok_age (P := l.prog) (w := w) (mg := mg) (base := base) F23 oTak gTak
  have oRfl := ok_rfl (P := l.prog) (w := w) (mg := mg) (base := base) F26 mNoBook ckNoBook mNoAge ckNoAge mNoLetter ckNoLetter mNoNumber ckNoNumber mNoPlace ckNoPlace mNoWay ckNoWay mNoGroups ckNoGroups mNoWord ckNoWord mNoTurn ckNoTurn mNoMark ckNoMark mNoText ckNoText mNoRow ckNoRow mTooLong ckTooLong mTooMany ckTooMany mNotKept ckNotKept mTooFar ckTooFar mNoName ckNoName r6_1 r6_2 r6_3 r6_4 r6_5 r6_6 r6_7 r6_8 r6_9 r6_10 r6_11 r6_12 r6_13 r6_14 r6_15 r6_16 r6_17 xkNoWay xv6 m_isinstance m_ValueError
  have oTld := ok_tld (P := l.prog) (w := w) (mg := mg) (base := base) F30 oWhl gWhl oRfl gRfl mGrowError ckGrowError oPloX gPlo r6_0
  have oNag := ok_nag (P := l.prog) (w := w) (mg := mg) (base := base) F4 oWin gWin m_LAST_AGE
  have oNpl := ok_npl (P := l.prog) (w := w) (mg := mg) (base := base) F10 oWin gWin
  have oWbh := ok_wbh (P := l.prog) (w := w) (mg := mg) (base := base) F11 m_zip m_reversed
  have oWay := ok_way (P := l.prog) (w := w) (mg := mg) (base := base) F13 oNag gNag oLns gLns oNpl gNpl oWbh gWbh oWba gWba oTsm gTsm
  exact ok_law F32 oPen gPen oBok gBok oSzs gSzs oTak gTak oDwn gDwn oSpo gSpo oDue gDue oAge gAge oTld gTld oWay gWay m_len m_range m_int m_list m_isinstance
theorem walk {l : PySem.W.OpenLaw} {q : Program} {loose : List Str} {XP : (Str → Option Value) → Heap → Prop} {YP : World → Heap → Prop} {d : DefRec} {K : Params → PySem.W.Frag} (hn : l.most = some 63) (hdf : d.params.defaults = [])
    (hY : ∀ (w : World) (h : Heap), YP w h → (K w.params).In h)
    (F : ∀ (w : World) (mg : Str → Option Value) (fa : Addr) (h : Heap), (K w.params).In h → h.Ns mainGlobals mg → mg d.name = some (.ref fa) →
      ∃ fd : FuncData, (∀ (s : Shared) (u : Value), BindsTo s fd ⟨[u], []⟩ [("_law_script", u)]) ∧ ∀ base : Heap, (K w.params).In base → base.Ns mainGlobals mg → FnOk l.prog w (K w.params) mg base CX0 7 fa fd ["_law_script"] (spLaw (K w.params))) :
    PySem.W.WalkO q loose XP YP l.row.toRowW d [] (fun f vs => PySem.call f vs) :=
  L2.walk_of (n := 63) (k := 7) (x := "_law_script") (CX := fun _ => CX0) (sp := fun w => spLaw (K w.params)) hn (by decide) hdf ⟨rfl, by decide, by decide⟩ hY F (fun _ _ a ns hl _ hS => ⟨a, ns, rfl, hS, hl, fun _ => rfl⟩) fun _ _ _ _ _ z => z
end Lw
open PySem PySem.W PyProof.Rows
-- these names are taken so that no second copy of the great trees is laid (it would make the compiled file too large)
def PySem.W.Fast.tw609336907965319681 : Unit := ()
def PySem.W.Fast.tw2041840413367018192 : Unit := ()
def PySem.W.Fast.tw775399932125628298 : Unit := ()
def PySem.W.Fast.tw11486510947677863712 : Unit := ()
def PySem.W.Fast.tw13409408495814951606 : Unit := ()
def PySem.W.Fast.tw9657670132424910599 : Unit := ()
def PySem.W.Fast.tw15496637156750250846 : Unit := ()
def PySem.W.Fast.tw2908313563411915858 : Unit := ()
def PySem.W.Fast.tw5484771672991330585 : Unit := ()
def PySem.W.Fast.tw11578024268002179954 : Unit := ()
def PySem.W.Fast.tw3340961286689861758 : Unit := ()
def PySem.W.Fast.tw14588611972785222823 : Unit := ()
def PySem.W.Fast.tw2526929730596548992 : Unit := ()
def PySem.W.Fast.tw18144771919879595928 : Unit := ()
def PySem.W.Fast.tw16906046502005841965 : Unit := ()
def PySem.W.Fast.tw9157082569218691280 : Unit := ()
def PySem.W.Fast.tw8587100975254541448 : Unit := ()
def PySem.W.Fast.tw3697252517376396919 : Unit := ()
def PySem.W.Fast.tw17418273171931924263 : Unit := ()
def PySem.W.Fast.tw8350964273122230994 : Unit := ()
def PySem.W.Fast.tw8915587322872867414 : Unit := ()
def PySem.W.Fast.tw14209930852107487117 : Unit := ()
def PySem.W.Fast.tw3125444212106695863 : Unit := ()
def PySem.W.Fast.tw7279067049092526864 : Unit := ()
def PySem.W.Fast.tw12920019078494385 : Unit := ()
def PySem.W.Fast.tw1752699297360322702 : Unit := ()
def PySem.W.Fast.tw12246990757121111676 : Unit := ()
def PySem.W.Fast.tw16483773861898215612 : Unit := ()
def PySem.W.Fast.tw977035598364442279 : Unit := ()
def PySem.W.Fast.tw12181173500388041493 : Unit := ()
def PySem.W.Fast.tw9241950111384450341 : Unit := ()
def PySem.W.Fast.tw4747466603558596978 : Unit := ()
def PySem.W.Fast.tw4740383227149640792 : Unit := ()
def PySem.W.Fast.tw13881377401674483202 : Unit := ()
def PySem.W.Fast.tw1959215522210565373 : Unit := ()
def PySem.W.Fast.tw8286421019014578731 : Unit := ()
def PySem.W.Fast.tw15848773897751897210 : Unit := ()
def PySem.W.Fast.tw12506461911151031771 : Unit := ()
def PySem.W.Fast.tw1056036819895961298 : Unit := ()
def PySem.W.Fast.tw11411418799904696470 : Unit := ()
def PySem.W.Fast.tw6037824157700449920 : Unit := ()
def PySem.W.Fast.tw15259909726559320996 : Unit := ()
def PySem.W.Fast.tw13825390627423093046 : Unit := ()
def PySem.W.Fast.tw12196661450695882348 : Unit := ()
def PySem.W.Fast.tw467743663288324431 : Unit := ()
def PySem.W.Fast.tw9014792188309042789 : Unit := ()
def PySem.W.Fast.tw18390716690945005752 : Unit := ()
def PySem.W.Fast.tw3735318558666074815 : Unit := ()
set_option maxRecDepth 100000 in
set_option maxHeartbeats 0 in
theorem PySem.Challenge.cw_linegrow_k15_places_of_ways_and_back_holds : PySem.Challenge.rw_linegrow_k15_places_of_ways_and_back.Holds := by
  w_on; o_law; k_head; (case hw => w_witness2)
  k_fill
  refine Lw.walk (l := PySem.Challenge.rw_linegrow_k15_places_of_ways_and_back) rfl rfl (fun w h Y => PySem.W.kIn_of Y) ?F
  case F =>
    intro w mg fa h KX G hmg
    refine' Lw.all_mk KX G hmg ?a0 ?l0 ?c0 ?k0 ?a1 ?l1 ?c1 ?k1 ?a2 ?l2 ?c2 ?k2 ?a3 ?l3 ?c3 ?k3 ?a4 ?l4 ?c4 ?k4 ?a5 ?l5 ?c5 ?k5 ?a6 ?l6 ?c6 ?k6 ?a7 ?l7 ?c7 ?k7 ?a8 ?l8 ?c8 ?k8 ?a9 ?l9 ?c9 ?k9 ?a10 ?l10 ?c10 ?k10 ?a11 ?l11 ?c11 ?k11 ?a12 ?l12 ?c12 ?k12 ?a13 ?l13 ?c13 ?k13 ?a14 ?l14 ?c14 ?k14 ?a15 ?l15 ?c15 ?k15 ?a16 ?l16 ?c16 ?k16 ?a17 ?l17 ?c17 ?k17 ?a18 ?l18 ?c18 ?k18 ?a19 ?l19 ?c19 ?k19 ?a20 ?l20 ?c20 ?k20 ?a21 ?l21 ?c21 ?k21 ?a22 ?l22 ?c22 ?k22 ?a23 ?l23 ?c23 ?k23 ?a24 ?l24 ?c24 ?k24 ?a25 ?l25 ?c25 ?k25 ?a26 ?l26 ?c26 ?k26 ?a27 ?l27 ?c27 ?k27 ?a28 ?l28 ?c28 ?k28 ?a29 ?l29 ?c29 ?k29 ?a30 ?l30 ?c30 ?k30 ?a31 ?l31 ?c31 ?k31 ?a32 ?l32 ?c32 ?k32 ?z0 ?z1 ?z2 ?z3 ?z4 ?z5 ?z6 ?z7 ?z8 ?z9 ?z10 ?z11 ?z12 ?z13 ?z14 ?z15 ?y0 ?y1 ?ac0 ?kc0 ?kn0 ?kb0 ?kt0 ?ac1 ?kc1 ?kn1 ?kb1 ?kt1 ?ac2 ?kc2 ?kn2 ?kb2 ?kt2 ?q2 ?xf2 ?xg2 ?xt2 ?xo2 ?xa2 ?xh2 ?xv2 ?r2_0 ?r2_1 ?r2_2 ?r2_3 ?r2_4 ?r2_5 ?r2_6 ?r2_7 ?r2_8 ?r2_9 ?r2_10 ?r2_11 ?r2_12 ?r2_13 ?r2_14 ?r2_15 ?r2_16 ?r2_17 ?ac3 ?kc3 ?kn3 ?kb3 ?kt3 ?ac4 ?kc4 ?kn4 ?kb4 ?kt4 ?ac5 ?kc5 ?kn5 ?kb5 ?kt5 ?q5 ?xf5 ?xg5 ?xt5 ?xo5 ?xa5 ?xh5 ?xv5 ?r5_0 ?r5_1 ?r5_2 ?r5_3 ?r5_4 ?r5_5 ?r5_6 ?r5_7 ?r5_8 ?r5_9 ?r5_10 ?r5_11 ?r5_12 ?r5_13 ?r5_14 ?r5_15 ?r5_16 ?r5_17 ?ac6 ?kc6 ?kn6 ?kb6 ?kt6 ?q6 ?xf6 ?xg6 ?xt6 ?xo6 ?xa6 ?xh6 ?xv6 ?r6_0 ?r6_1 ?r6_2 ?r6_3 ?r6_4 ?r6_5 ?r6_6 ?r6_7 ?r6_8 ?r6_9 ?r6_10 ?r6_11 ?r6_12 ?r6_13 ?r6_14 ?r6_15 ?r6_16 ?r6_17 ?ac7 ?kc7 ?kn7 ?kb7 ?kt7 ?ac8 ?kc8 ?kn8 ?kb8 ?kt8 ?ac9 ?kc9 ?kn9 ?kb9 ?kt9 ?ac10 ?kc10 ?kn10 ?kb10 ?kt10 ?ac11 ?kc11 ?kn11 ?kb11 ?kt11 ?ac12 ?kc12 ?kn12 ?kb12 ?kt12 ?ac13 ?kc13 ?kn13 ?kb13 ?kt13 ?ac14 ?kc14 ?kn14 ?kb14 ?kt14 ?ac15 ?kc15 ?kn15 ?kb15 ?kt15 ?ac16 ?kc16 ?kn16 ?kb16 ?kt16 ?ac17 ?kc17 ?kn17 ?kb17 ?kt17
    (case ac0 => k_is)
    (case ac1 => k_is)
    (case ac2 => k_is)
    (case ac3 => k_is)
    (case ac4 => k_is)
    (case ac5 => k_is)
    (case ac6 => k_is)
    (case ac7 => k_is)
    (case ac8 => k_is)
    (case ac9 => k_is)
    (case ac10 => k_is)
    (case ac11 => k_is)
    (case ac12 => k_is)
    (case ac13 => k_is)
    (case ac14 => k_is)
    (case ac15 => k_is)
    (case ac16 => k_is)
    (case ac17 => k_is)
    (case a0 => k_is)
    (case l0 => k_is)
    (case c0 => k_is)
    (case k0 => k_is)
    (case a1 => k_is)
    (case l1 => k_is)
    (case c1 => k_is)
    (case k1 => k_is)
    (case a2 => k_is)
    (case l2 => k_is)
    (case c2 => k_is)
    (case k2 => k_is)
    (case a3 => k_is)
    (case l3 => k_is)
    (case c3 => k_is)
    (case k3 => k_is)
    (case a4 => k_is)
    (case l4 => k_is)
    (case c4 => k_is)
    (case k4 => k_is)
    (case a5 => k_is)
    (case l5 => k_is)
    (case c5 => k_is)
    (case k5 => k_is)
    (case a6 => k_is)
    (case l6 => k_is)
    (case c6 => k_is)
    (case k6 => k_is)
    (case a7 => k_is)
    (case l7 => k_is)
    (case c7 => k_is)
    (case k7 => k_is)
    (case a8 => k_is)
    (case l8 => k_is)
    (case c8 => k_is)
    (case k8 => k_is)
    (case a9 => k_is)
    (case l9 => k_is)
    (case c9 => k_is)
    (case k9 => k_is)
    (case a10 => k_is)
    (case l10 => k_is)
    (case c10 => k_is)
    (case k10 => k_is)
    (case a11 => k_is)
    (case l11 => k_is)
    (case c11 => k_is)
    (case k11 => k_is)
    (case a12 => k_is)
    (case l12 => k_is)
    (case c12 => k_is)
    (case k12 => k_is)
    (case a13 => k_is)
    (case l13 => k_is)
    (case c13 => k_is)
    (case k13 => k_is)
    (case a14 => k_is)
    (case l14 => k_is)
    (case c14 => k_is)
    (case k14 => k_is)
    (case a15 => k_is)
    (case l15 => k_is)
    (case c15 => k_is)
    (case k15 => k_is)
    (case a16 => k_is)
    (case l16 => k_is)
    (case c16 => k_is)
    (case k16 => k_is)
    (case a17 => k_is)
    (case l17 => k_is)
    (case c17 => k_is)
    (case k17 => k_is)
    (case a18 => k_is)
    (case l18 => k_is)
    (case c18 => k_is)
    (case k18 => k_is)
    (case a19 => k_is)
    (case l19 => k_is)
    (case c19 => k_is)
    (case k19 => k_is)
    (case a20 => k_is)
    (case l20 => k_is)
    (case c20 => k_is)
    (case k20 => k_is)
    (case a21 => k_is)
    (case l21 => k_is)
    (case c21 => k_is)
    (case k21 => k_is)
    (case a22 => k_is)
    (case l22 => k_is)
    (case c22 => k_is)
    (case k22 => k_is)
    (case a23 => k_is)
    (case l23 => k_is)
    (case c23 => k_is)
    (case k23 => k_is)
    (case a24 => k_is)
    (case l24 => k_is)
    (case c24 => k_is)
    (case k24 => k_is)
    (case a25 => k_is)
    (case l25 => k_is)
    (case c25 => k_is)
    (case k25 => k_is)
    (case a26 => k_is)
    (case l26 => k_is)
    (case c26 => k_is)
    (case k26 => k_is)
    (case a27 => k_is)
    (case l27 => k_is)
    (case c27 => k_is)
    (case k27 => k_is)
    (case a28 => k_is)
    (case l28 => k_is)
    (case c28 => k_is)
    (case k28 => k_is)
    (case a29 => k_is)
    (case l29 => k_is)
    (case c29 => k_is)
    (case k29 => k_is)
    (case a30 => k_is)
    (case l30 => k_is)
    (case c30 => k_is)
    (case k30 => k_is)
    (case a31 => k_is)
    (case l31 => k_is)
    (case c31 => k_is)
    (case k31 => k_is)
    (case a32 => k_is)
    (case l32 => k_is)
    (case c32 => k_is)
    (case k32 => k_is)
    (case z0 => k_is)
    (case z1 => k_is)
    (case z2 => k_is)
    (case z3 => k_is)
    (case z4 => k_is)
    (case z5 => k_is)
    (case z6 => k_is)
    (case z7 => k_is)
    (case z8 => k_is)
    (case z9 => k_is)
    (case z10 => k_is)
    (case z11 => k_is)
    (case z12 => k_is)
    (case z13 => k_is)
    (case z14 => k_is)
    (case z15 => k_is)
    (case y0 => k_is)
    (case y1 => k_is)
    (case kc0 => k_is)
    (case kn0 => k_is)
    (case kb0 => k_is)
    (case kt0 => k_is)
    (case kc1 => k_is)
    (case kn1 => k_is)
    (case kb1 => k_is)
    (case kt1 => k_is)
    (case kc2 => k_is)
    (case kn2 => k_is)
    (case kb2 => k_is)
    (case kt2 => k_is)
    (case q2 => k_exc)
    (case xf2 => k_is)
    (case xg2 => k_is)
    (case xt2 => k_is)
    (case xo2 => k_is)
    (case xa2 => k_is)
    (case xh2 => k_is)
    (case xv2 => k_is)
    (case r2_0 => k_is)
    (case r2_1 => k_is)
    (case r2_2 => k_is)
    (case r2_3 => k_is)
    (case r2_4 => k_is)
    (case r2_5 => k_is)
    (case r2_6 => k_is)
    (case r2_7 => k_is)
    (case r2_8 => k_is)
    (case r2_9 => k_is)
    (case r2_10 => k_is)
    (case r2_11 => k_is)
    (case r2_12 => k_is)
    (case r2_13 => k_is)
    (case r2_14 => k_is)
    (case r2_15 => k_is)
    (case r2_16 => k_is)
    (case r2_17 => k_is)
    (case kc3 => k_is)
    (case kn3 => k_is)
    (case kb3 => k_is)
    (case kt3 => k_is)
    (case kc4 => k_is)
    (case kn4 => k_is)
    (case kb4 => k_is)
    (case kt4 => k_is)
    (case kc5 => k_is)
    (case kn5 => k_is)
    (case kb5 => k_is)
    (case kt5 => k_is)
    (case q5 => k_exc)
    (case xf5 => k_is)
    (case xg5 => k_is)
    (case xt5 => k_is)
    (case xo5 => k_is)
    (case xa5 => k_is)
    (case xh5 => k_is)
    (case xv5 => k_is)
    (case r5_0 => k_is)
    (case r5_1 => k_is)
    (case r5_2 => k_is)
    (case r5_3 => k_is)
    (case r5_4 => k_is)
    (case r5_5 => k_is)
    (case r5_6 => k_is)
    (case r5_7 => k_is)
    (case r5_8 => k_is)
    (case r5_9 => k_is)
    (case r5_10 => k_is)
    (case r5_11 => k_is)
    (case r5_12 => k_is)
    (case r5_13 => k_is)
    (case r5_14 => k_is)
    (case r5_15 => k_is)
    (case r5_16 => k_is)
    (case r5_17 => k_is)
    (case kc6 => k_is)
    (case kn6 => k_is)
    (case kb6 => k_is)
    (case kt6 => k_is)
    (case q6 => k_exc)
    (case xf6 => k_is)
    (case xg6 => k_is)
    (case xt6 => k_is)
    (case xo6 => k_is)
    (case xa6 => k_is)
    (case xh6 => k_is)
    (case xv6 => k_is)
    (case r6_0 => k_is)
    (case r6_1 => k_is)
    (case r6_2 => k_is)
    (case r6_3 => k_is)
    (case r6_4 => k_is)
    (case r6_5 => k_is)
    (case r6_6 => k_is)
    (case r6_7 => k_is)
    (case r6_8 => k_is)
    (case r6_9 => k_is)
    (case r6_10 => k_is)
    (case r6_11 => k_is)
    (case r6_12 => k_is)
    (case r6_13 => k_is)
    (case r6_14 => k_is)
    (case r6_15 => k_is)
    (case r6_16 => k_is)
    (case r6_17 => k_is)
    (case kc7 => k_is)
    (case kn7 => k_is)
    (case kb7 => k_is)
    (case kt7 => k_is)
    (case kc8 => k_is)
    (case kn8 => k_is)
    (case kb8 => k_is)
    (case kt8 => k_is)
    (case kc9 => k_is)
    (case kn9 => k_is)
    (case kb9 => k_is)
    (case kt9 => k_is)
    (case kc10 => k_is)
    (case kn10 => k_is)
    (case kb10 => k_is)
    (case kt10 => k_is)
    (case kc11 => k_is)
    (case kn11 => k_is)
    (case kb11 => k_is)
    (case kt11 => k_is)
    (case kc12 => k_is)
    (case kn12 => k_is)
    (case kb12 => k_is)
    (case kt12 => k_is)
    (case kc13 => k_is)
    (case kn13 => k_is)
    (case kb13 => k_is)
    (case kt13 => k_is)
    (case kc14 => k_is)
    (case kn14 => k_is)
    (case kb14 => k_is)
    (case kt14 => k_is)
    (case kc15 => k_is)
    (case kn15 => k_is)
    (case kb15 => k_is)
    (case kt15 => k_is)
    (case kc16 => k_is)
    (case kn16 => k_is)
    (case kb16 => k_is)
    (case kt16 => k_is)
    (case kc17 => k_is)
    (case kn17 => k_is)
    (case kb17 => k_is)
    (case kt17 => k_is)
