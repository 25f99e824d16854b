import PyProof.Rows.All
import Wide.All
import OpenK.AllK
import Wide.FinOn
import Lean
import PyProof.EqAt
import PyProof.EqKinds
import PyProof.NeKinds
import PyProof.TupleCall
import PyProof.SetKind
import PyProof.Rows.SetFrom
import KE.KDictSum
import PyProof.Rows.SortStr
import OpenK.KCls
import PyProof.MeetsDictList
import PyProof.Rows.CallKwBuiltin
import PyProof.MinMaxWalk
import PyProof.DictWalks
import KE.KDictList
import OpenK.KRaise
import OpenK.KOwn
import PyProof.NsDelKeeps
import PyProof.ExcArgs
import PyProof.ConsumeWalk
import PyProof.ZipIter
import PyProof.LayNew
import PyProof.Rows.ZipGen
import PyProof.Rows.FactsT2
import KE.KListMore
import PyProof.ExcBaseAll.ValueError
import PySem.Challenge.RW_maybetables_k15_whole_kinds_told
set_option Elab.async false
set_option linter.all false
set_option maxRecDepth 100000
set_option Elab.async false
/-! THE HAND LAYER, for ints, bools, texts, own classes, LISTS and tuples (index, slices, in, append, pop ..), calls, loops. Paste it whole ahead of your own text; what your proof does not reach may be deleted. -/
namespace L2
open PySem PySem.Spec PyProof.Rows

/-- a key: an int or a str -/
abbrev Key := Sum Int Str
def keyIs : Key → Value → Bool
  | .inl k, v => Value.isInt k v
  | .inr x, v => Value.isStrOf x v
def keyH (w : World) : Key → Int
  | .inl k => hashInt k
  | .inr x => hashStr w x
theorem keyIs_shape : ∀ {k : Key} {v : Value}, keyIs k v = true → (∃ i t, k = Sum.inl i ∧ v = Value.int i t) ∨ (∃ x t, k = Sum.inr x ∧ v = Value.str x t)
  | .inl i, v, h => by
    obtain ⟨t, e⟩ := Value.isInt_shape (k := i) (v := v) h
    exact .inl ⟨i, t, rfl, e⟩
  | .inr x, v, h => by
    obtain ⟨t, e⟩ := Value.isStrOf_shape (x := x) (v := v) h
    exact .inr ⟨x, t, rfl, e⟩
theorem keyIs_int (i : Int) (t : Tok) : keyIs (.inl i) (.int i t) = true := by simp [keyIs, Value.isInt]
theorem keyIs_str (x : Str) (t : Tok) : keyIs (.inr x) (.str x t) = true := by simp [keyIs, Value.isStrOf]
theorem key_ll (a b : Int) : decide ((Sum.inl a : Key) = Sum.inl b) = (a == b) := by
  by_cases e : a = b
  · subst e; simp
  · have h : ¬ (Sum.inl a : Key) = Sum.inl b := fun q => e (Sum.inl.inj q)
    rw [decide_eq_false h]
    exact (beq_eq_false_iff_ne.mpr e).symm
theorem key_rr (a b : Str) : decide ((Sum.inr a : Key) = Sum.inr b) = decide (a = b) := by
  by_cases e : a = b
  · subst e; simp
  · have h : ¬ (Sum.inr a : Key) = Sum.inr b := fun q => e (Sum.inr.inj q)
    rw [decide_eq_false h, decide_eq_false e]
theorem key_lr (a : Int) (b : Str) : decide ((Sum.inl a : Key) = Sum.inr b) = false := decide_eq_false (fun q => nomatch q)
theorem key_rl (a : Str) (b : Int) : decide ((Sum.inr a : Key) = Sum.inl b) = false := decide_eq_false (fun q => nomatch q)

def mixKind (prog : Program) (w : World) : PySem.KeyKind prog w Key where
  is := keyIs
  hash := keyH w
  inj := fun v a b ha hb => by
    rcases keyIs_shape ha with ⟨i, t, rfl, rfl⟩ | ⟨x, t, rfl, rfl⟩
    · rcases keyIs_shape hb with ⟨j, u, rfl, e⟩ | ⟨y, u, rfl, e⟩
      · injection e with e1 _; rw [e1]
      · exact nomatch e
    · rcases keyIs_shape hb with ⟨j, u, rfl, e⟩ | ⟨y, u, rfl, e⟩
      · exact nomatch e
      · injection e with e1 _; rw [e1]
  byValue := fun k v h => by
    rcases keyIs_shape h with ⟨i, t, rfl, rfl⟩ | ⟨x, t, rfl, rfl⟩ <;> rfl
  pyHash := fun hv h => by
    rcases keyIs_shape hv with ⟨i, t, rfl, rfl⟩ | ⟨x, t, rfl, rfl⟩
    · exact wpAny_pyHash_int h
    · exact wpAny_pyHash_str h
  eqBool := fun hu hv h => by
    rcases keyIs_shape hu with ⟨i, t, rfl, rfl⟩ | ⟨x, t, rfl, rfl⟩
    · rcases keyIs_shape hv with ⟨j, u, rfl, rfl⟩ | ⟨y, u, rfl, rfl⟩
      · rw [key_ll] at h; exact wpAny_eqBool_int h
      · rw [key_lr] at h; exact SeqAt.EqAt.int_str i t y u _ _ _ _ h
    · rcases keyIs_shape hv with ⟨j, u, rfl, rfl⟩ | ⟨y, u, rfl, rfl⟩
      · rw [key_rl] at h; exact SeqAt.EqAt.str_int x t j u _ _ _ _ h
      · rw [key_rr] at h; exact wpAny_eqBool_str h
  «strs» := fun k x t v h => by
    rcases keyIs_shape h with ⟨i, u, rfl, e⟩ | ⟨y, u, rfl, e⟩
    · exact nomatch e
    · injection e with e1 _
      subst e1
      cases v <;> rfl

theorem mixKind_is (prog : Program) (w : World) (k : Key) (v : Value) : (mixKind prog w).is k v = keyIs k v := rfl
theorem mixKind_int (prog : Program) (w : World) (i : Int) (t : Tok) : (mixKind prog w).is (.inl i) (.int i t) = true := keyIs_int i t
theorem mixKind_str (prog : Program) (w : World) (x : Str) (t : Tok) : (mixKind prog w).is (.inr x) (.str x t) = true := keyIs_str x t
end L2

namespace L2
open PySem PySem.Spec PyProof.Rows

/-- a value, without the heap -/
inductive V where
  | non | bl (b : Bool) | int (i : Int) | str (x : Str) | byt (b : Array UInt8) | flt (b : UInt64) | ref (a : Addr) | ty (n : String)
  deriving DecidableEq

def RelV : V → Value → Prop
  | .non, u => u = Value.none
  | .bl b, u => u = Value.bool b
  | .int i, u => ∃ t, u = Value.int i t
  | .str x, u => ∃ t, u = Value.str x t
  | .byt b, u => ∃ t, u = Value.bytes b t
  | .flt b, u => ∃ t, u = Value.float b t
  | .ref a, u => u = Value.ref a
  | .ty n, u => u = Value.type n

abbrev Vals : List V → List Value → Prop := Paired RelV
theorem Vals.length {xs : List V} {us : List Value} (r : Vals xs us) : xs.length = us.length := Paired.length r
theorem Vals.get : ∀ {xs : List V} {us : List Value} {i : Nat} {x : V}, Vals xs us → xs[i]? = some x → ∃ u, us[i]? = some u ∧ RelV x u
  | _, _, _, _, .nil, e => by simp at e
  | _, _, 0, _, .cons r _, e => by simp at e; subst e; exact ⟨_, rfl, r⟩
  | _, _, i + 1, x, .cons _ t, e => by
    obtain ⟨u, h1, h2⟩ := Vals.get (i := i) (x := x) t (by simpa using e)
    exact ⟨u, by simpa using h1, h2⟩
theorem Vals.set {x : V} {u : Value} (r : RelV x u) : ∀ {xs : List V} {us : List Value} (i : Nat), Vals xs us → Vals (xs.set i x) (us.set i u)
  | _, _, _, .nil => .nil
  | _, _, 0, .cons _ t => .cons r t
  | _, _, i + 1, .cons q t => .cons q (Vals.set r i t)
theorem Vals.append : ∀ {xs ys : List V} {us ws : List Value}, Vals xs us → Vals ys ws → Vals (xs ++ ys) (us ++ ws)
  | _, _, _, _, .nil, s => s
  | _, _, _, _, .cons r t, s => .cons r (Vals.append t s)
theorem Vals.take : ∀ {xs : List V} {us : List Value} (n : Nat), Vals xs us → Vals (xs.take n) (us.take n)
  | _, _, 0, _ => .nil
  | _, _, _ + 1, .nil => .nil
  | _, _, n + 1, .cons r t => .cons r (Vals.take n t)
theorem Vals.drop : ∀ {xs : List V} {us : List Value} (n : Nat), Vals xs us → Vals (xs.drop n) (us.drop n)
  | _, _, 0, r => r
  | _, _, _ + 1, .nil => .nil
  | _, _, n + 1, .cons _ t => Vals.drop n t
theorem Vals.none_of : ∀ {xs : List V} {us : List Value} {i : Nat}, Vals xs us → xs[i]? = none → us[i]? = none := fun {xs us i} r e => by
  have h1 := r.length
  have h2 : xs.length ≤ i := List.getElem?_eq_none_iff.mp e
  exact List.getElem?_eq_none_iff.mpr (by omega)

def RelO : Option V → Option Value → Prop
  | some v, some u => RelV v u
  | none, none => True
  | _, _ => False
def KV {κ : Type} : List (κ × V) → List (κ × Value) → Prop := Paired fun (p : κ × V) (q : κ × Value) => p.1 = q.1 ∧ RelV p.2 q.2

/-- a key of a dict (00_mix): an int or a text -/
def kV : Key → V
  | .inl i => .int i
  | .inr x => .str x

/-- what stands at a tracked address -/
inductive HO where
  /-- a list -/
  | lst (xs : List V)
  /-- a tuple (never changes) -/
  | tup (xs : List V)
  /-- a dict whose keys are ints and texts; one whose keys are tuples of ints and texts (the empty one is both) -/
  | dK (kvs : List (Key × V)) | dT (kvs : List (List Key × V))
  /-- a set of ints: its members, its size -/
  | set (S : Int → Bool) (n : Nat)
  /-- an instance of the class at C, its dict at dx, its attributes -/
  | ins (C dx : Addr) (fs : List (Str × V))
  /-- the dict of the instance at x -/
  | own (x : Addr)
  /-- the dict of an exception -/
  | xd (fs : List (Str × V))
  /-- a bound method, f of x -/
  | met (f x : Addr)
  /-- a range object lo, lo + 1, .. below hi -/
  | rng (lo hi : Int)
  /-- a thing that is known to the object (the script; a dict while a loop walks it): read, never written while it is so -/
  | frz (o : Obj) (u : HO)
  /-- a code object's table -/
  | tbl (ps : Array Value)
  /-- any other thing, by what is true of its one object (a def of one's own: SetO a S n := HO.ext fun h => ..) -/
  | ext (φ : Heap → Prop)

abbrev Hp := Addr → Option HO
def upd (H : Hp) (a : Addr) (o : HO) : Hp := fun b => if b = a then some o else H b
theorem upd_same {H : Hp} {a : Addr} {o : HO} : upd H a o a = some o := by unfold upd; rw [if_pos rfl]
theorem upd_ne {H : Hp} {a b : Addr} {o : HO} (h : b ≠ a) : upd H a o b = H b := by unfold upd; rw [if_neg h]
theorem upd_upd {H : Hp} {a : Addr} {o u : HO} : upd (upd H a o) a u = upd H a u := by
  funext b; unfold upd; split <;> rfl
/-- two objects of different content stand apart -/
theorem ne_of {H : Hp} {a b : Addr} {o u : HO} (h : H a = some o) (h' : H b = some u) (d : o ≠ u) : a ≠ b := by
  intro e; subst e; rw [h] at h'; exact d (Option.some.inj h')
theorem ne_of_none {H : Hp} {a b : Addr} {o : HO} (h : H a = some o) (h' : H b = none) : a ≠ b := by
  intro e; subst e; rw [h] at h'; cases h'

section
variable (P : Program) (w : World)
def ObjOk (H : Hp) (h : Heap) (a : Addr) : HO → Prop
  | .lst xs => xs.length ≤ sizeLine ∧ ∃ (its : List Value) (n : Nat), Vals xs its ∧ h.get? a = some { cls := .type "list", data := .seq its.toArray n }
  | .tup xs => xs.length ≤ sizeLine ∧ ∃ its : List Value, Vals xs its ∧ IsTup h a its.toArray
  | .dK kvs => kvs.length ≤ sizeLine ∧ (a == sysModules) = false ∧ ∃ vs, KV kvs vs ∧ h.DictOf (mixKind P w) a vs
  | .dT kvs => kvs.length ≤ sizeLine ∧ (a == sysModules) = false ∧ ∃ xs : List (List Key × Addr × Value),
      Paired (fun (p : List Key × V) (q : List Key × Addr × Value) => p.1 = q.1 ∧ H q.2.1 = some (.tup (p.1.map kV)) ∧ RelV p.2 q.2.2) kvs xs ∧
      ∃ o es ep, h.get? a = some o ∧ o.ExactDict ∧ o.data = .dict es ep ∧ es.toList = xs.map (entryOfKey (tupleKind (mixKind P w))) ∧ (xs.map (·.1)).Nodup
  | .set S n => h.SetOf (intKind P w) a S n
  | .ins C dx fs => H dx = some (.own a) ∧ fs.length ≤ 1000 ∧ dx ≠ a ∧ h.get? a = some (PySem.W.instObj C dx) ∧
      ∃ mA, h.Ns1 dx mA ∧ (∀ f, RelO (fs.lookup f) (mA f)) ∧ PySem.Within mA (fs.map (·.1))
  | .own _ => ∃ o, h.get? a = some o
  | .xd fs => ∃ mA, h.Ns1 a mA ∧ ∀ f, RelO (fs.lookup f) (mA f)
  | .rng lo hi => ∃ t u v, h.get? a = some { cls := .type "range", data := .fields #[.int lo t, .int hi u, .int 1 v] }
  | .frz o u => h.get? a = some o ∧ ObjOk H h a u
  | .tbl ps => h.get? a = some { cls := .none, data := .fields ps }
  | .met f x => h.get? a = some (PySem.W.methodObj (.ref f) (.ref x))
  | .ext φ => φ h ∧ (∃ o, h.get? a = some o) ∧ ∀ h1 h2 : Heap, φ h1 → (∀ o, h1.get? a = some o → h2.get? a = some o) → φ h2
/-- the abstract heap is held -/
def HOk (H : Hp) (h : Heap) : Prop := ∀ a o, H a = some o → ObjOk P w H h a o
end

section
variable {P : Program} {w : World} {H H' : Hp} {h h' : Heap} {a : Addr} {o : HO}
theorem ObjOk.lt (x : ObjOk P w H h a o) : a < h.objs.size := by
  cases o with
  | lst xs => obtain ⟨_, _, _, _, e⟩ := x; exact Heap.lt_size e
  | tup xs => obtain ⟨_, _, _, p⟩ := x; exact p.lt
  | dK kvs => obtain ⟨_, _, _, _, o, _, _, e, _⟩ := x; exact Heap.lt_size e
  | dT kvs => obtain ⟨_, _, _, _, o, _, _, e, _⟩ := x; exact Heap.lt_size e
  | set S n => obtain ⟨o, _, _, _, e, _⟩ := x; exact Heap.lt_size e
  | ins C dx fs => obtain ⟨_, _, _, e, _⟩ := x; exact Heap.lt_size e
  | own y => obtain ⟨_, e⟩ := x; exact Heap.lt_size e
  | xd fs => obtain ⟨_, ⟨_, _, _, e, _⟩, _⟩ := x; exact Heap.lt_size e
  | rng lo hi => obtain ⟨_, _, _, e⟩ := x; exact Heap.lt_size e
  | frz ob u => obtain ⟨e, _⟩ := x; exact Heap.lt_size e
  | tbl ps => exact Heap.lt_size (show h.get? a = some _ from x)
  | met f y => exact Heap.lt_size (show h.get? a = some _ from x)
  | ext φ => obtain ⟨_, ⟨_, e⟩, _⟩ := x; exact Heap.lt_size e
theorem Paired.mapP {α β : Type} {F G : α → β → Prop} : ∀ {l₁ : List α} {l₂ : List β}, Paired F l₁ l₂ → (∀ a b, F a b → G a b) → Paired G l₁ l₂
  | _, _, .nil, _ => .nil
  | _, _, .cons r t, f => .cons (f _ _ r) (Paired.mapP t f)
theorem Paired.imp' {α β : Type} {F G : α → β → Prop} (f : ∀ a b, F a b → G a b) {l₁ : List α} {l₂ : List β} (r : Paired F l₁ l₂) : Paired G l₁ l₂ := Paired.mapP r f
/-- what an object's description leans on: its own object, its own dict, the tuples -/
theorem ObjOk.stay (x : ObjOk P w H h a o) (k : ∀ b u, (b = a ∨ H b = some (.own a)) → h.get? b = some u → h'.get? b = some u)
    (ho : ∀ b, H b = some (.own a) → H' b = some (.own a)) (ht : ∀ b xs, H b = some (.tup xs) → H' b = some (.tup xs)) : ObjOk P w H' h' a o := by
  induction o with
  | lst xs => obtain ⟨z, its, n, r, e⟩ := x; exact ⟨z, its, n, r, k _ _ (.inl rfl) e⟩
  | tup xs => obtain ⟨z, its, r, ob, e, c⟩ := x; exact ⟨z, its, r, ob, k _ _ (.inl rfl) e, c⟩
  | dK kvs => obtain ⟨z, y, vs, r, ob, es, ep, e, c⟩ := x; exact ⟨z, y, vs, r, ob, es, ep, k _ _ (.inl rfl) e, c⟩
  | dT kvs =>
    obtain ⟨z, y, xs, r, ob, es, ep, e, c⟩ := x
    exact ⟨z, y, xs, Paired.mapP r fun p q z => ⟨z.1, ht _ _ z.2.1, z.2.2⟩, ob, es, ep, k _ _ (.inl rfl) e, c⟩
  | set S n => obtain ⟨ob, es, ep, t, e, c⟩ := x; exact ⟨ob, es, ep, t, k _ _ (.inl rfl) e, c⟩
  | ins C dx fs =>
    obtain ⟨d, z, ne, e, mA, ⟨od, es, ep, e2, c⟩, r⟩ := x
    exact ⟨ho _ d, z, ne, k _ _ (.inl rfl) e, mA, ⟨od, es, ep, k _ _ (.inr d) e2, c⟩, r⟩
  | own y => obtain ⟨ob, e⟩ := x; exact ⟨ob, k _ _ (.inl rfl) e⟩
  | xd fs => obtain ⟨mA, ⟨od, es, ep, e, c⟩, r⟩ := x; exact ⟨mA, ⟨od, es, ep, k _ _ (.inl rfl) e, c⟩, r⟩
  | rng lo hi => obtain ⟨t, u, v, e⟩ := x; exact ⟨t, u, v, k _ _ (.inl rfl) e⟩
  | frz ob u ih => obtain ⟨e, q⟩ := x; exact ⟨k _ _ (.inl rfl) e, ih q⟩
  | tbl ps =>
    have e : h.get? a = some { cls := .none, data := .fields ps } := x
    show h'.get? a = some { cls := .none, data := .fields ps }
    exact k a _ (.inl rfl) e
  | met f y =>
    have e : h.get? a = some (PySem.W.methodObj (.ref f) (.ref y)) := x
    show h'.get? a = some (PySem.W.methodObj (.ref f) (.ref y))
    exact k a _ (.inl rfl) e
  | ext φ => obtain ⟨p, ⟨o, e⟩, st⟩ := x; exact ⟨st _ _ p fun o q => k _ _ (.inl rfl) q, ⟨o, k _ _ (.inl rfl) e⟩, st⟩
theorem HOk.lt (x : HOk P w H h) (e : H a = some o) : a < h.objs.size := (x a o e).lt
theorem HOk.fresh (x : HOk P w H h) (e : h.objs.size ≤ a) : H a = none := by
  cases q : H a with
  | none => rfl
  | some u => exact absurd (Nat.lt_of_lt_of_le (x.lt q) e) (Nat.lt_irrefl _)
/-- every object of the heap is kept -/
theorem HOk.kept (x : HOk P w H h) (k : ∀ b u, h.get? b = some u → h'.get? b = some u) : HOk P w H h' := fun a o e =>
  (x a o e).stay (fun b u _ q => k b u q) (fun _ q => q) fun _ _ q => q
/-- a new object is laid and tracked -/
theorem HOk.laid (x : HOk P w H h) (k : ∀ b u, h.get? b = some u → h'.get? b = some u) (hp : h.objs.size ≤ a) (new : ObjOk P w (upd H a o) h' a o) : HOk P w (upd H a o) h' := fun b u e => by
  have hn := x.fresh hp
  by_cases hb : b = a
  · subst hb; rw [upd_same] at e; cases e; exact new
  · rw [upd_ne hb] at e
    exact (x b u e).stay (fun c v _ q => k c v q) (fun c q => by rw [upd_ne (ne_of_none q hn)]; exact q) fun c xs q => by rw [upd_ne (ne_of_none q hn)]; exact q
end

/-- what may be read as u: it is u, or a known u -/
def Rd (H : Hp) (a : Addr) (u : HO) : Prop := H a = some u ∨ ∃ o, H a = some (.frz o u)
theorem Rd.of {H : Hp} {a : Addr} {u : HO} (h : H a = some u) : Rd H a u := .inl h
theorem Rd.ok {P : Program} {w : World} {H : Hp} {h : Heap} {a : Addr} {u : HO} (r : Rd H a u) (x : HOk P w H h) : ObjOk P w H h a u := by
  rcases r with r | ⟨o, r⟩
  · exact x a u r
  · obtain ⟨_, q⟩ := x a _ r
    exact q
/-- what may be written -/
def Mut : Option HO → Prop
  | some (.lst _) => True
  | some (.dK _) => True
  | some (.dT _) => True
  | some (.set _ _) => True
  | some (.ins _ _ _) => True
  | some (.ext _) => True
  | _ => False
section
variable {P : Program} {w : World} {H : Hp} {h h' : Heap} {x e : Addr} {o' : HO}
/-- the object at e is changed: x itself, or the dict of the instance x -/
theorem HOk.write (ok : HOk P w H h) (mu : Mut (H x)) (he : e = x ∨ H e = some (.own x)) (k : ∀ b u, b ≠ e → h.get? b = some u → h'.get? b = some u) (heo : ∃ u, h'.get? e = some u)
    (new : ObjOk P w (upd H x o') h' x o') : HOk P w (upd H x o') h' := fun b u q => by
  have nown : ∀ c y, H c = some (.own y) → c ≠ x := fun c y r z => by subst z; rw [r] at mu; exact mu
  have ntup : ∀ c xs, H c = some (.tup xs) → c ≠ x := fun c xs r z => by subst z; rw [r] at mu; exact mu
  by_cases hb : b = x
  · subst hb; rw [upd_same] at q; cases q; exact new
  · rw [upd_ne hb] at q
    by_cases hbe : b = e
    · have q' : H b = some (.own x) := by
        rcases he with z | z
        · exact absurd (hbe.trans z) hb
        · rw [hbe]; exact z
      rw [q] at q'; cases q'
      obtain ⟨v, hv⟩ := heo
      exact ⟨v, by rw [hbe]; exact hv⟩
    · refine (ok b u q).stay (fun c v hc r => k c v ?_ r) (fun c r => by rw [upd_ne (nown c b r)]; exact r) fun c xs r => by rw [upd_ne (ntup c xs r)]; exact r
      rcases hc with rfl | hc
      · exact hbe
      · rintro rfl
        rcases he with z | z
        · exact nown c b hc z
        · rw [hc] at z; cases z; exact hb rfl
end

/-! ### kept unless tracked; of the frames at fs (the callers') the slots may change (an exception that passes writes there); of the records at ex (iterators) nothing is said -/
structure Un (fs ex : List Addr) (H H' : Hp) (h h' : Heap) : Prop where
  keep : ∀ b o, h.get? b = some o → H b = none → b ∉ fs → b ∉ ex → h'.get? b = some o
  slot : ∀ b o, h.get? b = some o → H b = none → b ∈ fs → b ∉ ex → ∃ sl, h'.get? b = some { o with slots := sl }
  free : ∀ b o, h.get? b = some o → H b = none → b ∉ ex → H' b = none
  there : ∀ b o, h.get? b = some o → b ∉ ex → ∃ o', h'.get? b = some o'
  tups : ∀ b xs, H b = some (.tup xs) → H' b = some (.tup xs)
  frzs : ∀ b o u, H b = some (.frz o u) → H' b = some (.frz o u)
  tbls : ∀ b ps, H b = some (.tbl ps) → ∃ more, H' b = some (.tbl (ps ++ more))
section
variable {fs fs' ex ex' : List Addr} {H H1 H2 : Hp} {h h1 h2 h' : Heap} {a x e : Addr} {o : HO}
theorem Un.any (u : Un fs ex H H1 h h1) {b : Addr} {ob : Obj} (q : h.get? b = some ob) (n : H b = none) (hx : b ∉ ex) : ∃ sl, h1.get? b = some { ob with slots := sl } := by
  by_cases hb : b ∈ fs
  · exact u.slot b ob q n hb hx
  · exact ⟨ob.slots, u.keep b ob q n hb hx⟩
theorem Un.trans (a : Un fs ex H H1 h h1) (b : Un fs ex H1 H2 h1 h2) : Un fs ex H H2 h h2 where
  keep := fun c ob q n hc hx => b.keep c ob (a.keep c ob q n hc hx) (a.free c ob q n hx) hc hx
  slot := fun c ob q n hc hx => by
    obtain ⟨sl, e1⟩ := a.slot c ob q n hc hx
    obtain ⟨sl', e2⟩ := b.slot c _ e1 (a.free c ob q n hx) hc hx
    exact ⟨sl', e2⟩
  free := fun c ob q n hx => by
    obtain ⟨o', e1⟩ := a.there c ob q hx
    exact b.free c o' e1 (a.free c ob q n hx) hx
  there := fun c ob q hx => by
    obtain ⟨o', e1⟩ := a.there c ob q hx
    exact b.there c o' e1 hx
  tups := fun c xs q => b.tups c xs (a.tups c xs q)
  frzs := fun c ob xs q => b.frzs c ob xs (a.frzs c ob xs q)
  tbls := fun c ps q => by
    obtain ⟨m1, e1⟩ := a.tbls c ps q
    obtain ⟨m2, e2⟩ := b.tbls c _ e1
    exact ⟨m1 ++ m2, by rw [e2, Array.append_assoc]⟩
theorem Un.kept (k : ∀ b u, h.get? b = some u → h'.get? b = some u) : Un fs ex H H h h' :=
  ⟨fun b ob q _ _ _ => k b ob q, fun b ob q _ _ _ => ⟨ob.slots, k b ob q⟩, fun _ _ _ n _ => n, fun b ob q _ => ⟨ob, k b ob q⟩, fun _ _ q => q, fun _ _ _ q => q, fun _ ps q => ⟨#[], by rw [q]; simp⟩⟩
theorem Un.refl : Un fs ex H H h h := Un.kept fun _ _ q => q
theorem Un.laid (k : ∀ b u, h.get? b = some u → h'.get? b = some u) (hp : h.objs.size ≤ a) (hn : H a = none) : Un fs ex H (upd H a o) h h' where
  keep := fun b u q _ _ _ => k b u q
  slot := fun b u q _ _ _ => ⟨u.slots, k b u q⟩
  free := fun b u q n _ => by rw [upd_ne (Nat.ne_of_lt (Nat.lt_of_lt_of_le (Heap.lt_size q) hp))]; exact n
  there := fun b u q _ => ⟨u, k b u q⟩
  tups := fun b xs q => by rw [upd_ne (ne_of_none q hn)]; exact q
  frzs := fun b u xs q => by rw [upd_ne (ne_of_none q hn)]; exact q
  tbls := fun b ps q => ⟨#[], by rw [upd_ne (ne_of_none q hn), q]; simp⟩
theorem Un.write (mu : Mut (H x)) (he : e = x ∨ H e = some (.own x)) (k : ∀ b u, b ≠ e → h.get? b = some u → h'.get? b = some u) (heo : ∃ u, h'.get? e = some u) : Un fs ex H (upd H x o) h h' := by
  have hx : ∀ b, H b = none → b ≠ x := fun b n z => by subst z; rw [n] at mu; exact mu
  have hb : ∀ b, H b = none → b ≠ e := fun b n z => by
    subst z
    rcases he with r | r
    · exact hx b n r
    · rw [n] at r; cases r
  have hm : ∀ b u, H b = some u → ¬ Mut (some u) → b ≠ x := fun b u q nm z => by subst z; rw [q] at mu; exact nm mu
  refine ⟨fun b u q n _ _ => k b u (hb b n) q, fun b u q n _ _ => ⟨u.slots, k b u (hb b n) q⟩, fun b u q n _ => by rw [upd_ne (hx b n)]; exact n, fun b u q _ => ?_,
    fun b xs q => by rw [upd_ne (hm b _ q fun z => z)]; exact q, fun b u xs q => by rw [upd_ne (hm b _ q fun z => z)]; exact q, fun b ps q => ⟨#[], by rw [upd_ne (hm b _ q fun z => z), q]; simp⟩⟩
  by_cases hbe : b = e
  · subst hbe; exact heo
  · exact ⟨u, k b u hbe q⟩
theorem Un.mono (u : Un fs ex H H1 h h1) (hs : ∀ b ∈ fs, b ∈ fs') (hx : ∀ b ∈ ex, b ∈ ex') : Un fs' ex' H H1 h h1 :=
  ⟨fun b ob q n hb he => u.keep b ob q n (fun z => hb (hs b z)) fun z => he (hx b z), fun _ _ q n _ he => u.any q n fun z => he (hx _ z), fun b ob q n he => u.free b ob q n fun z => he (hx b z), fun b ob q he => u.there b ob q fun z => he (hx b z), u.tups, u.frzs, u.tbls⟩
end

/-! ### the heap without what is tracked -/
def trk (h : Heap) (H : Hp) : List Addr := (List.range h.objs.size).filter fun a => (H a).isSome
def hidT (h : Heap) (H : Hp) : Heap := PySem.W.hideAll h (trk h H)
theorem hidT_size (h : Heap) (H : Hp) : (hidT h H).objs.size = h.objs.size := PySem.W.hideAll_size _ _
theorem hidT_get {h : Heap} {H : Hp} {b : Addr} {o : Obj} (e : h.get? b = some o) (n : H b = none) : (hidT h H).get? b = some o :=
  PySem.W.hideAll_get _ e fun hm => by
    have q : (H b).isSome = true := (List.mem_filter.mp hm).2
    rw [n] at q; simp at q
theorem of_hidT {h : Heap} {H : Hp} {b : Addr} {o : Obj} (e : (hidT h H).get? b = some o) : h.get? b = some o ∧ H b = none := by
  have e' : h.get? b = some o := PySem.W.of_hideAll (trk h H) e
  refine ⟨e', ?_⟩
  cases q : H b with
  | none => rfl
  | some x =>
    have hm : b ∈ trk h H := List.mem_filter.mpr ⟨List.mem_range.mpr (Heap.lt_size e'), by simp [q]⟩
    have z : (hidT h H).get? b = none := PySem.W.hideAll_none (trk h H) hm
    rw [z] at e; cases e

/-! ### OpenK's ledger, filled with every new object but one -/
def allNews (g h : Heap) (L : Addr) : List (Addr × Obj) := (List.range h.objs.size).filterMap fun a => if a = L ∨ (g.get? a).isSome = true then none else (h.get? a).map fun o => (a, o)
theorem mem_allNews {g h : Heap} {L a : Addr} {o : Obj} (h1 : a ≠ L) (h2 : g.get? a = none) (h3 : h.get? a = some o) : (a, o) ∈ allNews g h L :=
  List.mem_filterMap.mpr ⟨a, List.mem_range.mpr (Heap.lt_size h3), by simp [h1, h2, h3]⟩
theorem of_mem_allNews {g h : Heap} {L : Addr} {p : Addr × Obj} (hp : p ∈ allNews g h L) : p.1 ≠ L ∧ g.get? p.1 = none ∧ h.get? p.1 = some p.2 := by
  obtain ⟨b, _, e⟩ := List.mem_filterMap.mp hp
  split at e
  · cases e
  · rename_i hn
    cases q : h.get? b with
    | none => rw [q] at e; simp at e
    | some u =>
      rw [q] at e
      simp only [Option.map_some, Option.some.injEq] at e
      subst e
      refine ⟨fun z => hn (.inl z), ?_, q⟩
      show g.get? b = none
      cases r : g.get? b with
      | none => rfl
      | some v => exact (hn (.inr (by simp [r]))).elim
def rest (g h : Heap) (L d : Addr) : List (Addr × Obj) := (allNews g h L).filter fun p => decide (p.1 ≠ d)
theorem rest_ne {g h : Heap} {L d : Addr} : ∀ p ∈ rest g h L d, p.1 ≠ d := fun p hp => of_decide_eq_true (List.mem_filter.mp hp).2
theorem mem_rest {g h : Heap} {L d a : Addr} {o : Obj} (h1 : a ≠ L) (h2 : g.get? a = none) (h3 : h.get? a = some o) (h4 : a ≠ d) : (a, o) ∈ rest g h L d :=
  List.mem_filter.mpr ⟨mem_allNews h1 h2 h3, decide_eq_true h4⟩
theorem news_all {g h : Heap} {L : Addr} : News g L h (allNews g h L) := fun p hp => let ⟨a, b, c⟩ := of_mem_allNews hp; ⟨c, a, b⟩
theorem news_at {g h : Heap} {L d : Addr} {o : Obj} (h1 : d ≠ L) (h2 : g.get? d = none) (h3 : h.get? d = some o) : News g L h ((d, o) :: rest g h L d) := fun p hp => by
  rcases List.mem_cons.mp hp with rfl | hp
  · exact ⟨h3, h1, h2⟩
  · exact news_all p (List.mem_filter.mp hp).1
/-- behind a rule that changed d alone: all else but the frame is kept -/
theorem kept_of_news {g h h' : Heap} {L d : Addr} {m : Str → Option Value} (k : ∀ b o, g.get? b = some o → h.get? b = some o) (F : Fr g L h' m) (N : News g L h' (rest g h L d)) :
    ∀ b o, b ≠ L → b ≠ d → h.get? b = some o → h'.get? b = some o := fun b o h1 h2 e => by
  cases q : g.get? b with
  | some u =>
    have := k b u q
    rw [e] at this; cases this
    exact F.keep b _ q
  | none => exact (N (b, o) (mem_rest h1 q e h2)).1
end L2

namespace L2
open PySem PySem.Spec PyProof.Rows

/-- the module's facts, over the base: the heap at the law's entry without what is tracked there -/
structure Mod (K : PySem.W.Frag) (mg : Str → Option Value) (base : Heap) : Prop where
  kin : K.In base
  glob : base.Ns mainGlobals mg
  blt : ∃ mb, base.Ns builtinsNs mb ∧ ∀ x : Str, x ≠ "__name__" → mb x = bootBuiltins x
  nolimit : base.NoLimit

/-- the context: a def's body (or a comprehension's block) running. base: fixed through the whole law; s₀, H₀: the entry; outer: the frames whose slots others may change (a def's callers); stack: all frames that run;
   ex: iterators that were made ahead of the entry and are walked here (a comprehension's); fn: the names whose cells were made at the entry (a def: all; a comprehension's block: its own); calm: not within an except suite; pn: pins that every state bears; xe: what is wanted of an exception that leaves the code -/
structure Cx where
  prog : Program
  w : World
  K : PySem.W.Frag
  mg : Str → Option Value
  base : Heap
  A : Around
  N : List Str
  s₀ : Shared
  H₀ : Hp
  env : Env
  outer : List Env
  stack : List Env
  ex : List Addr
  fn : Str → Bool
  calm : Bool
  pn : List (Addr × Obj)
  xe : Value → Shared → Prop
/-- the callers' frames -/
def frs (l : List Env) : List Addr := l.filterMap (·.frame)
abbrev Cx.fs (X : Cx) : List Addr := frs X.outer

def Vis (sc : Scope) (x : Str) : Prop := sc.names.lookup x = some .local ∨ sc.names.lookup x = some .cell ∨ sc.names.lookup x = some .free
def Loc (sc : Scope) (x : Str) : Prop := sc.names.lookup x = some .local ∨ sc.names.lookup x = some .cell
def Look (env : Env) (h : Heap) (m : Str → Option Value) (x : Str) (u : Value) : Prop :=
  (env.kindOf x = some .local ∧ m x = some u) ∨ ((env.kindOf x = some .cell ∨ env.kindOf x = some .free) ∧ ∃ c, env.cells.lookup x = some c ∧ h.IsCell c (some u))

structure Cx.Ok (X : Cx) : Prop where
  mod : Mod X.K X.mg X.base
  kind : X.env.scope.kind = .function
  glob : X.env.globals = mainGlobals
  blt : X.env.builtins = builtinsNs
  above : X.s₀.heap.objs.size ≤ X.env.locals
  inj : ∀ x y c, X.env.cells.lookup x = some c → X.env.cells.lookup y = some c → x = y
  has : ∀ x, (X.env.kindOf x = some .cell ∨ X.env.kindOf x = some .free) → ∃ c, X.env.cells.lookup x = some c
  cab : ∀ x c, X.fn x = true → X.env.cells.lookup x = some c → X.s₀.heap.objs.size ≤ c
  hd : X.calm = true → X.A.handled = none
  frames : X.A.frames = some X.stack
  stk : X.stack = X.outer ∨ (X.stack = X.env :: X.outer ∧ X.env.frame = some X.env.locals)
  exf : ∀ b ∈ X.ex, b ≠ X.env.locals ∧ ∀ x c, X.env.cells.lookup x = some c → c ≠ b
  bs : ∀ b o, X.base.get? b = some o → X.s₀.heap.get? b = some o ∧ X.H₀ b = none
  bsz : X.base.objs.size ≤ X.s₀.heap.objs.size
  noex : ∀ b o, X.base.get? b = some o → b ∉ X.ex
  exfs : ∀ b ∈ X.ex, b ∉ X.fs
  funs : X.s₀.heap.FunFrames X.base X.outer
  frf : ∀ b ∈ X.fs, X.H₀ b = none

structure Inv (X : Cx) (pins : List (Addr × Obj)) (σ : List (Option V)) (H : Hp) (s : Shared) : Prop where
  ok : X.Ok
  os : s.os = X.s₀.os
  bare : AllBare s.gens
  base : Un X.fs X.ex X.H₀ H X.s₀.heap s.heap
  loc : ∃ m, s.heap.Ns X.env.locals m ∧ ∀ (i : Nat) (x : Str) (v : V), X.N[i]? = some x → σ[i]? = some (some v) → Vis X.env.scope x → ∃ u, RelV v u ∧ Look X.env s.heap m x u
  cell : ∀ x c, X.env.cells.lookup x = some c → ∃ v, s.heap.IsCell c v
  free : H X.env.locals = none
  freeC : ∀ x c, X.env.cells.lookup x = some c → H c = none
  pin : ∀ p ∈ X.pn ++ pins, s.heap.get? p.1 = some p.2 ∧ H p.1 = none ∧ p.1 ≠ X.env.locals ∧ p.1 ∉ X.fs ∧ ∀ v, p.2.data ≠ .cell v
  hok : HOk X.prog X.w H s.heap
  len : σ.length = X.N.length

section
variable {X : Cx} {pins : List (Addr × Obj)} {σ : List (Option V)} {H H' : Hp} {s : Shared} {h' : Heap}

theorem Cx.Ok.nofr (ok : X.Ok) {b : Addr} {o : Obj} (e : X.base.get? b = some o) : b ∉ X.fs := fun hb => by
  have := (ok.funs.mem hb).1
  rw [e] at this; cases this
theorem Inv.bs (I : Inv X pins σ H s) : ∀ b o, X.base.get? b = some o → s.heap.get? b = some o ∧ H b = none := fun b o e =>
  ⟨I.base.keep b o (I.ok.bs b o e).1 (I.ok.bs b o e).2 (I.ok.nofr e) (I.ok.noex b o e), I.base.free b o (I.ok.bs b o e).1 (I.ok.bs b o e).2 (I.ok.noex b o e)⟩
theorem Inv.bk (I : Inv X pins σ H s) : ∀ b o, X.base.get? b = some o → s.heap.get? b = some o := fun b o e => (I.bs b o e).1
theorem Inv.mod (I : Inv X pins σ H s) : Mod X.K X.mg X.base := I.ok.mod
theorem Inv.kIn (I : Inv X pins σ H s) : X.K.In s.heap := I.ok.mod.kin.keeps I.bk
theorem Inv.nolimit (I : Inv X pins σ H s) : s.heap.NoLimit := I.ok.mod.nolimit.keeps I.bk
/-- the frame over the base: for OpenK's rules (K.In X.base is I.mod.kin) -/
theorem Inv.fr (I : Inv X pins σ H s) : ∃ m, Fr X.base X.env.locals s.heap m :=
  let ⟨m, hn, _⟩ := I.loc
  ⟨m, hn, I.bk, Nat.le_trans I.ok.bsz I.ok.above⟩
theorem Inv.lt (I : Inv X pins σ H s) : X.env.locals < s.heap.objs.size := let ⟨_, hn, _⟩ := I.loc; hn.lt
theorem Inv.sz (I : Inv X pins σ H s) : X.s₀.heap.objs.size ≤ s.heap.objs.size := Nat.le_trans I.ok.above (Nat.le_of_lt I.lt)
theorem Inv.nofs (I : Inv X pins σ H s) {a : Addr} (h : s.heap.objs.size ≤ a) : a ∉ X.fs := fun hb => by
  obtain ⟨_, o, ho, _⟩ := I.ok.funs.mem hb
  exact absurd (Nat.lt_of_lt_of_le (Heap.lt_size ho) (Nat.le_trans I.sz h)) (Nat.lt_irrefl _)
theorem Inv.cne (I : Inv X pins σ H s) : ∀ x c, X.env.cells.lookup x = some c → c ≠ X.env.locals := fun x c e z => by
  obtain ⟨v, o, ho, hd⟩ := I.cell x c e
  obtain ⟨m, ⟨o', es, ep, ho', hd', _⟩, _⟩ := I.loc
  rw [z, ho'] at ho; cases ho; rw [hd'] at hd; cases hd
theorem Inv.funs (I : Inv X pins σ H s) : s.heap.FunFrames X.base X.outer := by
  have all : ∀ (l : List Env), (∀ b ∈ frs l, b ∈ X.fs) → X.s₀.heap.FunFrames X.base l → s.heap.FunFrames X.base l := by
    intro l
    induction l with
    | nil => intro _ _; trivial
    | cons env r ih =>
      intro hs hl
      obtain ⟨hk, ⟨L, o, hf, hn, ho, hd⟩, hr⟩ := hl
      have hL : L ∈ X.fs := hs L (by unfold frs; rw [List.filterMap_cons, hf]; exact List.mem_cons_self)
      obtain ⟨sl, e⟩ := I.base.slot L o ho (I.ok.frf L hL) hL fun z => I.ok.exfs L z hL
      exact ⟨hk, ⟨L, _, hf, hn, e, hd⟩, ih (fun b hb => hs b (by unfold frs; rw [List.filterMap_cons, hf]; exact List.mem_cons_of_mem _ hb)) hr⟩
  exact all X.outer (fun _ hb => hb) I.ok.funs

/-- the frames that run, for a call -/
theorem Inv.stack (I : Inv X pins σ H s) : s.heap.FunFrames X.base X.stack := by
  rcases I.ok.stk with e | ⟨e, hf⟩
  · rw [e]; exact I.funs
  · rw [e]
    obtain ⟨m, hn, _⟩ := I.loc
    refine .cons (by rw [I.ok.kind]; decide) hf hn ?_ I.funs
    exact Heap.get?_none_of_le (Nat.le_trans I.ok.bsz I.ok.above)
theorem Inv.stkSub (I : Inv X pins σ H s) : ∀ b ∈ frs X.stack, b ∈ X.env.locals :: X.fs := fun b hb => by
  rcases I.ok.stk with e | ⟨e, hf⟩
  · rw [e] at hb; exact List.mem_cons_of_mem _ hb
  · rw [e] at hb
    unfold frs at hb
    rw [List.filterMap_cons, hf] at hb
    exact hb
theorem Inv.stkFree (I : Inv X pins σ H s) : ∀ b ∈ frs X.stack, H b = none := fun b hb => by
  rcases List.mem_cons.mp (I.stkSub b hb) with e | hb
  · rw [e]; exact I.free
  · obtain ⟨_, o, ho, _⟩ := I.ok.funs.mem hb
    exact I.base.free b o ho (I.ok.frf b hb) fun z => I.ok.exfs b z hb

/-- THE STEP: the untracked objects but the frame and the records at ch are kept (the callers' frames up to slots), the frame's map is kept, the new abstract heap is held -/
theorem Inv.step {g' : Array GenState} {t' : Nat} {d' : Drawn} {ch : List Addr} (I : Inv X pins σ H s)
    (hch : ∀ b ∈ ch, (b ∈ X.ex ∨ X.s₀.heap.objs.size ≤ b) ∧ b ≠ X.env.locals ∧ (∀ x c, X.env.cells.lookup x = some c → c ≠ b) ∧ ∀ p ∈ X.pn ++ pins, p.1 ≠ b)
    (keep : ∀ b o, b ≠ X.env.locals → b ∉ X.fs → b ∉ ch → s.heap.get? b = some o → H b = none → h'.get? b = some o)
    (slot : ∀ b o, b ≠ X.env.locals → b ∈ X.fs → b ∉ ch → s.heap.get? b = some o → H b = none → ∃ sl, h'.get? b = some { o with slots := sl }) (free : ∀ b o, b ∉ ch → s.heap.get? b = some o → H b = none → H' b = none)
    (there : ∀ b o, b ∉ ch → s.heap.get? b = some o → ∃ o', h'.get? b = some o')
    (tups : ∀ b xs, H b = some (.tup xs) → H' b = some (.tup xs)) (frzs : ∀ b o u, H b = some (.frz o u) → H' b = some (.frz o u)) (tbls : ∀ b ps, H b = some (.tbl ps) → ∃ more, H' b = some (.tbl (ps ++ more)))
    (ns : ∀ m, s.heap.Ns X.env.locals m → h'.Ns X.env.locals m) (hok : HOk X.prog X.w H' h') (hg : AllBare g') :
    Inv X pins σ H' { s with heap := h', gens := g', drawn := d', toks := t' } := by
  have neL : ∀ b o, X.s₀.heap.get? b = some o → b ≠ X.env.locals := fun b o e => Nat.ne_of_lt (Nat.lt_of_lt_of_le (Heap.lt_size e) I.ok.above)
  have neC : ∀ b o, X.s₀.heap.get? b = some o → b ∉ X.ex → b ∉ ch := fun b o e hx hb => by
    rcases (hch b hb).1 with z | z
    · exact hx z
    · exact absurd (Nat.lt_of_lt_of_le (Heap.lt_size e) z) (Nat.lt_irrefl _)
  have cellK : ∀ x c, X.env.cells.lookup x = some c → ∀ v, s.heap.IsCell c v → h'.IsCell c v := fun x c e v ⟨o, ho, hd⟩ => by
    have nch : c ∉ ch := fun z => (hch c z).2.2.1 x c e rfl
    by_cases hc : c ∈ X.fs
    · obtain ⟨sl, q⟩ := slot c o (I.cne x c e) hc nch ho (I.freeC x c e)
      exact ⟨_, q, hd⟩
    · exact ⟨o, keep c o (I.cne x c e) hc nch ho (I.freeC x c e), hd⟩
  refine ⟨I.ok, I.os, hg, ⟨fun b o e n hb hx => ?_, fun b o e n hb hx => ?_, fun b o e n hx => ?_, fun b o e hx => ?_, fun b xs e => tups b xs (I.base.tups b xs e), fun b o xs e => frzs b o xs (I.base.frzs b o xs e), fun b ps e => ?_⟩, ?_, fun x c e => ?_, ?_, fun x c e => ?_, fun p hp => ?_, hok, I.len⟩
  · exact keep b o (neL b o e) hb (neC b o e hx) (I.base.keep b o e n hb hx) (I.base.free b o e n hx)
  · obtain ⟨sl, e1⟩ := I.base.slot b o e n hb hx
    obtain ⟨sl', e2⟩ := slot b _ (neL b o e) hb (neC b o e hx) e1 (I.base.free b o e n hx)
    exact ⟨sl', e2⟩
  · obtain ⟨o', e1⟩ := I.base.there b o e hx
    exact free b o' (neC b o e hx) e1 (I.base.free b o e n hx)
  · obtain ⟨o', e1⟩ := I.base.there b o e hx
    exact there b o' (neC b o e hx) e1
  · obtain ⟨m1, e1⟩ := I.base.tbls b ps e
    obtain ⟨m2, e2⟩ := tbls b _ e1
    exact ⟨m1 ++ m2, by rw [e2, Array.append_assoc]⟩
  · obtain ⟨m, hn, hl⟩ := I.loc
    refine ⟨m, ns m hn, fun i x v e1 e2 e3 => ?_⟩
    obtain ⟨u, r, l⟩ := hl i x v e1 e2 e3
    refine ⟨u, r, ?_⟩
    rcases l with l | ⟨k, c, e, z⟩
    · exact .inl l
    · exact .inr ⟨k, c, e, cellK x c e _ z⟩
  · obtain ⟨v, z⟩ := I.cell x c e
    exact ⟨v, cellK x c e v z⟩
  · obtain ⟨m, ⟨o, _, _, ho, _⟩, _⟩ := I.loc
    exact free _ o (fun z => (hch _ z).2.1 rfl) ho I.free
  · obtain ⟨v, o, ho, hd⟩ := I.cell x c e
    exact free c o (fun z => (hch c z).2.2.1 x c e rfl) ho (I.freeC x c e)
  · obtain ⟨e, n, ne, nf, d⟩ := I.pin p hp
    have nch : p.1 ∉ ch := fun z => (hch p.1 z).2.2.2 p hp rfl
    exact ⟨keep p.1 p.2 ne nf nch e n, free p.1 p.2 nch e n, ne, nf, d⟩
/-- .. where the frame's own object is kept too -/
theorem Inv.un {t' : Nat} (I : Inv X pins σ H s) (u : Un X.fs [] H H' s.heap h') (hok : HOk X.prog X.w H' h') : Inv X pins σ H' { s with heap := h', toks := t' } := by
  obtain ⟨m, ⟨o, es, ep, ho, r⟩, _⟩ := id I.loc
  obtain ⟨sl, hL⟩ := u.any ho I.free (by simp)
  exact I.step (g' := s.gens) (d' := s.drawn) (ch := []) (fun _ z => nomatch z) (fun b o _ hb _ e n => u.keep b o e n hb (by simp)) (fun b o _ hb _ e n => u.slot b o e n hb (by simp)) (fun b o _ e n => u.free b o e n (by simp)) (fun b o _ e => u.there b o e (by simp)) u.tups u.frzs u.tbls (fun m' hm => by
    obtain ⟨o', es', ep', ho', r'⟩ := hm
    rw [ho] at ho'; cases ho'
    exact ⟨_, es', ep', hL, r'⟩) hok I.bare
/-- behind a call (or a comprehension's block): the slots of this frame may have changed too, the records at ch may have turned -/
theorem Inv.call {g' : Array GenState} {t' : Nat} {d' : Drawn} {ch : List Addr} (I : Inv X pins σ H s) (u : Un (frs X.stack) ch H H' s.heap h') (hok : HOk X.prog X.w H' h') (hg : AllBare g')
    (hch : ∀ b ∈ ch, (b ∈ X.ex ∨ X.s₀.heap.objs.size ≤ b) ∧ b ≠ X.env.locals ∧ (∀ x c, X.env.cells.lookup x = some c → c ≠ b) ∧ ∀ p ∈ X.pn ++ pins, p.1 ≠ b) :
    Inv X pins σ H' { s with heap := h', gens := g', drawn := d', toks := t' } := by
  obtain ⟨m, ⟨o, es, ep, ho, r⟩, _⟩ := id I.loc
  obtain ⟨sl, hL⟩ := u.any ho I.free fun z => (hch _ z).2.1 rfl
  exact I.step (ch := ch) hch (fun b o hL hb hc e n => u.keep b o e n (fun z => (List.mem_cons.mp (I.stkSub b z)).elim hL hb) hc) (fun b o _ _ hc e n => u.any e n hc) (fun b o hc e n => u.free b o e n hc) (fun b o hc e => u.there b o e hc) u.tups u.frzs u.tbls (fun m' hm => by
    obtain ⟨o', es', ep', ho', r'⟩ := hm
    rw [ho] at ho'; cases ho'
    exact ⟨_, es', ep', hL, r'⟩) hok hg
/-- an untracked record of ours (an iterator) has turned -/
theorem Inv.turned {t' : Nat} {it : Addr} (I : Inv X pins σ H s) (k : ∀ b o, b ≠ it → s.heap.get? b = some o → h'.get? b = some o) (hn : H it = none) (hL : it ≠ X.env.locals)
    (h1 : it ∈ X.ex ∨ X.s₀.heap.objs.size ≤ it) (h2 : ∀ x c, X.env.cells.lookup x = some c → c ≠ it) (h3 : ∀ p ∈ X.pn ++ pins, p.1 ≠ it) : Inv X pins σ H { s with heap := h', toks := t' } := by
  have nit : ∀ b u, H b = some u → b ≠ it := fun b u e z => by rw [z, hn] at e; cases e
  refine I.step (g' := s.gens) (d' := s.drawn) (ch := [it]) (fun b hb => ?_) (fun b o _ _ hc e _ => k b o (fun z => hc (by simp [z])) e) (fun b o _ _ hc e _ => ⟨o.slots, k b o (fun z => hc (by simp [z])) e⟩) (fun _ _ _ _ n => n)
    (fun b o hc e => ⟨o, k b o (fun z => hc (by simp [z])) e⟩) (fun _ _ e => e) (fun _ _ _ e => e) (fun b ps e => ⟨#[], by rw [e]; simp⟩) (fun m hm => ?_) (fun b u e => ?_) I.bare
  · have e : b = it := by simpa using hb
    subst e
    exact ⟨h1, hL, h2, h3⟩
  · obtain ⟨o, es, ep, ho, r⟩ := hm
    exact ⟨o, es, ep, k _ o (Ne.symm hL) ho, r⟩
  · refine (I.hok b u e).stay (fun c v hc q => k c v ?_ q) (fun _ q => q) fun _ _ q => q
    rcases hc with z | z
    · rw [z]; exact nit b u e
    · exact nit c _ z
theorem Inv.tok (I : Inv X pins σ H s) (t : Nat) : Inv X pins σ H { s with toks := t } := I.un (h' := s.heap) (t' := t) Un.refl I.hok
/-- all objects kept -/
theorem Inv.kept {t' : Nat} (I : Inv X pins σ H s) (k : ∀ b u, s.heap.get? b = some u → h'.get? b = some u) : Inv X pins σ H { s with heap := h', toks := t' } := I.un (Un.kept k) (I.hok.kept k)
/-- a new object laid and tracked -/
theorem Inv.laid {a : Addr} {o : HO} {t' : Nat} (I : Inv X pins σ H s) (k : ∀ b u, s.heap.get? b = some u → h'.get? b = some u) (hp : s.heap.objs.size ≤ a) (new : ObjOk X.prog X.w (upd H a o) h' a o) :
    Inv X pins σ (upd H a o) { s with heap := h', toks := t' } := I.un (Un.laid k hp (I.hok.fresh hp)) (I.hok.laid k hp new)
/-- an object written -/
theorem Inv.write {x e : Addr} {o : HO} {t' : Nat} (I : Inv X pins σ H s) (mu : Mut (H x)) (he : e = x ∨ H e = some (.own x)) (k : ∀ b u, b ≠ e → s.heap.get? b = some u → h'.get? b = some u) (heo : ∃ u, h'.get? e = some u)
    (new : ObjOk X.prog X.w (upd H x o) h' x o) : Inv X pins σ (upd H x o) { s with heap := h', toks := t' } := I.un (Un.write mu he k heo) (I.hok.write mu he k heo new)
/-- forgetting slots, pins -/
theorem Inv.weak {σ' : List (Option V)} (I : Inv X pins σ H s) (hl : σ'.length = σ.length) (w : ∀ (i : Nat) v, σ'[i]? = some (some v) → σ[i]? = some (some v)) : Inv X pins σ' H s :=
  ⟨I.ok, I.os, I.bare, I.base, let ⟨m, hn, hl'⟩ := I.loc; ⟨m, hn, fun i x v e1 e2 e3 => hl' i x v e1 (w i v e2) e3⟩, I.cell, I.free, I.freeC, I.pin, I.hok, hl.trans I.len⟩
theorem Inv.pins_of {pins' : List (Addr × Obj)} (I : Inv X pins σ H s) (h : ∀ p ∈ pins', s.heap.get? p.1 = some p.2 ∧ H p.1 = none ∧ p.1 ≠ X.env.locals ∧ p.1 ∉ X.fs ∧ ∀ v, p.2.data ≠ .cell v) : Inv X pins' σ H s :=
  ⟨I.ok, I.os, I.bare, I.base, I.loc, I.cell, I.free, I.freeC, fun p hp => (List.mem_append.mp hp).elim (fun z => I.pin p (List.mem_append_left _ z)) (h p), I.hok, I.len⟩

theorem nodup_ix {N : List Str} (hN : N.Nodup) {i j : Nat} {x : Str} (a : N[i]? = some x) (b : N[j]? = some x) : i = j := by
  obtain ⟨h1, e1⟩ := List.getElem?_eq_some_iff.mp a
  obtain ⟨h2, e2⟩ := List.getElem?_eq_some_iff.mp b
  exact (List.getElem_inj hN).mp (e1.trans e2.symm)

/-- a name is stored; what changed -/
theorem store_ok2 {M : Model} {A : Around} {E : Value → Shared → Prop} {i : Nat} {x : Str} {v : V} {u : Value} {Q : Unit → Shared → Prop} (I : Inv X pins σ H s) (hN : X.N.Nodup) (hi : X.N[i]? = some x) (hx : Loc X.env.scope x) (r : RelV v u)
    (h : ∀ s', Inv X pins (σ.set i (some v)) H s' → (∃ a, Heap.SameBut a s.heap s'.heap ∧ (a = X.env.locals ∨ X.env.cells.lookup x = some a)) → Q () s') (hf : X.fn x = true ∨ X.env.scope.names.lookup x = some .local := by first | exact .inl rfl | exact .inr rfl | assumption) : wpAny M A (storeName X.env x u) Q E s := by
  obtain ⟨m, hn, hl⟩ := id I.loc
  have hcls : (X.env.scope.kind == .class || (X.env.scope.kind == .module && X.env.locals != X.env.globals)) = false := by rw [I.ok.kind]; rfl
  have hiσ : i < σ.length := by rw [I.len]; exact (List.getElem?_eq_some_iff.mp hi).1
  have cne := I.cne
  have tracked : ∀ {a : Addr} {h' : Heap}, (∃ o, s.heap.get? a = some o ∧ H a = none) → Heap.SameBut a s.heap h' → HOk X.prog X.w H h' := fun {a h'} ha hs b ob e => by
    obtain ⟨_, _, hfree⟩ := ha
    refine (I.hok b ob e).stay (fun c w' hc q => (hs.2 c ?_).trans q) (fun _ q => q) fun _ _ q => q
    rintro rfl
    rcases hc with rfl | hc
    · rw [hfree] at e; cases e
    · rw [hfree] at hc; cases hc
  rcases hx with hk | hk
  · refine wpAny_storeName_local hk hn (fun h' hn' hs => ?_) hcls
    obtain ⟨oL, _, _, hoL, _⟩ := id hn
    refine h _ ⟨I.ok, I.os, I.bare, ⟨fun b o e n hb hx => ?_, fun b o e n hb hx => ?_, I.base.free, fun b o e hx => ?_, I.base.tups, I.base.frzs, I.base.tbls⟩, ⟨_, hn', fun j y v' e1 e2 e3 => ?_⟩, fun y c e => ?_, I.free, I.freeC, fun p hp => ?_, tracked ⟨oL, hoL, I.free⟩ hs, by simpa using I.len⟩ ⟨_, hs, .inl rfl⟩
    · exact (hs.2 b (Nat.ne_of_lt (Nat.lt_of_lt_of_le (Heap.lt_size e) I.ok.above))).trans (I.base.keep b o e n hb hx)
    · obtain ⟨sl, e1⟩ := I.base.slot b o e n hb hx
      exact ⟨sl, (hs.2 b (Nat.ne_of_lt (Nat.lt_of_lt_of_le (Heap.lt_size e) I.ok.above))).trans e1⟩
    · obtain ⟨o', e1⟩ := I.base.there b o e hx
      exact ⟨o', (hs.2 b (Nat.ne_of_lt (Nat.lt_of_lt_of_le (Heap.lt_size e) I.ok.above))).trans e1⟩
    · by_cases hj : j = i
      · subst hj
        rw [hi] at e1; cases e1
        rw [List.getElem?_set_self hiσ] at e2
        cases e2
        exact ⟨u, r, .inl ⟨hk, by simp⟩⟩
      · rw [List.getElem?_set_ne (Ne.symm hj)] at e2
        obtain ⟨u', r', q⟩ := hl j y v' e1 e2 e3
        refine ⟨u', r', ?_⟩
        rcases q with ⟨k, e⟩ | ⟨k, c, e, z⟩
        · refine .inl ⟨k, ?_⟩
          have : y ≠ x := fun e => hj (nodup_ix hN e1 (e ▸ hi))
          simp [this, e]
        · exact .inr ⟨k, c, e, z.sameBut hs (cne y c e)⟩
    · obtain ⟨w', z⟩ := I.cell y c e
      exact ⟨w', z.sameBut hs (cne y c e)⟩
    · obtain ⟨e, n, ne, nf, d⟩ := I.pin p hp
      exact ⟨(hs.2 p.1 ne).trans e, n, ne, nf, d⟩
  · have hfn : X.fn x = true := by
      rcases hf with z | z
      · exact z
      · rw [z] at hk; cases hk
    obtain ⟨c, hc⟩ := I.ok.has x (.inl hk)
    obtain ⟨w', z⟩ := I.cell x c hc
    refine wpAny_storeName_cell I.ok.kind hk hc z (fun h' hc' hs => ?_)
    obtain ⟨oc, hoc, hocd⟩ := id z
    refine h { s with heap := h' } ⟨I.ok, I.os, I.bare, ⟨fun b o e n hb hx => ?_, fun b o e n hb hx => ?_, I.base.free, fun b o e hx => ?_, I.base.tups, I.base.frzs, I.base.tbls⟩, ⟨m, hn.sameBut hs (Ne.symm (cne x c hc)), fun j y v' e1 e2 e3 => ?_⟩, fun y c' e => ?_, I.free, I.freeC, fun p hp => ?_, tracked ⟨oc, hoc, I.freeC x c hc⟩ hs, by simpa using I.len⟩ ⟨c, hs, .inr hc⟩
    · exact (hs.2 b (Nat.ne_of_lt (Nat.lt_of_lt_of_le (Heap.lt_size e) (I.ok.cab x c hfn hc)))).trans (I.base.keep b o e n hb hx)
    · obtain ⟨sl, e1⟩ := I.base.slot b o e n hb hx
      exact ⟨sl, (hs.2 b (Nat.ne_of_lt (Nat.lt_of_lt_of_le (Heap.lt_size e) (I.ok.cab x c hfn hc)))).trans e1⟩
    · obtain ⟨o', e1⟩ := I.base.there b o e hx
      exact ⟨o', (hs.2 b (Nat.ne_of_lt (Nat.lt_of_lt_of_le (Heap.lt_size e) (I.ok.cab x c hfn hc)))).trans e1⟩
    · by_cases hj : j = i
      · subst hj
        rw [hi] at e1; cases e1
        rw [List.getElem?_set_self hiσ] at e2
        cases e2
        exact ⟨u, r, .inr ⟨.inl hk, c, hc, hc'⟩⟩
      · rw [List.getElem?_set_ne (Ne.symm hj)] at e2
        obtain ⟨u', r', q⟩ := hl j y v' e1 e2 e3
        refine ⟨u', r', ?_⟩
        rcases q with q | ⟨k, c', e, z'⟩
        · exact .inl q
        · refine .inr ⟨k, c', e, z'.sameBut hs ?_⟩
          rintro rfl
          exact hj (nodup_ix hN e1 (I.ok.inj _ _ _ e hc ▸ hi))
    · by_cases hcc : c' = c
      · subst hcc; exact ⟨_, hc'⟩
      · obtain ⟨w2, z2⟩ := I.cell y c' e
        exact ⟨w2, z2.sameBut hs hcc⟩
    · obtain ⟨e, n, ne, nf, d⟩ := I.pin p hp
      refine ⟨(hs.2 p.1 ?_).trans e, n, ne, nf, d⟩
      intro q
      rw [q, hoc] at e
      have q' : oc = p.2 := Option.some.inj e
      exact d w' (by rw [← q']; exact hocd)
theorem store_ok {M : Model} {A : Around} {E : Value → Shared → Prop} {i : Nat} {x : Str} {v : V} {u : Value} {Q : Unit → Shared → Prop} (I : Inv X pins σ H s) (hN : X.N.Nodup) (hi : X.N[i]? = some x) (hx : Loc X.env.scope x) (r : RelV v u)
    (h : ∀ s', Inv X pins (σ.set i (some v)) H s' → Q () s') (hf : X.fn x = true ∨ X.env.scope.names.lookup x = some .local := by first | exact .inl rfl | exact .inr rfl | assumption) : wpAny M A (storeName X.env x u) Q E s :=
  store_ok2 I hN hi hx r (fun s' I' _ => h s' I') hf
/-- behind a call or a block, the state as it is -/
theorem Inv.call' {s' : Shared} {ch : List Addr} (I : Inv X pins σ H s) (ho : s'.os = s.os) (u : Un (frs X.stack) ch H H' s.heap s'.heap) (hok : HOk X.prog X.w H' s'.heap) (hg : AllBare s'.gens)
    (hch : ∀ b ∈ ch, (b ∈ X.ex ∨ X.s₀.heap.objs.size ≤ b) ∧ b ≠ X.env.locals ∧ (∀ x c, X.env.cells.lookup x = some c → c ≠ b) ∧ ∀ p ∈ X.pn ++ pins, p.1 ≠ b) : Inv X pins σ H' s' := by
  obtain ⟨h', g', d', t', o'⟩ := s'
  have e : o' = s.os := ho
  subst e
  exact I.call (g' := g') (t' := t') (d' := d') u hok hg hch
end

/-! ### the judgements -/
/-- an exception: its class, its own dict's address (where it has one), the abstract heap behind it -/
abbrev XK := Value → Option Addr → Hp → Prop
abbrev St := List (Option V)
abbrev VK := V → Hp → Prop
/-- an expression's reading; a test's; an argument list's -/
abbrev TE := St → Hp → VK → Prop
abbrev TT := St → Hp → (Bool → Hp → Prop) → Prop
abbrev TA := St → Hp → (List V → Hp → Prop) → Prop
/-- what is wanted behind a statement -/
structure Ends where
  nx : St → Hp → Prop
  rt : VK
  bk : St → Hp → Prop := fun _ _ => False
  ct : St → Hp → Prop := fun _ _ => False
abbrev TS := Ends → St → Hp → Prop

def EP (X : Cx) (pins : List (Addr × Obj)) (σ : St) (Q : VK) (u : Value) (s' : Shared) : Prop := ∃ v H', Inv X pins σ H' s' ∧ RelV v u ∧ Q v H'
def TP (X : Cx) (pins : List (Addr × Obj)) (σ : St) (Q : Bool → Hp → Prop) (b : Bool) (s' : Shared) : Prop := ∃ H', Inv X pins σ H' s' ∧ Q b H'
def AP (X : Cx) (pins : List (Addr × Obj)) (σ : St) (Q : List V → Hp → Prop) (us : List Value) (s' : Shared) : Prop := ∃ vs H', Inv X pins σ H' s' ∧ Vals vs us ∧ Q vs H'
def SP (X : Cx) (pins : List (Addr × Obj)) (D : Ends) (f : Flow) (s' : Shared) : Prop :=
  match f with
  | .next => ∃ σ' H', Inv X pins σ' H' s' ∧ D.nx σ' H'
  | .brk => ∃ σ' H', Inv X pins σ' H' s' ∧ D.bk σ' H'
  | .cont => ∃ σ' H', Inv X pins σ' H' s' ∧ D.ct σ' H'
  | .ret u => ∃ v σ' H', Inv X pins σ' H' s' ∧ RelV v u ∧ D.rt v H'

def PE (X : Cx) (e : Expr) (t : TE) : Prop :=
  ∀ (pins : List (Addr × Obj)) (s : Shared) (σ : St) (H : Hp) (Q : VK), Inv X pins σ H s → t σ H Q → wpAny (model X.prog X.w) X.A (eval e X.env) (EP X pins σ Q) X.xe s
def PT (X : Cx) (e : Expr) (t : TT) : Prop :=
  ∀ (pins : List (Addr × Obj)) (s : Shared) (σ : St) (H : Hp) (Q : Bool → Hp → Prop), Inv X pins σ H s → t σ H Q → wpAny (model X.prog X.w) X.A (isTrue e X.env (eval e X.env)) (TP X pins σ Q) X.xe s
/-- a test whatever its 'whole' is (and, or) -/
def PW (X : Cx) (e : Expr) (t : TT) : Prop :=
  ∀ (whole : Sem Value) (pins : List (Addr × Obj)) (s : Shared) (σ : St) (H : Hp) (Q : Bool → Hp → Prop), Inv X pins σ H s → t σ H Q → wpAny (model X.prog X.w) X.A (isTrue e X.env whole) (TP X pins σ Q) X.xe s
theorem PW.pt {X : Cx} {e : Expr} {t : TT} (h : PW X e t) : PT X e t := h _
/-- an argument list (no star), from the left -/
def PA (X : Cx) (es : List Expr) (t : TA) : Prop :=
  ∀ (pos : Pos) (pins : List (Addr × Obj)) (s : Shared) (σ : St) (H : Hp) (Q : List V → Hp → Prop), Inv X pins σ H s → t σ H Q → wpAny (model X.prog X.w) X.A (spliced (backTo pos (starEach es X.env))) (AP X pins σ Q) X.xe s
def PS (X : Cx) (st : Stmt) (t : TS) : Prop :=
  ∀ (pins : List (Addr × Obj)) (s : Shared) (σ : St) (H : Hp) (D : Ends), Inv X pins σ H s → t D σ H → wpAny (model X.prog X.w) X.A (exec st X.env) (SP X pins D) X.xe s
def PSs (X : Cx) (st : List Stmt) (t : TS) : Prop :=
  ∀ (pins : List (Addr × Obj)) (s : Shared) (σ : St) (H : Hp) (D : Ends), Inv X pins σ H s → t D σ H → wpAny (model X.prog X.w) X.A (execs st X.env) (SP X pins D) X.xe s
/-- weaken the end -/
theorem thn {α : Type} {t : Sem α} {Q Q' : α → Shared → Prop} {M : Model} {A : Around} {E : Value → Shared → Prop} {s : Shared} (h : wpAny M A t Q E s) (hQ : ∀ a s, Q a s → Q' a s) : wpAny M A t Q' E s := wpAny_mono h hQ fun _ _ x => x
end L2

namespace L2
open PySem PySem.Spec PyProof.Rows
section
variable {X : Cx}

/-- two expressions in a row -/
theorem bin {a b : Expr} {ta tb : TE} (ha : PE X a ta) (hb : PE X b tb) {pins : List (Addr × Obj)} {s : Shared} {σ : St} {H : Hp} {R : V → V → Hp → Prop} (I : Inv X pins σ H s) (h : ta σ H fun x H1 => tb σ H1 fun y H2 => R x y H2)
    {α : Type} {Q : α → Shared → Prop} {f : Value → Value → Sem α}
    (hf : ∀ v u s2 x y H2, Inv X pins σ H2 s2 → RelV x v → RelV y u → R x y H2 → wpAny (model X.prog X.w) X.A (f v u) Q X.xe s2) :
    wpAny (model X.prog X.w) X.A (eval a X.env) (fun v s₁ => wpAny (model X.prog X.w) X.A (eval b X.env) (fun u s₂ => wpAny (model X.prog X.w) X.A (f v u) Q X.xe s₂) X.xe s₁) X.xe s := by
  refine thn (ha pins s σ H _ I h) fun v s1 ⟨x, H1, I1, r1, q1⟩ => ?_
  refine thn (hb pins s1 σ H1 _ I1 q1) fun u s2 ⟨y, H2, I2, r2, q2⟩ => ?_
  exact hf v u s2 x y H2 I2 r1 r2 q2

/-! ### names and constants -/
def tVar (i : Nat) : TE := fun σ H Q => ∃ v, σ[i]? = some (some v) ∧ Q v H
def tC (v : V) : TE := fun _ H Q => Q v H
theorem pe_var {i : Nat} {x : Str} {pos : Pos} (hN : X.N[i]? = some x) (hv : Vis X.env.scope x) (hd : (x == ("__debug__" : Str)) = false := by decide) (hcd : (x == ("__classdict__" : Str)) = false := by decide) : PE X (.Name x pos) (tVar i) := by
  intro pins s σ H Q I h
  obtain ⟨v, e, h⟩ := h
  obtain ⟨m, hn, hl⟩ := I.loc
  obtain ⟨u, r, l⟩ := hl i x v hN e hv
  have fin : EP X pins σ Q u s := ⟨v, H, I, r, h⟩
  rcases l with ⟨hk, hm⟩ | ⟨hk, c, hc, hcell⟩
  · exact wpAny_Name (wpAny_loadName_local I.ok.kind hk hn hm fin) hd
  · rcases hk with hk | hk
    · exact wpAny_Name (wpAny_loadName_cell I.ok.kind hk hc hcell fin) hd
    · exact wpAny_Name (wpAny_loadName_free I.ok.kind hk hc hcell fin hcd) hd
theorem pe_int {i j pos} : PE X (.Constant (.int i) j pos) (tC (.int i)) := fun _ _ _ H _ I h => wpAny_Constant_int ⟨.int i, H, I.tok _, ⟨_, rfl⟩, h⟩
theorem pe_bl {b j pos} : PE X (.Constant (.bool b) j pos) (tC (.bl b)) := fun _ _ _ H _ I h => Constant_bool ⟨.bl b, H, I, rfl, h⟩
theorem pe_non {j pos} : PE X (.Constant .none j pos) (tC .non) := fun _ _ _ H _ I h => Constant_none ⟨.non, H, I, rfl, h⟩
theorem pe_str {x j pos} : PE X (.Constant (.str x) j pos) (tC (.str x)) := fun _ _ _ H _ I h => Calls.Constant_str ⟨.str x, H, I.tok _, ⟨_, rfl⟩, h⟩

/-- a global name of the def -/
def Gl (X : Cx) (x : Str) : Prop := X.env.kindOf x = some .globalImplicit
theorem ld_glob {E : Value → Shared → Prop} {pins : List (Addr × Obj)} {s : Shared} {σ : St} {H : Hp} {x : Str} {u : Value} {pos : Pos} {Q : Value → Shared → Prop} (I : Inv X pins σ H s) (hg : Gl X x) (hm : X.mg x = some u) (h : Q u s)
    (hd : (x == ("__debug__" : Str)) = false := by decide) : wpAny (model X.prog X.w) X.A (eval (.Name x pos) X.env) Q E s :=
  Calls.Name_function_global I.ok.kind hg (Calls.loadGlobal_global (by rw [I.ok.glob]; exact I.mod.glob.keeps I.bk) hm h) hd
theorem ld_blt {E : Value → Shared → Prop} {pins : List (Addr × Obj)} {s : Shared} {σ : St} {H : Hp} {x : Str} {u : Value} {pos : Pos} {Q : Value → Shared → Prop} (I : Inv X pins σ H s) (hg : Gl X x) (hm : X.mg x = none) (hv : bootBuiltins x = some u) (h : Q u s)
    (hn : x ≠ "__name__" := by decide) (hd : (x == ("__debug__" : Str)) = false := by decide) : wpAny (model X.prog X.w) X.A (eval (.Name x pos) X.env) Q E s := by
  obtain ⟨mb, h1, h2⟩ := I.mod.blt
  exact Calls.Name_function_global I.ok.kind hg (Calls.loadGlobal_builtin (by rw [I.ok.glob]; exact I.mod.glob.keeps I.bk) hm (by rw [I.ok.blt]; exact h1.keeps I.bk) ((h2 x hn).trans hv) h) hd
/-- a module's constant, a class, a function, as a value -/
theorem pe_glob {x : Str} {v : V} {u : Value} {pos : Pos} (hg : Gl X x) (hm : X.mg x = some u) (r : RelV v u) (hd : (x == ("__debug__" : Str)) = false := by decide) : PE X (.Name x pos) (tC v) :=
  fun _ _ _ H _ I h => ld_glob I hg hm ⟨v, H, I, r, h⟩ hd
theorem pe_bltn {x : Str} {v : V} {u : Value} {pos : Pos} (hg : Gl X x) (hm : X.mg x = none) (hv : bootBuiltins x = some u) (r : RelV v u) (hn : x ≠ "__name__" := by decide) (hd : (x == ("__debug__" : Str)) = false := by decide) : PE X (.Name x pos) (tC v) :=
  fun _ _ _ H _ I h => ld_blt I hg hm hv ⟨v, H, I, r, h⟩ hn hd

/-! ### arithmetic -/
/-- two ints -/
def t2I (ta tb : TE) (k : Int → Int → Hp → Prop) : St → Hp → Prop := fun σ H => ta σ H fun x H1 => tb σ H1 fun y H2 => ∃ i j, x = .int i ∧ y = .int j ∧ k i j H2
def tAdd (ta tb : TE) : TE := fun σ H Q => t2I ta tb (fun i j H2 => Q (.int (i + j)) H2) σ H
def tSub (ta tb : TE) : TE := fun σ H Q => t2I ta tb (fun i j H2 => Q (.int (i - j)) H2) σ H
/-- the left factor below 2^64 -/
def tMul (ta tb : TE) : TE := fun σ H Q => t2I ta tb (fun i j H2 => (-(2 ^ 64) < i ∧ i < 2 ^ 64) ∧ Q (.int (i * j)) H2) σ H
variable {a b : Expr} {ta tb : TE} {pos : Pos}
theorem pe_add (ha : PE X a ta) (hb : PE X b tb) : PE X (.BinOp a .Add b pos) (tAdd ta tb) := by
  intro pins s σ H Q I h
  refine wpAny_BinOp (bin ha hb I h fun v u s2 x y H2 I2 rx ry q => ?_)
  obtain ⟨i, j, rfl, rfl, q⟩ := q
  obtain ⟨t, rfl⟩ := rx
  obtain ⟨t', rfl⟩ := ry
  exact add_int ⟨.int _, H2, I2.tok _, ⟨_, rfl⟩, q⟩
theorem pe_sub (ha : PE X a ta) (hb : PE X b tb) : PE X (.BinOp a .Sub b pos) (tSub ta tb) := by
  intro pins s σ H Q I h
  refine wpAny_BinOp (bin ha hb I h fun v u s2 x y H2 I2 rx ry q => ?_)
  obtain ⟨i, j, rfl, rfl, q⟩ := q
  obtain ⟨t, rfl⟩ := rx
  obtain ⟨t', rfl⟩ := ry
  exact sub_int ⟨.int _, H2, I2.tok _, ⟨_, rfl⟩, q⟩
theorem pe_mul (ha : PE X a ta) (hb : PE X b tb) : PE X (.BinOp a .Mult b pos) (tMul ta tb) := by
  intro pins s σ H Q I h
  refine wpAny_BinOp (bin ha hb I h fun v u s2 x y H2 I2 rx ry q => ?_)
  obtain ⟨i, j, rfl, rfl, ⟨q1, q2⟩, q⟩ := q
  obtain ⟨t, rfl⟩ := rx
  obtain ⟨t', rfl⟩ := ry
  exact mul_int ⟨.int _, H2, I2.tok _, ⟨_, rfl⟩, q⟩ (.of_left (intBits_le_64 q1 q2))

/-! ### comparisons -/
def PC (X : Cx) (op : CmpOp) (a b : Expr) (t : TE) : Prop :=
  ∀ (pins : List (Addr × Obj)) (s : Shared) (σ : St) (H : Hp) (Q : VK), Inv X pins σ H s → t σ H Q →
    wpAny (model X.prog X.w) X.A (eval a X.env) (fun v s₁ => wpAny (model X.prog X.w) X.A (eval b X.env) (fun u s₂ => wpAny (model X.prog X.w) X.A (compareOp op v u) (EP X pins σ Q) X.xe s₂) X.xe s₁) X.xe s
theorem nobehind (b : Expr) {op : CmpOp} (h : op ≠ .In) (h2 : op ≠ .NotIn) : behindInMarks op b = false := by
  have e1 : (op == CmpOp.In) = false := by cases op <;> first | rfl | exact absurd rfl h
  have e2 : (op == CmpOp.NotIn) = false := by cases op <;> first | rfl | exact absurd rfl h2
  cases b <;> simp [behindInMarks, e1, e2]
def tCmp (p : Int → Int → Bool) (ta tb : TE) : TE := fun σ H Q => t2I ta tb (fun i j H2 => Q (.bl (p i j)) H2) σ H
abbrev tLt : TE → TE → TE := tCmp fun i j => decide (i < j)
abbrev tLe : TE → TE → TE := tCmp fun i j => decide (i ≤ j)
abbrev tGt : TE → TE → TE := tCmp fun i j => decide (j < i)
abbrev tGe : TE → TE → TE := tCmp fun i j => decide (j ≤ i)
abbrev tEqI : TE → TE → TE := tCmp fun i j => decide (i = j)
abbrev tNeI : TE → TE → TE := tCmp fun i j => !decide (i = j)
/-- a comparison of two ints, by its rule -/
theorem pc_int {op : CmpOp} {p : Int → Int → Bool} (ha : PE X a ta) (hb : PE X b tb)
    (rule : ∀ (i j : Int) (t u : Tok) (Q : Value → Shared → Prop) (s : Shared), Q (.bool (p i j)) s → wpAny (model X.prog X.w) X.A (compareOp op (.int i t) (.int j u)) Q X.xe s) : PC X op a b (tCmp p ta tb) := by
  intro pins s σ H Q I h
  refine bin ha hb I h fun v u s2 x y H2 I2 rx ry q => ?_
  obtain ⟨i, j, rfl, rfl, q⟩ := q
  obtain ⟨t, rfl⟩ := rx
  obtain ⟨t', rfl⟩ := ry
  exact rule i j t t' _ s2 ⟨.bl _, H2, I2, rfl, q⟩
theorem pc_lt (ha : PE X a ta) (hb : PE X b tb) : PC X .Lt a b (tLt ta tb) := pc_int ha hb fun _ _ _ _ _ _ h => lt_int h
theorem pc_le (ha : PE X a ta) (hb : PE X b tb) : PC X .LtE a b (tLe ta tb) := pc_int ha hb fun _ _ _ _ _ _ h => le_int h
theorem pc_gt (ha : PE X a ta) (hb : PE X b tb) : PC X .Gt a b (tGt ta tb) := pc_int ha hb fun _ _ _ _ _ _ h => gt_int h
theorem pc_ge (ha : PE X a ta) (hb : PE X b tb) : PC X .GtE a b (tGe ta tb) := pc_int ha hb fun _ _ _ _ _ _ h => ge_int h
theorem pc_eqI (ha : PE X a ta) (hb : PE X b tb) : PC X .Eq a b (tEqI ta tb) := pc_int ha hb fun _ _ _ _ _ _ h => eq_int (by rw [Bool.beq_eq_decide_eq]; exact h)
theorem pc_neI (ha : PE X a ta) (hb : PE X b tb) : PC X .NotEq a b (tNeI ta tb) := pc_int ha hb fun _ _ _ _ _ _ h => ne_int (by rw [bne, Bool.beq_eq_decide_eq]; exact h)
/-- is None -/
def tIsN (ta : TE) : TE := fun σ H Q => ta σ H fun x H1 => Q (.bl (decide (x = .non))) H1
def tNotN (ta : TE) : TE := fun σ H Q => ta σ H fun x H1 => Q (.bl (!decide (x = .non))) H1
theorem RelV.none_iff {x : V} {v : Value} (r : RelV x v) : (v == Value.none) = decide (x = .non) := by
  cases x with
  | non => cases r; rfl
  | bl _ => cases r; rfl
  | int _ => obtain ⟨t, rfl⟩ := r; rfl
  | str _ => obtain ⟨t, rfl⟩ := r; rfl
  | byt _ => obtain ⟨t, rfl⟩ := r; rfl
  | flt _ => obtain ⟨t, rfl⟩ := r; rfl
  | ref _ => cases r; rfl
  | ty _ => cases r; rfl
theorem pc_isN {j pos'} (ha : PE X a ta) : PC X .Is a (.Constant .none j pos') (tIsN ta) := by
  intro pins s σ H Q I h
  refine thn (ha pins s σ H _ I h) fun v s1 ⟨x, H1, I1, r1, q1⟩ => ?_
  exact Constant_none (is_none_gen ⟨.bl _, H1, I1, by rw [r1.none_iff]; rfl, q1⟩)
theorem pc_notN {j pos'} (ha : PE X a ta) : PC X .IsNot a (.Constant .none j pos') (tNotN ta) := by
  intro pins s σ H Q I h
  refine thn (ha pins s σ H _ I h) fun v s1 ⟨x, H1, I1, r1, q1⟩ => ?_
  exact Constant_none (isnot_none_gen ⟨.bl _, H1, I1, by rw [r1.none_iff]; rfl, q1⟩)
/-- a comparison as a value, as a test -/
def tB (t : TE) : TT := fun σ H Q => t σ H fun x H1 => ∃ c, x = .bl c ∧ Q c H1
theorem pe_cmp {op : CmpOp} {t : TE} (h : PC X op a b t) (h1 : behindInMarks op b = false := by first | exact nobehind _ (by decide) (by decide) | rfl) : PE X (.Compare a [op] [b] pos) t := fun pins s σ H Q I hw => wpAny_Compare1 (h pins s σ H Q I hw) h1
theorem pt_cmp {op : CmpOp} {t : TE} (h : PC X op a b t) (h1 : behindInMarks op b = false := by first | exact nobehind _ (by decide) (by decide) | rfl) : PT X (.Compare a [op] [b] pos) (tB t) := by
  intro pins s σ H Q I hw
  refine wpAny_isTrue_Compare1 (thn (h pins s σ H _ I hw) fun v s1 h1 => thn h1 fun u s2 h2 => thn h2 fun c s3 ⟨x, H1, I1, r1, q1⟩ => ?_) h1
  obtain ⟨d, rfl, q⟩ := q1
  cases r1
  exact wpAny_truthy_bool ⟨H1, I1, q⟩
/-- an expression whose value is a bool, as a test -/
theorem pt_val {e : Expr} {t : TE} (h : PE X e t) (he : ∀ whole, isTrue e X.env whole = (do let v ← whole; standAt e.pos; holding [v] (truthy v)) := by intro _; rfl) : PT X e (tB t) := by
  intro pins s σ H Q I hw
  refine isTrue_plain (thn (h pins s σ H _ I hw) fun v s1 ⟨x, H1, I1, r1, q1⟩ => ?_) (he _)
  obtain ⟨d, rfl, q⟩ := q1
  cases r1
  exact wpAny_truthy_bool ⟨H1, I1, q⟩

/-! ### and, or, not -/
variable {tA tB' : TT} {rest : List Expr}
def tAnd (t u : TT) : TT := fun σ H Q => t σ H fun c H1 => if c = true then u σ H1 Q else Q false H1
def tOr (t u : TT) : TT := fun σ H Q => t σ H fun c H1 => if c = true then Q true H1 else u σ H1 Q
def tNot (t : TT) : TT := fun σ H Q => t σ H fun c H1 => Q (!c) H1
theorem pw_and1 (ha : PT X a tA) : PW X (.BoolOp .And [a] pos) tA := by
  intro wh pins s σ H Q I h
  refine isTrue_and (thn (ha pins s σ H Q I h) fun c s1 e => ?_)
  cases c with
  | true => exact isTrue_and_nil e
  | false => exact e
theorem pw_or1 (ha : PT X a tA) : PW X (.BoolOp .Or [a] pos) tA := by
  intro wh pins s σ H Q I h
  refine isTrue_or (thn (ha pins s σ H Q I h) fun c s1 e => ?_)
  cases c with
  | false => exact isTrue_or_nil e
  | true => exact e
theorem pw_and (ha : PT X a tA) (hb : PW X (.BoolOp .And (b :: rest) pos) tB') : PW X (.BoolOp .And (a :: b :: rest) pos) (tAnd tA tB') := by
  intro wh pins s σ H Q I h
  refine isTrue_and (thn (ha pins s σ H _ I h) fun c s1 ⟨H1, I1, q1⟩ => ?_)
  cases c with
  | true => exact hb wh pins s1 σ H1 Q I1 q1
  | false => exact ⟨H1, I1, q1⟩
theorem pw_or (ha : PT X a tA) (hb : PW X (.BoolOp .Or (b :: rest) pos) tB') : PW X (.BoolOp .Or (a :: b :: rest) pos) (tOr tA tB') := by
  intro wh pins s σ H Q I h
  refine isTrue_or (thn (ha pins s σ H _ I h) fun c s1 ⟨H1, I1, q1⟩ => ?_)
  cases c with
  | true => exact ⟨H1, I1, q1⟩
  | false => exact hb wh pins s1 σ H1 Q I1 q1
theorem pt_not (ha : PT X a tA) : PT X (.UnaryOp .Not a pos) (tNot tA) := by
  intro pins s σ H Q I h
  exact isTrue_not (ha pins s σ H (fun c H1 => Q (!c) H1) I h)
/-- .. as values (bools) -/
def tAndV (ta tb : TE) : TE := fun σ H Q => ta σ H fun x H1 => ∃ c, x = .bl c ∧ if c = true then tb σ H1 Q else Q (.bl false) H1
def tOrV (ta tb : TE) : TE := fun σ H Q => ta σ H fun x H1 => ∃ c, x = .bl c ∧ if c = true then Q (.bl true) H1 else tb σ H1 Q
def tNotV (ta : TE) : TE := fun σ H Q => ta σ H fun x H1 => ∃ c, x = .bl c ∧ Q (.bl (!c)) H1
theorem pe_one {op} {t : TE} (h : PE X a t) : PE X (.BoolOp op [a] pos) t := fun pins s σ H Q I hw => BoolOp_one (h pins s σ H Q I hw)
theorem pe_and (ha : PE X a ta) (hb : PE X (.BoolOp .And (b :: rest) pos) tb) : PE X (.BoolOp .And (a :: b :: rest) pos) (tAndV ta tb) := by
  intro pins s σ H Q I h
  refine BoolOp_and (thn (ha pins s σ H _ I h) fun v s1 ⟨x, H1, I1, r1, q1⟩ => ?_)
  obtain ⟨c, rfl, q1⟩ := q1
  cases r1
  refine wpAny_truthy_bool ?_
  cases c with
  | true => exact hb pins s1 σ H1 Q I1 q1
  | false => exact ⟨.bl false, H1, I1, rfl, q1⟩
theorem pe_or (ha : PE X a ta) (hb : PE X (.BoolOp .Or (b :: rest) pos) tb) : PE X (.BoolOp .Or (a :: b :: rest) pos) (tOrV ta tb) := by
  intro pins s σ H Q I h
  refine BoolOp_or (thn (ha pins s σ H _ I h) fun v s1 ⟨x, H1, I1, r1, q1⟩ => ?_)
  obtain ⟨c, rfl, q1⟩ := q1
  cases r1
  refine wpAny_truthy_bool ?_
  cases c with
  | false => exact hb pins s1 σ H1 Q I1 q1
  | true => exact ⟨.bl true, H1, I1, rfl, q1⟩
theorem pe_not (ha : PE X a ta) : PE X (.UnaryOp .Not a pos) (tNotV ta) := by
  intro pins s σ H Q I h
  refine UnaryOp_ (thn (ha pins s σ H _ I h) fun v s1 ⟨x, H1, I1, r1, q1⟩ => ?_)
  obtain ⟨c, rfl, q1⟩ := q1
  cases r1
  exact not_of (wpAny_truthy_bool ⟨.bl (!c), H1, I1, rfl, q1⟩)
/-- a if t else b -/
def tIf (t : TT) (ta tb : TE) : TE := fun σ H Q => t σ H fun c H1 => if c = true then ta σ H1 Q else tb σ H1 Q
theorem pe_ifExp {c : Expr} (hc : PT X c tA) (ha : PE X a ta) (hb : PE X b tb) : PE X (.IfExp c a b pos) (tIf tA ta tb) := by
  intro pins s σ H Q I h
  refine wpAny_IfExp (thn (hc pins s σ H _ I h) fun d s1 ⟨H1, I1, q1⟩ => ?_)
  cases d with
  | true => exact ha pins s1 σ H1 Q I1 q1
  | false => exact hb pins s1 σ H1 Q I1 q1
end
end L2

namespace L2
open PySem PySem.Spec PyProof.Rows

/-! ### a list, a tuple that is read: tracked, frozen, or an object of the module -/
def SqL (K : PySem.W.Frag) (H : Hp) (a : Addr) (xs : List V) : Prop :=
  Rd H a (.lst xs) ∨
    ∃ (o : Obj) (its : Array Value) (n : Nat), K.lookup a = some o ∧ o.cls = .type "list" ∧ o.dict = none ∧ o.data = .seq its n ∧ its.size ≤ sizeLine ∧ Vals xs its.toList
def SqT (K : PySem.W.Frag) (H : Hp) (a : Addr) (xs : List V) : Prop :=
  Rd H a (.tup xs) ∨
    ∃ (o : Obj) (its : Array Value) (n : Nat), K.lookup a = some o ∧ o.cls = .type "tuple" ∧ o.data = .seq its n ∧ its.size ≤ sizeLine ∧ Vals xs its.toList
def absV : Value → Option V
  | .none => some .non
  | .bool b => some (.bl b)
  | .int i _ => some (.int i)
  | .str x _ => some (.str x)
  | .bytes b _ => some (.byt b)
  | .float b _ => some (.flt b)
  | .ref a => some (.ref a)
  | .type n => some (.ty n)
  | _ => none
theorem RelV.abs {x : V} {u : Value} (r : RelV x u) : absV u = some x := by
  cases x with
  | non => cases r; rfl
  | bl _ => cases r; rfl
  | int _ => obtain ⟨t, rfl⟩ := r; rfl
  | str _ => obtain ⟨t, rfl⟩ := r; rfl
  | byt _ => obtain ⟨t, rfl⟩ := r; rfl
  | flt _ => obtain ⟨t, rfl⟩ := r; rfl
  | ref _ => cases r; rfl
  | ty _ => cases r; rfl
theorem RelV.inj {x y : V} {u : Value} (r : RelV x u) (q : RelV y u) : x = y := Option.some.inj (r.abs.symm.trans q.abs)
theorem Vals.inj : ∀ {xs ys : List V} {us : List Value}, Vals xs us → Vals ys us → xs = ys
  | _, _, _, .nil, .nil => rfl
  | _, _, _, .cons r t, .cons r' t' => by rw [r.inj r', Vals.inj t t']
section
variable {X : Cx} {pins : List (Addr × Obj)} {σ : St} {H : Hp} {s : Shared} {a : Addr} {xs ys : List V}
theorem SqL.of {K : PySem.W.Frag} (h : H a = some (.lst xs)) : SqL K H a xs := .inl (.inl h)
theorem SqT.of {K : PySem.W.Frag} (h : H a = some (.tup xs)) : SqT K H a xs := .inl (.inl h)
theorem Inv.list (I : Inv X pins σ H s) (h : SqL X.K H a xs) : ∃ its : List Value, Vals xs its ∧ PlainL s.heap a its.toArray ∧ xs.length ≤ sizeLine := by
  rcases h with h | ⟨o, its, n, hk, hc, hd, hs, hz, r⟩
  · obtain ⟨z, its, n, r, e⟩ := h.ok I.hok
    exact ⟨its, r, ⟨_, n, e, rfl, rfl, rfl⟩, z⟩
  · refine ⟨its.toList, r, ⟨o, n, I.kIn a o hk, hc, hd, by simpa using hs⟩, ?_⟩
    have e := r.length
    simp only [Array.length_toList] at e
    omega
theorem Inv.tuple (I : Inv X pins σ H s) (h : SqT X.K H a xs) : ∃ its : List Value, Vals xs its ∧ IsTup s.heap a its.toArray ∧ xs.length ≤ sizeLine := by
  rcases h with h | ⟨o, its, n, hk, hc, hs, hz, r⟩
  · obtain ⟨z, its, r, p⟩ := h.ok I.hok
    exact ⟨its, r, p, z⟩
  · refine ⟨its.toList, r, ⟨o, I.kIn a o hk, hc, n, by simpa using hs⟩, ?_⟩
    have e := r.length
    simp only [Array.length_toList] at e
    omega
theorem Inv.list_inj (I : Inv X pins σ H s) (h : SqL X.K H a xs) (h' : SqL X.K H a ys) : xs = ys := by
  obtain ⟨its, r, ⟨o, n, e, _, _, d⟩, _⟩ := I.list h
  obtain ⟨its', r', ⟨o', n', e', _, _, d'⟩, _⟩ := I.list h'
  rw [e] at e'; cases e'
  rw [d] at d'
  injection d' with d1 _
  have : its = its' := by simpa using congrArg Array.toList d1
  subst this
  exact r.inj r'
theorem Inv.tuple_inj (I : Inv X pins σ H s) (h : SqT X.K H a xs) (h' : SqT X.K H a ys) : xs = ys := by
  obtain ⟨its, r, ⟨o, e, _, n, d⟩, _⟩ := I.tuple h
  obtain ⟨its', r', ⟨o', e', _, n', d'⟩, _⟩ := I.tuple h'
  rw [e] at e'; cases e'
  rw [d] at d'
  injection d' with d1 _
  have : its = its' := by simpa using congrArg Array.toList d1
  subst this
  exact r.inj r'
end

/-! ### another wish about exceptions -/
abbrev Cx.wish (X : Cx) (E : Value → Shared → Prop) : Cx := { X with xe := E }
/-- no exception leaves -/
abbrev Cx.nox (X : Cx) : Cx := X.wish fun _ _ => False
theorem Cx.Ok.wish {X : Cx} (ok : X.Ok) (E : Value → Shared → Prop) : (X.wish E).Ok :=
  ⟨ok.mod, ok.kind, ok.glob, ok.blt, ok.above, ok.inj, ok.has, ok.cab, ok.hd, ok.frames, ok.stk, ok.exf, ok.bs, ok.bsz, ok.noex, ok.exfs, ok.funs, ok.frf⟩
theorem Cx.Ok.unwish {X : Cx} {E : Value → Shared → Prop} (ok : (X.wish E).Ok) : X.Ok :=
  ⟨ok.mod, ok.kind, ok.glob, ok.blt, ok.above, ok.inj, ok.has, ok.cab, ok.hd, ok.frames, ok.stk, ok.exf, ok.bs, ok.bsz, ok.noex, ok.exfs, ok.funs, ok.frf⟩
section
variable {X : Cx} {pins : List (Addr × Obj)} {σ : St} {H : Hp} {s : Shared} {E : Value → Shared → Prop}
theorem Inv.wish (I : Inv X pins σ H s) (E : Value → Shared → Prop) : Inv (X.wish E) pins σ H s := ⟨I.ok.wish E, I.os, I.bare, I.base, I.loc, I.cell, I.free, I.freeC, I.pin, I.hok, I.len⟩
theorem Inv.unwish (I : Inv (X.wish E) pins σ H s) : Inv X pins σ H s := ⟨I.ok.unwish, I.os, I.bare, I.base, I.loc, I.cell, I.free, I.freeC, I.pin, I.hok, I.len⟩
theorem SP.unwish {D : Ends} {f : Flow} {s' : Shared} (h : SP (X.wish E) pins D f s') : SP X pins D f s' := by
  cases f with
  | next => obtain ⟨σ', H', I, q⟩ := h; exact ⟨σ', H', I.unwish, q⟩
  | brk => obtain ⟨σ', H', I, q⟩ := h; exact ⟨σ', H', I.unwish, q⟩
  | cont => obtain ⟨σ', H', I, q⟩ := h; exact ⟨σ', H', I.unwish, q⟩
  | ret u => obtain ⟨v, σ', H', I, r, q⟩ := h; exact ⟨v, σ', H', I.unwish, r, q⟩
theorem PE.nox {e : Expr} {t : TE} (h : PE X.nox e t) : PE X e t := fun pins s σ H Q I hw =>
  wpAny_mono (h pins s σ H Q (I.wish _) hw) (fun _ _ ⟨v, H', I', r, q⟩ => ⟨v, H', I'.unwish, r, q⟩) fun _ _ z => False.elim z
theorem PT.nox {e : Expr} {t : TT} (h : PT X.nox e t) : PT X e t := fun pins s σ H Q I hw =>
  wpAny_mono (h pins s σ H Q (I.wish _) hw) (fun _ _ ⟨H', I', q⟩ => ⟨H', I'.unwish, q⟩) fun _ _ z => False.elim z
theorem PSs.nox {st : List Stmt} {t : TS} (h : PSs X.nox st t) : PSs X st t := fun pins s σ H D I hw =>
  wpAny_mono (h pins s σ H D (I.wish _) hw) (fun _ _ q => q.unwish) fun _ _ z => False.elim z
end

/-! ### blocks and small statements -/
section
variable {X : Cx} {st : Stmt} {rest : List Stmt} {t u : TS} {e : Expr} {te : TE} {pos : Pos}
def tNext : TS := fun D σ H => D.nx σ H
def tSeq (t u : TS) : TS := fun D σ H => t { D with nx := u D } σ H
theorem pss_nil : PSs X [] tNext := fun _ _ σ H _ I h => wpAny_execs_nil ⟨σ, H, I, h⟩
theorem pss_cons (h1 : PS X st t) (h2 : PSs X rest u) : PSs X (st :: rest) (tSeq t u) := by
  intro pins s σ H D I h
  refine wpAny_execs_cons (thn (h1 pins s σ H { D with nx := u D } I h) fun f s1 q => ?_)
  cases f with
  | next =>
    obtain ⟨σ', H', I', q⟩ := q
    exact h2 pins s1 σ' H' D I' q
  | ret v => exact q
  | brk => exact q
  | cont => exact q
theorem pss_one (h1 : PS X st t) : PSs X [st] t := by
  intro pins s σ H D I h
  refine wpAny_execs_cons (thn (h1 pins s σ H D I h) fun f s1 q => ?_)
  cases f with
  | next => exact wpAny_execs_nil q
  | ret v => exact q
  | brk => exact q
  | cont => exact q
def tBreak : TS := fun D σ H => D.bk σ H
def tCont : TS := fun D σ H => D.ct σ H
theorem ps_pass : PS X (.Pass pos) tNext := fun _ _ σ H _ I h => wpAny_Pass ⟨σ, H, I, h⟩
theorem ps_break : PS X (.Break pos) tBreak := fun _ _ σ H _ I h => wpAny_Break ⟨σ, H, I, h⟩
theorem ps_continue : PS X (.Continue pos) tCont := fun _ _ σ H _ I h => wpAny_Continue ⟨σ, H, I, h⟩
/-- in a def's body nothing is shown -/
theorem Inv.quiet {pins : List (Addr × Obj)} {σ : St} {H : Hp} {s : Shared} (I : Inv X pins σ H s) : interactive X.env = false := by simp [interactive, I.ok.kind]
/-- a docstring -/
theorem ps_doc {x j pos pos'} : PS X (.Expr (.Constant (.str x) j pos) pos') tNext := fun _ s σ H _ I h => wpAny_Expr (Calls.Constant_str (show SP X _ _ .next { s with toks := s.toks + 1 } from ⟨σ, H, I.tok _, h⟩)) I.quiet
/-- an expression whose value is dropped -/
def tDrop (te : TE) : TS := fun D σ H => te σ H fun _ H1 => D.nx σ H1
theorem ps_expr (he : PE X e te) (hs : swapsWith e none pos.line X.env = pure false := by rfl) : PS X (.Expr e pos) (tDrop te) := by
  intro pins s σ H D I h
  exact wpAny_Expr_any (thn (he pins s σ H _ I h) fun v s1 ⟨x, H1, I1, r1, q1⟩ => ⟨σ, H1, I1, q1⟩) I.quiet hs
def tRet (te : TE) : TS := fun D σ H => te σ H D.rt
theorem ps_ret (he : PE X e te) : PS X (.Return (some e) pos) (tRet te) := by
  intro pins s σ H D I h
  exact wpAny_Return_some (thn (he pins s σ H _ I h) fun v s1 ⟨x, H1, I1, r1, q1⟩ => ⟨x, σ, H1, I1, r1, q1⟩)
def tRetN : TS := fun D _ H => D.rt .non H
theorem ps_retN : PS X (.Return none pos) tRetN := fun _ _ σ H _ I h => wpAny_Return_none ⟨.non, σ, H, I, rfl, h⟩
def tIfS (c : TT) (t u : TS) : TS := fun D σ H => c σ H fun b H1 => if b = true then t D σ H1 else u D σ H1
theorem ps_if {c : Expr} {a b : List Stmt} {tc : TT} (hc : PT X c tc) (ha : PSs X a t) (hb : PSs X b u) : PS X (.If c a b pos) (tIfS tc t u) := by
  intro pins s σ H D I h
  refine wpAny_If (thn (hc pins s σ H _ I h) fun d s1 ⟨H1, I1, q1⟩ => ?_)
  cases d with
  | true => exact ha pins s1 σ H1 D I1 q1
  | false => exact hb pins s1 σ H1 D I1 q1
/-- code that the proof never comes to -/
def tNever : TS := fun _ _ _ => False
theorem ps_never : PS X st tNever := fun _ _ _ _ _ _ h => h.elim
theorem pss_never {sts : List Stmt} : PSs X sts tNever := fun _ _ _ _ _ _ h => h.elim
end

/-! ### targets -/
abbrev TG := V → St → Hp → (St → Hp → Prop) → Prop
abbrev TGs := List V → St → Hp → (St → Hp → Prop) → Prop
def PG (X : Cx) (target : Expr) (t : TG) : Prop :=
  ∀ (pins : List (Addr × Obj)) (s : Shared) (σ : St) (H : Hp) (v : V) (u : Value) (Q : St → Hp → Prop), Inv X pins σ H s → RelV v u → t v σ H Q →
    wpAny (model X.prog X.w) X.A (assign target X.env u) (fun _ s' => ∃ σ' H', Inv X pins σ' H' s' ∧ Q σ' H') X.xe s
/-- several targets, one after another -/
def PGs (X : Cx) (ts : List Expr) (t : TGs) : Prop :=
  ∀ (pins : List (Addr × Obj)) (s : Shared) (σ : St) (H : Hp) (vs : List V) (us : List Value) (Q : St → Hp → Prop), Inv X pins σ H s → Vals vs us → t vs σ H Q →
    wpAny (model X.prog X.w) X.A (assignInOrder ((assignEach ts X.env).map (·.2)) us) (fun _ s' => ∃ σ' H', Inv X pins σ' H' s' ∧ Q σ' H') X.xe s
/-- o[i] = v, by values -/
abbrev TSet := V → V → V → Hp → (Hp → Prop) → Prop
def PSet (X : Cx) (t : TSet) : Prop :=
  ∀ (pins : List (Addr × Obj)) (s : Shared) (σ : St) (H : Hp) (o i v : V) (ov iv u : Value) (Q : Hp → Prop), Inv X pins σ H s → RelV o ov → RelV i iv → RelV v u → t o i v H Q →
    wpAny (model X.prog X.w) X.A (setItem ov iv u) (fun _ s' => ∃ H', Inv X pins σ H' s' ∧ Q H') X.xe s
/-- a op= b, by values -/
abbrev TIp := V → V → Hp → VK → Prop
def PIp (X : Cx) (op : Operator) (t : TIp) : Prop :=
  ∀ (pins : List (Addr × Obj)) (s : Shared) (σ : St) (H : Hp) (x y : V) (v u : Value) (Q : VK), Inv X pins σ H s → RelV x v → RelV y u → t x y H Q →
    wpAny (model X.prog X.w) X.A (inplaceOp op v u) (EP X pins σ Q) X.xe s
section
variable {X : Cx} {pos : Pos}
def gName (i : Nat) : TG := fun v σ H Q => Q (σ.set i (some v)) H
theorem pg_name {i : Nat} {x : Str} (hN : X.N.Nodup) (hi : X.N[i]? = some x) (hx : Loc X.env.scope x) (hf : X.fn x = true ∨ X.env.scope.names.lookup x = some .local := by first | exact .inl rfl | exact .inr rfl | assumption) : PG X (.Name x pos) (gName i) := by
  intro pins s σ H v u Q I r h
  exact wpAny_assign_Name (store_ok I hN hi hx r (fun s' I' => ⟨_, H, I', h⟩) hf)
def gNil : TGs := fun vs σ H Q => vs = [] ∧ Q σ H
def gCons (t : TG) (u : TGs) : TGs := fun vs σ H Q => ∃ v r, vs = v :: r ∧ t v σ H fun σ' H' => u r σ' H' Q
theorem pgs_nil : PGs X [] gNil := by
  intro pins s σ H vs us Q I r h
  obtain ⟨e, h⟩ := h
  subst e
  cases r
  exact assignInOrder_nil ⟨σ, H, I, h⟩
theorem pgs_cons {e : Expr} {es : List Expr} {t : TG} {u : TGs} (h1 : PG X e t) (h2 : PGs X es u)
    (hs : (assignEach (e :: es) X.env).map (·.2) = assign e X.env :: (assignEach es X.env).map (·.2) := by rfl) : PGs X (e :: es) (gCons t u) := by
  intro pins s σ H vs us Q I r h
  obtain ⟨v, vr, e1, h⟩ := h
  subst e1
  cases r with
  | cons r rr =>
    rw [hs]
    refine assignInOrder_cons (thn (h1 pins s σ H _ _ _ I r h) fun _ s1 ⟨σ1, H1, I1, q1⟩ => ?_)
    exact h2 pins s1 σ1 H1 _ _ Q I1 rr q1
/-- (a, b, ..) = a tuple of that length -/
def gTup (K : PySem.W.Frag) (n : Nat) (t : TGs) : TG := fun v σ H Q => ∃ a xs, v = .ref a ∧ SqT K H a xs ∧ xs.length = n ∧ t xs σ H Q
theorem pg_tup {es : List Expr} {k : Nat} {t : TGs} {n : Nat} (hc : X.calm = true) (h : PGs X es t)
    (hn : (assignEach es X.env).length = n := by rfl) (hst : (assignEach es X.env).findIdx? (·.1) = none := by rfl) : PG X (.Tuple es k pos) (gTup X.K n t) := by
  intro pins s σ H v u Q I r hw
  obtain ⟨a, xs, e1, hq, hl, hw⟩ := hw
  subst e1
  cases r
  obtain ⟨its, rv, ht, hz⟩ := I.tuple hq
  refine assign_Tuple_tuple (I.ok.hd hc) ht (by simp [hn, ← hl, rv.length]) hst fun h' hx => ?_
  have I1 : Inv X pins σ H { s with heap := h' } := I.kept (t' := s.toks) fun b o e => hx b o (Nat.ne_of_lt (Heap.lt_size e)) e
  exact h pins _ σ H xs _ Q I1 (by simpa using rv) hw
/-- o[i] = .. -/
def gSub (to ti : TE) (t : TSet) : TG := fun v σ H Q => to σ H fun o H1 => ti σ H1 fun i H2 => t o i v H2 fun H3 => Q σ H3
theorem pg_sub {o i : Expr} {to ti : TE} {t : TSet} (ho : PE X o to) (hi : PE X i ti) (hs : PSet X t)
    (ha : ∀ v, assign (.Subscript o i pos) X.env v = (do
      let ov ← holding [v] (eval o X.env)
      let iv ← holding [v, ov] (eval i X.env)
      standAt pos
      holding [v, ov, iv] (setItem ov iv v)
      release [v, ov, iv] []) := by intro _; rfl) : PG X (.Subscript o i pos) (gSub to ti t) := by
  intro pins s σ H v u Q I r h
  rw [ha]
  refine wpAny_bind (wpAny_holding (thn (ho pins s σ H _ I h) fun ov s1 ⟨x, H1, I1, r1, q1⟩ => ?_))
  refine wpAny_bind (wpAny_holding (thn (hi pins s1 σ H1 _ I1 q1) fun iv s2 ⟨y, H2, I2, r2, q2⟩ => ?_))
  refine wpAny_bind (wpAny_standAt (wpAny_bind (wpAny_holding (thn (hs pins s2 σ H2 x y v ov iv u _ I2 r1 r2 r q2) fun _ s3 ⟨H3, I3, q3⟩ => ?_))))
  exact wpAny_release ⟨σ, H3, I3, q3⟩
/-- target = value -/
def tAsg (te : TE) (g : TG) : TS := fun D σ H => te σ H fun x H1 => g x σ H1 D.nx
theorem ps_asg {tg e : Expr} {te : TE} {g : TG} (he : PE X e te) (hg : PG X tg g) (hs : swapsWithSole [tg] e pos.line X.env = pure false := by rfl) (hw : swappedStores [tg] e X.env = pure none := by rfl)
    (h1 : (assignEach [tg] X.env).map (·.2) = [assign tg X.env] := by rfl) : PS X (.Assign [tg] e pos) (tAsg te g) := by
  intro pins s σ H D I h
  refine wpAny_Assign_stores (thn (he pins s σ H _ I h) fun v s1 ⟨x, H1, I1, r1, q1⟩ => ?_) hs hw
  rw [h1]
  exact thn (hg pins s1 σ H1 x v _ I1 r1 q1) fun _ s2 q => q
/-- name = value -/
theorem ps_set {i : Nat} {x : Str} {e : Expr} {te : TE} {pos' : Pos} (hN : X.N.Nodup) (hi : X.N[i]? = some x) (hx : Loc X.env.scope x) (he : PE X e te) (hs : swapsWith e (some (.Name x pos')) pos.line X.env = pure false := by rfl) (hf : X.fn x = true ∨ X.env.scope.names.lookup x = some .local := by first | exact .inl rfl | exact .inr rfl | assumption) :
    PS X (.Assign [.Name x pos'] e pos) (tAsg te (gName i)) := by
  intro pins s σ H D I h
  refine wpAny_Assign_Name (thn (he pins s σ H _ I h) fun v s1 ⟨y, H1, I1, r1, q1⟩ => ?_) hs
  exact store_ok I1 hN hi hx r1 (fun s2 I2 => ⟨_, H1, I2, q1⟩) hf
/-- a, b = x, y with plain local names: stored from the right; the pair itself is not tracked (the opening rows as in PyProof/Rows/TupAssign.lean:23) -/
def tPar (i j : Nat) (ta : TA) : TS := fun D σ H => ta σ H fun vs H1 => ∃ v w, vs = [v, w] ∧ D.nx ((σ.set i (some v)).set j (some w)) H1
theorem ps_par {i j : Nat} {x y : Str} {a b : Expr} {ta : TA} {px py pt : Pos} {kt k2 pt2} (hc : X.calm = true) (hN : X.N.Nodup) (hi : X.N[i]? = some x) (hj : X.N[j]? = some y) (hij : i ≠ j)
    (hx : X.env.scope.names.lookup x = some .local) (hy : X.env.scope.names.lookup y = some .local) (ha : PA X [a, b] ta)
    (hw : swappedStores [.Tuple [.Name x px, .Name y py] kt pt] (.Tuple [a, b] k2 pt2) X.env = pure (some [x, y]))
    (hs : swapsWithSole [.Tuple [.Name x px, .Name y py] kt pt] (.Tuple [a, b] k2 pt2) pos.line X.env = pure false := by rfl) :
    PS X (.Assign [.Tuple [.Name x px, .Name y py] kt pt] (.Tuple [a, b] k2 pt2) pos) (tPar i j ta) := by
  intro pins s σ H D I h
  rw [exec_Assign_arm]
  refine wpAny_bind (wpAny_standAt ?_)
  rw [hs]
  refine wpAny_bind (wpAny_pure ?_)
  rw [if_neg (by decide)]
  refine wpAny_bind (Tuple_ (thn (ha _ pins s σ H _ I h) fun us s1 ⟨vs, H1, I1, r1, q1⟩ => ?_))
  obtain ⟨v, w, e1, q1⟩ := q1
  subst e1
  obtain ⟨u1, u2, rfl, rv, rw'⟩ : ∃ u1 u2, us = [u1, u2] ∧ RelV v u1 ∧ RelV w u2 := by
    cases r1 with
    | cons p q =>
      cases q with
      | cons p' q' =>
        cases q'
        exact ⟨_, _, rfl, p, p'⟩
  refine wpAny_newObj_type ?_ (by show 2 ≤ sizeLine; decide)
  have I2 : Inv X pins σ H1 { s1 with heap := s1.heap.push { cls := .type "tuple", data := .seq [u1, u2].toArray } } := I1.kept (t' := s1.toks) fun b o e => Heap.get?_push_of_some _ e
  rw [hw]
  refine wpAny_bind (wpAny_pure ?_)
  show wpAny (model X.prog X.w) X.A (do rule "assign.swapped-stores"; let items ← unpackItems (.ref s1.heap.objs.size) 2 none; assignInOrder [fun v => bindName X.env y v, fun v => bindName X.env x v] items.reverse; pure Flow.next) _ _ _
  refine wpAny_bind (wpAny_rule (wpAny_bind (unpackItems_tuple (items := #[u1, u2]) (I.ok.hd hc) (IsTup.new s1.heap _) fun h' hx' => ?_)))
  have I3 := I2.kept (h' := h') (t' := s1.toks) fun b o e => hx' b o (Nat.ne_of_lt (Heap.lt_size e)) e
  show wpAny _ _ (assignInOrder [fun v => bindName X.env y v, fun v => bindName X.env x v] [u2, u1] >>= fun _ => pure Flow.next) _ _ _
  refine wpAny_bind (assignInOrder_cons (wpAny_bindName (store_ok I3 hN hj (.inl hy) rw' (fun s2 I4 => ?_) (.inr hy))))
  refine assignInOrder_cons (wpAny_bindName (store_ok I4 hN hi (.inl hx) rv (fun s3 I5 => assignInOrder_nil (wpAny_pure ?_)) (.inr hx)))
  rw [List.set_comm _ _ (Ne.symm hij)] at I5
  exact ⟨_, H1, I5, q1⟩
/-- name op= e -/
def tAug (i : Nat) (te : TE) (ti : TIp) : TS := fun D σ H => ∃ x, σ[i]? = some (some x) ∧ te σ H fun y H1 => ti x y H1 fun z H2 => D.nx (σ.set i (some z)) H2
theorem ps_aug {i : Nat} {x : Str} {e : Expr} {te : TE} {op : Operator} {ti : TIp} {pos' : Pos} (hN : X.N.Nodup) (hi : X.N[i]? = some x) (hx : Loc X.env.scope x) (he : PE X e te) (ho : PIp X op ti) (hf : X.fn x = true ∨ X.env.scope.names.lookup x = some .local := by first | exact .inl rfl | exact .inr rfl | assumption) :
    PS X (.AugAssign (.Name x pos') op e pos) (tAug i te ti) := by
  intro pins s σ H D I h
  obtain ⟨v, e1, h⟩ := h
  obtain ⟨m, hn, hl⟩ := I.loc
  have vis : Vis X.env.scope x := by rcases hx with k | k; exact .inl k; exact .inr (.inl k)
  obtain ⟨u, r, l⟩ := hl i x v hi e1 vis
  refine wpAny_AugAssign_Name ?_
  have go : wpAny (model X.prog X.w) X.A (eval e X.env) (fun w s₂ => wpAny (model X.prog X.w) X.A (inplaceOp op u w) (fun r s₃ => wpAny (model X.prog X.w) X.A (storeName X.env x r) (fun _ => SP X pins D .next) X.xe s₃) X.xe s₂) X.xe s := by
    refine thn (he pins s σ H _ I h) fun w s1 ⟨y, H1, I1, r1, q1⟩ => ?_
    refine thn (ho pins s1 σ H1 v y u w _ I1 r r1 q1) fun z s2 ⟨zv, H2, I2, r2, q2⟩ => ?_
    exact store_ok I2 hN hi hx r2 (fun s3 I3 => ⟨_, H2, I3, q2⟩) hf
  rcases l with ⟨hk, hm⟩ | ⟨hk, c, hc, hcell⟩
  · exact wpAny_loadName_local I.ok.kind hk hn hm go
  · rcases hk with hk | hk
    · exact wpAny_loadName_cell I.ok.kind hk hc hcell go
    · rcases hx with k | k
      · have : X.env.scope.names.lookup x = some .free := hk
        rw [k] at this; cases this
      · have : X.env.scope.names.lookup x = some .free := hk
        rw [k] at this; cases this
/-- o[i] op= e -/
def tAugS (to ti te : TE) (tget : V → V → Hp → VK → Prop) (tip : TIp) (tset : TSet) : TS := fun D σ H => to σ H fun o H1 => ti σ H1 fun i H2 => tget o i H2 fun x H3 => te σ H3 fun y H4 => tip x y H4 fun z H5 => tset o i z H5 fun H6 => D.nx σ H6
/-- o[i], by values -/
def PGet (X : Cx) (t : V → V → Hp → VK → Prop) : Prop :=
  ∀ (pins : List (Addr × Obj)) (s : Shared) (σ : St) (H : Hp) (o i : V) (ov iv : Value) (Q : VK), Inv X pins σ H s → RelV o ov → RelV i iv → t o i H Q →
    wpAny (model X.prog X.w) X.A (getItem ov iv) (EP X pins σ Q) X.xe s
theorem ps_augS {o i e : Expr} {to ti te : TE} {tget : V → V → Hp → VK → Prop} {tip : TIp} {tset : TSet} {op : Operator} {tpos : Pos} (ho : PE X o to) (hi : PE X i ti) (hg : PGet X tget) (he : PE X e te) (hp : PIp X op tip) (hs : PSet X tset)
    (ha : ∀ ov iv new, augStore i ov iv new = (do holding [new, ov, iv] (setItem ov iv new); release [new, ov, iv] []; pure .next) := by intros; rfl) : PS X (.AugAssign (.Subscript o i tpos) op e pos) (tAugS to ti te tget tip tset) := by
  intro pins s σ H D I h
  refine wpAny_AugAssign_SubscriptAny (thn (ho pins s σ H _ I h) fun ov s1 ⟨x1, H1, I1, r1, q1⟩ => ?_) ha
  refine thn (hi pins s1 σ H1 _ I1 q1) fun iv s2 ⟨x2, H2, I2, r2, q2⟩ => ?_
  refine thn (hg pins s2 σ H2 x1 x2 ov iv _ I2 r1 r2 q2) fun old s3 ⟨x3, H3, I3, r3, q3⟩ => ?_
  refine thn (he pins s3 σ H3 _ I3 q3) fun v s4 ⟨x4, H4, I4, r4, q4⟩ => ?_
  refine thn (hp pins s4 σ H4 x3 x4 old v _ I4 r3 r4 q4) fun new s5 ⟨x5, H5, I5, r5, q5⟩ => ?_
  exact thn (hs pins s5 σ H5 x1 x2 x5 ov iv new _ I5 r1 r2 r5 q5) fun _ s6 ⟨H6, I6, q6⟩ => ⟨σ, H6, I6, q6⟩
/-- ints -/
def ipI (f : Int → Int → Int) : TIp := fun x y H Q => ∃ i j, x = .int i ∧ y = .int j ∧ Q (.int (f i j)) H
theorem ip_add : PIp X .Add (ipI fun i j => i + j) := by
  intro pins s σ H x y v u Q I r1 r2 h
  obtain ⟨i, j, e1, e2, q⟩ := h
  subst e1; subst e2
  obtain ⟨t, rfl⟩ := r1
  obtain ⟨t', rfl⟩ := r2
  exact iadd_int ⟨.int _, H, I.tok _, ⟨_, rfl⟩, q⟩
theorem ip_sub : PIp X .Sub (ipI fun i j => i - j) := by
  intro pins s σ H x y v u Q I r1 r2 h
  obtain ⟨i, j, e1, e2, q⟩ := h
  subst e1; subst e2
  obtain ⟨t, rfl⟩ := r1
  obtain ⟨t', rfl⟩ := r2
  exact isub_int ⟨.int _, H, I.tok _, ⟨_, rfl⟩, q⟩
end

/-! ### while -/
section
variable {X : Cx} {pos : Pos}
/-- the invariant W with its measure -/
def tWhile (c : TT) (tb : TS) : TS := fun D σ H => ∃ W : Nat → St → Hp → Prop, (∃ m, W m σ H) ∧ ∀ m σ H, W m σ H →
  c σ H fun b H1 => if b = true then ∃ N : St → Hp → Prop, (∀ σ' H', N σ' H' → ∃ m', m' < m ∧ W m' σ' H') ∧ tb { D with nx := N, ct := N, bk := D.nx } σ H1 else D.nx σ H1
theorem ps_while {c : Expr} {body : List Stmt} {tc : TT} {tb : TS} (hp : PassesOwn (model X.prog X.w) X.A X.env X.xe) (hc : PT X c tc) (hb : PSs X body tb) : PS X (.While c body [] pos) (tWhile tc tb) := by
  intro pins s σ H D I h
  obtain ⟨W, ⟨m0, w0⟩, turn⟩ := h
  refine wpAny_While (codeAny_whileLoop (fun n s' => ∃ σ' H', Inv X pins σ' H' s' ∧ W n σ' H') ?_ m0 ⟨σ, H, I, w0⟩)
  rintro n s1 ⟨σ1, H1, I1, w1⟩
  refine wpAny_passesOwn hp (thn (hc pins s1 σ1 H1 _ I1 (turn n σ1 H1 w1)) fun b s2 ⟨H2, I2, q2⟩ => ?_)
  cases b with
  | true =>
    obtain ⟨N, hN, q2⟩ := q2
    rw [if_pos rfl]
    refine wpAny_passesOwn hp (thn (hb pins s2 σ1 H2 _ I2 q2) fun f s3 q3 => ?_)
    cases f with
    | next =>
      obtain ⟨σ3, H3, I3, n3⟩ := q3
      obtain ⟨m', hm, w3⟩ := hN σ3 H3 n3
      exact ⟨m', hm, σ3, H3, I3, w3⟩
    | cont =>
      obtain ⟨σ3, H3, I3, n3⟩ := q3
      obtain ⟨m', hm, w3⟩ := hN σ3 H3 n3
      exact ⟨m', hm, σ3, H3, I3, w3⟩
    | brk => exact q3
    | ret v => exact q3
  | false =>
    rw [if_neg Bool.false_ne_true]
    exact wpAny_execs_nil ⟨σ1, H2, I2, q2⟩
end

/-! ### what a loop or a comprehension walks -/
/-- at turn i: it yields x (the heap may grow), or it stops -/
structure It where
  go : Nat → Hp → Prop
  yld : Nat → Hp → V → Hp → Prop
  stop : Nat → Hp → Prop
/-- the iterator's own objects may turn: they are not the frame's, not pinned, younger than the entry (or a comprehension's own) -/
def FpOk (X : Cx) (pins : List (Addr × Obj)) (H : Hp) (b : Addr) : Prop :=
  H b = none ∧ b ≠ X.env.locals ∧ b ∉ X.fs ∧ (b ∈ X.ex ∨ X.s₀.heap.objs.size ≤ b) ∧ (∀ x c, X.env.cells.lookup x = some c → c ≠ b) ∧ ∀ p ∈ X.pn ++ pins, p.1 ≠ b
theorem Inv.fpOk {X : Cx} {pins : List (Addr × Obj)} {σ : St} {H H' : Hp} {s : Shared} {b : Addr} (I : Inv X pins σ H s) (hb : s.heap.objs.size ≤ b) (hn : H' b = none) : FpOk X pins H' b := by
  refine ⟨hn, Nat.ne_of_gt (Nat.lt_of_lt_of_le I.lt hb), I.nofs hb, .inr (Nat.le_trans I.sz hb), fun x c e z => ?_, fun p hp z => ?_⟩
  · obtain ⟨v, q⟩ := I.cell x c e
    exact absurd (Nat.lt_of_lt_of_le q.lt (by rw [z]; exact hb)) (Nat.lt_irrefl _)
  · exact absurd (Nat.lt_of_lt_of_le (Heap.lt_size (I.pin p hp).1) (by rw [z]; exact hb)) (Nat.lt_irrefl _)
structure Turn (P : Program) (w : World) (K : PySem.W.Frag) (tg : Expr) (J : It) (fp : List Addr) (it : Addr) (tn : Nat → Heap → Prop) : Prop where
  mem : it ∈ fp
  obj : ∀ i h, tn i h → ∀ b ∈ fp, ∃ o, h.get? b = some o ∧ ∀ v, o.data ≠ .cell v
  keep : ∀ i h h', tn i h → (∀ b ∈ fp, ∀ o, h.get? b = some o → h'.get? b = some o) → tn i h'
  item : ∀ (X : Cx), X.prog = P → X.w = w → X.K = K → X.calm = true → ∀ (i : Nat) (pins : List (Addr × Obj)) (s : Shared) (σ : St) (H : Hp) (E : Value → Shared → Prop), Inv X pins σ H s → (∀ b ∈ fp, FpOk X pins H b) → tn i s.heap → J.go i H →
    wpAny (model P w) X.A (pyNext (.ref it)) (fun r s1 => ∃ u, r = some u ∧
      wpAny (model P w) X.A (letOwnedTupleGo tg (.ref it) u) (fun _ s2 => ∃ x H', Inv X pins σ H' s2 ∧ RelV x u ∧ J.yld i H x H' ∧ tn (i + 1) s2.heap ∧ ∀ b ∈ fp, H' b = none) E s1) E s
  done : ∀ (X : Cx), X.prog = P → X.w = w → X.K = K → X.calm = true → ∀ (i : Nat) (pins : List (Addr × Obj)) (s : Shared) (σ : St) (H : Hp) (E : Value → Shared → Prop), Inv X pins σ H s → (∀ b ∈ fp, FpOk X pins H b) → tn i s.heap → J.stop i H →
    wpAny (model P w) X.A (pyNext (.ref it)) (fun r s1 => r = none ∧ Inv X pins σ H s1) E s
  self : ∀ (A : Around) (i : Nat) (s : Shared) (Q : Value → Shared → Prop) (E : Value → Shared → Prop), tn i s.heap → Q (.ref it) s → wpAny (model P w) A (pyIter (.ref it)) Q E s
abbrev TI := St → Hp → (It → Hp → Prop) → Prop
/-- an iterator has come -/
def PIE (X : Cx) (pins : List (Addr × Obj)) (σ : St) (tg : Expr) (R : It → Hp → Prop) (itv : Value) (s2 : Shared) : Prop :=
  ∃ (it : Addr) (fp : List Addr) (tn : Nat → Heap → Prop) (J : It) (H' : Hp), itv = .ref it ∧ Inv X pins σ H' s2 ∧ Turn X.prog X.w X.K tg J fp it tn ∧ tn 0 s2.heap ∧ (∀ b ∈ fp, FpOk X pins H' b) ∧ R J H'
def PI (X : Cx) (tg iter : Expr) (wi : TI) : Prop :=
  ∀ (pins : List (Addr × Obj)) (s : Shared) (σ : St) (H : Hp) (R : It → Hp → Prop), Inv X pins σ H s → wi σ H R →
    wpAny (model X.prog X.w) X.A (eval iter X.env) (fun v s1 => wpAny (model X.prog X.w) X.A (pyIter v) (PIE X pins σ tg R) X.xe s1) X.xe s

/-- the step ahead of the store is nothing for an iterator that keeps no tuple -/
theorem go_of {M : Model} {A : Around} {E : Value → Shared → Prop} {s : Shared} {tg : Expr} {it : Addr} {u : Value} {o : Obj} {n : String} {vs : Array Value} {Q : Unit → Shared → Prop} (ho : s.heap.get? it = some o) (hc : o.cls = .type n) (hd : o.data = .fields vs)
    (hn : ["enumerate", "zip", "dict_itemiterator", "dict_reverseitemiterator", "odict_iterator", "itertools.zip_longest", "itertools.pairwise"].contains n = false) (hQ : Q () s) : wpAny M A (letOwnedTupleGo tg (.ref it) u) Q E s := by
  unfold letOwnedTupleGo
  cases tg <;> first
    | exact wpAny_pure hQ
    | (cases u <;> first
        | exact wpAny_pure hQ
        | (refine wpAny_bind (wpAny_load ho ?_)
           rw [hc, hd]
           show wpAny M A (if (["enumerate", "zip", "dict_itemiterator", "dict_reverseitemiterator", "odict_iterator", "itertools.zip_longest", "itertools.pairwise"].contains n && vs[0]? == some (rawInt _)) = true then _ else _) Q E s
           rw [if_neg (by intro h; rw [hn, Bool.false_and] at h; cases h)]
           exact wpAny_pure hQ))

/-- the list at a, as it stands at each turn (a loop may append to it) -/
def Itl (K : PySem.W.Frag) (a : Addr) : It :=
  ⟨fun i H => ∃ xs x, SqL K H a xs ∧ xs[i]? = some x, fun i H x H' => H' = H ∧ ∀ xs, SqL K H a xs → xs[i]? = some x, fun i H => ∃ xs, SqL K H a xs ∧ xs.length ≤ i⟩
def Itt (K : PySem.W.Frag) (a : Addr) : It :=
  ⟨fun i H => ∃ xs x, SqT K H a xs ∧ xs[i]? = some x, fun i H x H' => H' = H ∧ ∀ xs, SqT K H a xs → xs[i]? = some x, fun i H => ∃ xs, SqT K H a xs ∧ xs.length ≤ i⟩
/-- lo, lo + 1, .. (n of them) -/
def Itr (lo : Int) (n : Nat) : It := ⟨fun i _ => i < n, fun i H x H' => H' = H ∧ x = .int (lo + i), fun i _ => n ≤ i⟩
theorem turn_list {P : Program} {w : World} {K : PySem.W.Frag} {tg : Expr} (a it : Addr) : Turn P w K tg (Itl K a) [it] it (fun i h => h.IsListIter it a i) where
  mem := by simp
  obj := fun i h st b hb => by
    have e : b = it := by simpa using hb
    subst e
    obtain ⟨o, e, c, d⟩ := st
    exact ⟨o, e, fun v z => by rw [d] at z; cases z⟩
  keep := fun i h h' st k => st.at fun o e => k it (by simp) o e
  item := by
    intro X hP hw hK hc i pins s σ H E I hf st hg
    subst hP hw hK
    obtain ⟨xs, x, hq, hx⟩ := hg
    obtain ⟨its, rv, p, hz⟩ := I.list hq
    obtain ⟨u, hu, ru⟩ := rv.get hx
    obtain ⟨f0, f1, f2, f3, f4, f5⟩ := hf it (by simp)
    refine wpAny_pyNext_list_item st p.isList (x := u) (by simpa using hu) fun h' st' sb => ?_
    have I1 : Inv X pins σ H { s with heap := h' } := I.turned (t' := s.toks) (fun b o hb e => (sb.2 b hb).trans e) f0 f1 f3 f4 f5
    obtain ⟨o, e, c, d⟩ := id st'
    exact ⟨u, rfl, go_of (s := { s with heap := h' }) e c d (by decide) ⟨x, H, I1, ru, ⟨rfl, fun ys hy => by rw [I.list_inj hy hq]; exact hx⟩, st', fun b hb => (hf b hb).1⟩⟩
  done := by
    intro X hP hw hK hc i pins s σ H E I hf st hg
    subst hP hw hK
    obtain ⟨xs, hq, hx⟩ := hg
    obtain ⟨its, rv, p, hz⟩ := I.list hq
    obtain ⟨f0, f1, f2, f3, f4, f5⟩ := hf it (by simp)
    have hl := rv.length
    exact wpAny_pyNext_list_end (I.ok.hd hc) st p.isList (by simp; omega) fun h' eb => ⟨rfl, I.turned (t' := s.toks) (fun b o hb e => eb b o hb e) f0 f1 f3 f4 f5⟩
  self := fun _ _ _ _ _ st h => wpAny_pyIter_listiter st h
theorem turn_tuple {P : Program} {w : World} {K : PySem.W.Frag} {tg : Expr} (a it : Addr) : Turn P w K tg (Itt K a) [it] it (fun i h => h.IsTupleIter it a i) where
  mem := by simp
  obj := fun i h st b hb => by
    have e : b = it := by simpa using hb
    subst e
    obtain ⟨o, e, c, d⟩ := st
    exact ⟨o, e, fun v z => by rw [d] at z; cases z⟩
  keep := fun i h h' st k => st.at fun o e => k it (by simp) o e
  item := by
    intro X hP hw hK hc i pins s σ H E I hf st hg
    subst hP hw hK
    obtain ⟨xs, x, hq, hx⟩ := hg
    obtain ⟨its, rv, p, hz⟩ := I.tuple hq
    obtain ⟨u, hu, ru⟩ := rv.get hx
    obtain ⟨f0, f1, f2, f3, f4, f5⟩ := hf it (by simp)
    refine wpAny_pyNext_tuple_item st (show s.heap.IsTuple a its.toArray from p) (x := u) (by simpa using hu) fun h' st' sb => ?_
    have I1 : Inv X pins σ H { s with heap := h' } := I.turned (t' := s.toks) (fun b o hb e => (sb.2 b hb).trans e) f0 f1 f3 f4 f5
    obtain ⟨o, e, c, d⟩ := id st'
    exact ⟨u, rfl, go_of (s := { s with heap := h' }) e c d (by decide) ⟨x, H, I1, ru, ⟨rfl, fun ys hy => by rw [I.tuple_inj hy hq]; exact hx⟩, st', fun b hb => (hf b hb).1⟩⟩
  done := by
    intro X hP hw hK hc i pins s σ H E I hf st hg
    subst hP hw hK
    obtain ⟨xs, hq, hx⟩ := hg
    obtain ⟨its, rv, p, hz⟩ := I.tuple hq
    obtain ⟨f0, f1, f2, f3, f4, f5⟩ := hf it (by simp)
    have hl := rv.length
    exact wpAny_pyNext_tuple_end (I.ok.hd hc) st (show s.heap.IsTuple a its.toArray from p) (by simp; omega) fun h' eb => ⟨rfl, I.turned (t' := s.toks) (fun b o hb e => eb b o hb e) f0 f1 f3 f4 f5⟩
  self := fun _ _ _ _ _ st h => wpAny_pyIter_tupleiter st h
theorem turn_range {P : Program} {w : World} {K : PySem.W.Frag} {tg : Expr} (it : Addr) (lo : Int) (n : Nat) : Turn P w K tg (Itr lo n) [it] it (fun i h => IsRangeIter h it (lo + (i : Nat) * 1) ((n : Int) - (i : Nat)) 1) where
  mem := by simp
  obj := fun i h st b hb => by
    have e : b = it := by simpa using hb
    subst e
    exact ⟨_, st, fun v z => by
      have z' : Data.fields _ = Data.cell v := z
      cases z'⟩
  keep := fun i h h' st k => k it (by simp) _ st
  item := by
    intro X hP hw hK hc i pins s σ H E I hf st hg
    subst hP hw hK
    obtain ⟨f0, f1, f2, f3, f4, f5⟩ := hf it (by simp)
    have W := Walks.range (prog := X.prog) (w := X.w) (I.ok.hd hc) it lo 1 n
    refine W.item i s _ _ hg st fun v h' tk hv st' kk => ?_
    obtain ⟨t, rfl⟩ := hv
    have I1 : Inv X pins σ H { s with heap := h', toks := tk } := I.turned (fun b o hb e => kk b o (by simpa using hb) e) f0 f1 f3 f4 f5
    refine ⟨_, rfl, go_of (s := { s with heap := h', toks := tk }) (n := "range_iterator") st' rfl rfl (by decide) ⟨.int (lo + i), H, I1, ⟨t, ?_⟩, ⟨rfl, rfl⟩, st', fun b hb => (hf b hb).1⟩⟩
    rw [Int.mul_one]
  done := by
    intro X hP hw hK hc i pins s σ H E I hf st hg
    subst hP hw hK
    obtain ⟨f0, f1, f2, f3, f4, f5⟩ := hf it (by simp)
    exact wpAny_pyNext_range_end (I.ok.hd hc) st (by have : n ≤ i := hg; omega) fun h' eb => ⟨rfl, I.turned (t' := s.toks) (fun b o hb e => eb b o hb e) f0 f1 f3 f4 f5⟩
  self := fun _ _ _ _ _ st h => wpAny_pyIter_rangeiter st h
end L2

namespace L2
open PySem PySem.Spec PyProof.Rows
section
variable {X : Cx} {tg : Expr}
def iList (K : PySem.W.Frag) (tl : TE) : TI := fun σ H R => tl σ H fun x H1 => ∃ a, x = .ref a ∧ (∃ xs, SqL K H1 a xs) ∧ R (Itl K a) H1
def iTup (K : PySem.W.Frag) (tl : TE) : TI := fun σ H R => tl σ H fun x H1 => ∃ a, x = .ref a ∧ (∃ xs, SqT K H1 a xs) ∧ R (Itt K a) H1
theorem pi_list {l : Expr} {tl : TE} (hl : PE X l tl) : PI X tg l (iList X.K tl) := by
  intro pins s σ H R I h
  refine thn (hl pins s σ H _ I h) fun v s1 ⟨x, H1, I1, r1, q1⟩ => ?_
  obtain ⟨a, e, ⟨xs, hq⟩, q⟩ := q1
  subst e
  cases r1
  obtain ⟨its, rv, p, hz⟩ := I1.list hq
  refine wpAny_pyIter_list p.isList ?_
  refine ⟨s1.heap.objs.size, [s1.heap.objs.size], _, _, H1, rfl, I1.kept (t' := s1.toks) fun b o e => Heap.get?_push_of_some _ e, turn_list a _, ⟨_, Heap.get?_push_size _ rfl, rfl, rfl⟩, fun b hb => ?_, q⟩
  have e : b = s1.heap.objs.size := by simpa using hb
  subst e
  exact I1.fpOk (Nat.le_refl _) (I1.hok.fresh (Nat.le_refl _))
theorem pi_tup {l : Expr} {tl : TE} (hl : PE X l tl) : PI X tg l (iTup X.K tl) := by
  intro pins s σ H R I h
  refine thn (hl pins s σ H _ I h) fun v s1 ⟨x, H1, I1, r1, q1⟩ => ?_
  obtain ⟨a, e, ⟨xs, hq⟩, q⟩ := q1
  subst e
  cases r1
  obtain ⟨its, rv, p, hz⟩ := I1.tuple hq
  refine wpAny_pyIter_tuple (show s1.heap.IsTuple a its.toArray from p) ?_
  refine ⟨s1.heap.objs.size, [s1.heap.objs.size], _, _, H1, rfl, I1.kept (t' := s1.toks) fun b o e => Heap.get?_push_of_some _ e, turn_tuple a _, ⟨_, Heap.get?_push_size _ rfl, rfl, rfl⟩, fun b hb => ?_, q⟩
  have e : b = s1.heap.objs.size := by simpa using hb
  subst e
  exact I1.fpOk (Nat.le_refl _) (I1.hok.fresh (Nat.le_refl _))
/-- a range object just made, walked -/
theorem range_it {pins : List (Addr × Obj)} {σ : St} {H : Hp} {s : Shared} {R : It → Hp → Prop} {E : Value → Shared → Prop} {lo hi : Int} {t u v : Tok} {tk : Nat} (I : Inv X pins σ H s) (h1 : -(2 ^ 62) ≤ lo) (h2 : lo < 2 ^ 62) (h3 : -(2 ^ 62) ≤ hi) (h4 : hi < 2 ^ 62)
    (q : R (Itr lo (hi - lo).toNat) H) : wpAny (model X.prog X.w) X.A (pyIter (.ref s.heap.objs.size)) (PIE X pins σ tg R) E { s with heap := s.heap.push { cls := .type "range", data := .fields #[.int lo t, .int hi u, .int 1 v] }, toks := tk } := by
  refine wpAny_pyIter_range (IsRange.new ..) (small_one h1 h2 h3 h4) ?_
  have I1 : Inv X pins σ H { s with heap := s.heap.push { cls := .type "range", data := .fields #[.int lo t, .int hi u, .int 1 v] }, toks := tk } := I.kept fun b o e => Heap.get?_push_of_some _ e
  refine ⟨(s.heap.push { cls := .type "range", data := .fields #[.int lo t, .int hi u, .int 1 v] }).objs.size, [(s.heap.push { cls := .type "range", data := .fields #[.int lo t, .int hi u, .int 1 v] }).objs.size], _, _, H, rfl,
    I1.kept (t' := tk) fun b o e => Heap.get?_push_of_some _ e, turn_range _ lo (hi - lo).toNat, ?_, fun b hb => ?_, q⟩
  · have e1 : lo + ((0 : Nat) : Int) * 1 = lo := by simp
    have e2 : (((hi - lo).toNat : Nat) : Int) - ((0 : Nat) : Int) = Builtin.Range.rangeSize lo hi 1 := by rw [rangeSize_one]; split <;> omega
    show IsRangeIter _ _ (lo + ((0 : Nat) : Int) * 1) ((((hi - lo).toNat : Nat) : Int) - ((0 : Nat) : Int)) 1
    rw [e1, e2]
    exact Heap.get?_push_size _ rfl
  · have e : b = (s.heap.push { cls := .type "range", data := .fields #[.int lo t, .int hi u, .int 1 v] }).objs.size := by simpa using hb
    subst e
    exact I1.fpOk (Nat.le_refl _) (I1.hok.fresh (Nat.le_refl _))
def iRng1 (ta : TA) : TI := fun σ H R => ta σ H fun vs H1 => ∃ j : Int, vs = [.int j] ∧ -(2 ^ 62) ≤ j ∧ j < 2 ^ 62 ∧ R (Itr 0 j.toNat) H1
def iRng2 (ta : TA) : TI := fun σ H R => ta σ H fun vs H1 => ∃ i j : Int, vs = [.int i, .int j] ∧ (-(2 ^ 62) ≤ i ∧ i < 2 ^ 62 ∧ -(2 ^ 62) ≤ j ∧ j < 2 ^ 62) ∧ R (Itr i (j - i).toNat) H1
theorem pi_range1 {a : Expr} {ta : TA} {p pos : Pos} (hg : Gl X "range") (hm : X.mg "range" = none) (ha : PA X [a] ta) (hs : starEach [a] X.env = [(false, eval a X.env)] := by rfl) : PI X tg (.Call (.Name "range" p) [a] [] pos) (iRng1 ta) := by
  intro pins s σ H R I h
  refine Call_ (ld_blt I hg hm boot_range (PyProof.Rows.callWith_type1 (thn (ha pos pins s σ H _ I h) fun us s1 ⟨vs, H1, I1, r1, q1⟩ => ?_) hs rfl))
  obtain ⟨j, e, q1, q2, q⟩ := q1
  subst e
  cases r1 with
  | cons r rr =>
    cases rr
    obtain ⟨t, rfl⟩ := r
    exact call_range_1 (range_it I1 (by omega) (by omega) q1 q2 (by simpa using q))
theorem pi_range2 {a b : Expr} {ta : TA} {p pos : Pos} (hg : Gl X "range") (hm : X.mg "range" = none) (ha : PA X [a, b] ta) (hs : starEach [a, b] X.env = [(false, eval a X.env), (false, eval b X.env)] := by rfl) (hs2 : starEach [b] X.env = [(false, eval b X.env)] := by rfl) :
    PI X tg (.Call (.Name "range" p) [a, b] [] pos) (iRng2 ta) := by
  intro pins s σ H R I h
  refine Call_ (ld_blt I hg hm boot_range (PyProof.Rows.callWith_type1 (thn (ha pos pins s σ H _ I h) fun us s1 ⟨vs, H1, I1, r1, q1⟩ => ?_) (by rw [hs, hs2]) (by rw [hs2]; rfl)))
  obtain ⟨i, j, e, ⟨q1, q2, q3, q4⟩, q⟩ := q1
  subst e
  cases r1 with
  | cons r rr =>
    cases rr with
    | cons r' rr =>
      cases rr
      obtain ⟨t, rfl⟩ := r
      obtain ⟨t', rfl⟩ := r'
      exact call_range_2 (range_it I1 q1 q2 q3 q4 q)

/-! ### for -/
/-- W: the invariant by the turn and a measure; N: what the body is to reach -/
def tFor (wi : TI) (g : TG) (tb : TS) : TS := fun D σ H => wi σ H fun J H1 => ∃ W : Nat → Nat → St → Hp → Prop, (∃ m, W 0 m σ H1) ∧ ∀ i m σ H, W i m σ H →
  (J.stop i H ∧ D.nx σ H) ∨ (J.go i H ∧ ∃ N : St → Hp → Prop, (∀ σ' H', N σ' H' → ∃ m', m' < m ∧ W (i + 1) m' σ' H') ∧ ∀ x H', J.yld i H x H' → g x σ H' fun σ2 H2 => tb { D with nx := N, ct := N, bk := D.nx } σ2 H2)
/-- the records at fp as they stand -/
def pinsAt (fp : List Addr) (h : Heap) : List (Addr × Obj) := fp.filterMap fun b => (h.get? b).map fun o => (b, o)
theorem mem_pinsAt {fp : List Addr} {h : Heap} {b : Addr} {o : Obj} (hb : b ∈ fp) (e : h.get? b = some o) : (b, o) ∈ pinsAt fp h := List.mem_filterMap.mpr ⟨b, hb, by rw [e]; rfl⟩
theorem of_pinsAt {fp : List Addr} {h : Heap} {p : Addr × Obj} (hp : p ∈ pinsAt fp h) : p.1 ∈ fp ∧ h.get? p.1 = some p.2 := by
  obtain ⟨b, hb, e⟩ := List.mem_filterMap.mp hp
  cases q : h.get? b with
  | none => rw [q] at e; cases e
  | some o =>
    rw [q] at e
    have e' : (b, o) = p := Option.some.inj e
    subst e'
    exact ⟨hb, q⟩
theorem Inv.pinned {pins : List (Addr × Obj)} {σ : St} {H : Hp} {s : Shared} {fp : List Addr} (I : Inv X pins σ H s) (hf : ∀ b ∈ fp, FpOk X pins H b) (ho : ∀ b ∈ fp, ∃ o, s.heap.get? b = some o ∧ ∀ v, o.data ≠ .cell v) : Inv X (pins ++ pinsAt fp s.heap) σ H s :=
  I.pins_of fun p hp => (List.mem_append.mp hp).elim (fun z => I.pin p (List.mem_append_right _ z)) fun z => by
    obtain ⟨hb, e⟩ := of_pinsAt z
    obtain ⟨f0, f1, f2, _⟩ := hf p.1 hb
    obtain ⟨o, e', d⟩ := ho p.1 hb
    rw [e] at e'; cases e'
    exact ⟨e, f0, f1, f2, d⟩
theorem Inv.unpinned {pins pl : List (Addr × Obj)} {σ : St} {H : Hp} {s : Shared} (I : Inv X (pins ++ pl) σ H s) : Inv X pins σ H s := I.pins_of fun p hp => I.pin p (List.mem_append_right _ (List.mem_append_left _ hp))
theorem ps_for {iter : Expr} {body : List Stmt} {wi : TI} {g : TG} {tb : TS} {pos : Pos} (hp : PassesOwn (model X.prog X.w) X.A X.env X.xe) (hc : X.calm = true) (hi : PI X tg iter wi) (hg : PG X tg g) (hb : PSs X body tb)
    (hs : ∀ x, foldedSetIterable iter X.env x = pure x := by intro _; rfl) : PS X (.For tg iter body [] pos) (tFor wi g tb) := by
  intro pins s σ H D I h
  refine wpAny_For (thn (hi pins s σ H _ I h) fun v s1 h1 => thn h1 fun itv s2 h2 => ?_) hs
  obtain ⟨it, fp, tn, J, H2, e, I2, T, st2, f2, W, ⟨m0, w0⟩, turn⟩ := h2
  subst e
  -- what stays true of the iterator's objects through the loop
  have stat : ∀ {H' : Hp}, (∀ b ∈ fp, H' b = none) → ∀ b ∈ fp, FpOk X pins H' b := fun hn b hb => ⟨hn b hb, (f2 b hb).2⟩
  refine codeAny_forLoop_any (fun n s' => ∃ i σ' H', Inv X pins σ' H' s' ∧ tn i s'.heap ∧ (∀ b ∈ fp, H' b = none) ∧ W i n σ' H') ?_ m0 ⟨0, σ, H2, I2, st2, fun b hb => (f2 b hb).1, w0⟩
  rintro n s3 ⟨i, σ3, H3, I3, st3, fr3, w3⟩
  rcases turn i n σ3 H3 w3 with ⟨stop, qn⟩ | ⟨go, N, hN, step⟩
  · refine wpAny_passesOwn hp (thn (T.done X rfl rfl rfl hc i pins s3 σ3 H3 X.xe I3 (stat fr3) st3 stop) fun r s4 ⟨hr, I4⟩ => ?_)
    subst hr
    exact wpAny_execs_nil ⟨σ3, H3, I4, qn⟩
  · refine wpAny_passesOwn hp (thn (T.item X rfl rfl rfl hc i pins s3 σ3 H3 X.xe I3 (stat fr3) st3 go) fun r s4 ⟨u, hr, h4⟩ => ?_)
    subst hr
    refine wpAny_passesOwn hp (thn h4 fun _ s5 ⟨x, H5, I5, r5, y5, st5, fr5⟩ => ?_)
    have I5' := I5.pinned (stat fr5) (T.obj _ _ st5)
    refine wpAny_passesOwn hp (thn (hg _ s5 σ3 H5 x u _ I5' r5 (step x H5 y5)) fun _ s6 ⟨σ6, H6, I6, q6⟩ => ?_)
    refine wpAny_passesOwn hp (thn (hb _ s6 σ6 H6 _ I6 q6) fun f s7 q7 => ?_)
    have again : ∀ {σ7 : St} {H7 : Hp}, Inv X (pins ++ pinsAt fp s5.heap) σ7 H7 s7 → N σ7 H7 → ∃ m, m < n ∧ ∃ i σ' H', Inv X pins σ' H' s7 ∧ tn i s7.heap ∧ (∀ b ∈ fp, H' b = none) ∧ W i m σ' H' := fun {σ7 H7} I7 n7 => by
      obtain ⟨m', hm, w7⟩ := hN σ7 H7 n7
      refine ⟨m', hm, i + 1, σ7, H7, I7.unpinned, T.keep _ _ _ st5 fun b hb o e => (I7.pin (b, o) (List.mem_append_right _ (List.mem_append_right _ (mem_pinsAt hb e)))).1, fun b hb => ?_, w7⟩
      obtain ⟨o, e, d⟩ := T.obj _ _ st5 b hb
      exact (I7.pin (b, o) (List.mem_append_right _ (List.mem_append_right _ (mem_pinsAt hb e)))).2.1
    cases f with
    | next => obtain ⟨σ7, H7, I7, n7⟩ := q7; exact again I7 n7
    | cont => obtain ⟨σ7, H7, I7, n7⟩ := q7; exact again I7 n7
    | brk => obtain ⟨σ7, H7, I7, q7⟩ := q7; exact ⟨σ7, H7, I7.unpinned, q7⟩
    | ret v => obtain ⟨x7, σ7, H7, I7, r7, q7⟩ := q7; exact ⟨x7, σ7, H7, I7.unpinned, r7, q7⟩
end

/-! ### the forms one uses -/
/-- over a list that the body leaves as it is -/
theorem for_list {K : PySem.W.Frag} {a : Addr} {xs : List V} {g : TG} {tb : TS} {D : Ends} {σ : St} {H : Hp} (Pv : Nat → St → Hp → Prop) (h0 : Pv 0 σ H) (hl : ∀ i σ H, i ≤ xs.length → Pv i σ H → SqL K H a xs)
    (hs : ∀ i x σ H, xs[i]? = some x → Pv i σ H → g x σ H fun σ2 H2 => tb { D with nx := Pv (i + 1), ct := Pv (i + 1), bk := D.nx } σ2 H2) (hd : ∀ σ H, Pv xs.length σ H → D.nx σ H) :
    ∃ W : Nat → Nat → St → Hp → Prop, (∃ m, W 0 m σ H) ∧ ∀ i m σ H, W i m σ H →
      ((Itl K a).stop i H ∧ D.nx σ H) ∨ ((Itl K a).go i H ∧ ∃ N : St → Hp → Prop, (∀ σ' H', N σ' H' → ∃ m', m' < m ∧ W (i + 1) m' σ' H') ∧ ∀ x H', (Itl K a).yld i H x H' → g x σ H' fun σ2 H2 => tb { D with nx := N, ct := N, bk := D.nx } σ2 H2) := by
  refine ⟨fun i m σ H => m = xs.length - i ∧ i ≤ xs.length ∧ Pv i σ H, ⟨xs.length, by simp, Nat.zero_le _, h0⟩, ?_⟩
  rintro i m σ H ⟨rfl, hi, p⟩
  have q := hl i σ H hi p
  by_cases hlt : i < xs.length
  · refine .inr ⟨⟨xs, xs[i], q, by simp [hlt]⟩, Pv (i + 1), fun σ' H' p' => ⟨xs.length - (i + 1), by omega, rfl, hlt, p'⟩, fun x H' y => ?_⟩
    obtain ⟨e, y⟩ := y
    subst e
    exact hs i x σ _ (y xs q) p
  · have e : i = xs.length := by omega
    subst e
    exact .inl ⟨⟨xs, q, Nat.le_refl _⟩, hd σ H p⟩
theorem for_tup {K : PySem.W.Frag} {a : Addr} {xs : List V} {g : TG} {tb : TS} {D : Ends} {σ : St} {H : Hp} (Pv : Nat → St → Hp → Prop) (h0 : Pv 0 σ H) (hl : ∀ i σ H, i ≤ xs.length → Pv i σ H → SqT K H a xs)
    (hs : ∀ i x σ H, xs[i]? = some x → Pv i σ H → g x σ H fun σ2 H2 => tb { D with nx := Pv (i + 1), ct := Pv (i + 1), bk := D.nx } σ2 H2) (hd : ∀ σ H, Pv xs.length σ H → D.nx σ H) :
    ∃ W : Nat → Nat → St → Hp → Prop, (∃ m, W 0 m σ H) ∧ ∀ i m σ H, W i m σ H →
      ((Itt K a).stop i H ∧ D.nx σ H) ∨ ((Itt K a).go i H ∧ ∃ N : St → Hp → Prop, (∀ σ' H', N σ' H' → ∃ m', m' < m ∧ W (i + 1) m' σ' H') ∧ ∀ x H', (Itt K a).yld i H x H' → g x σ H' fun σ2 H2 => tb { D with nx := N, ct := N, bk := D.nx } σ2 H2) := by
  refine ⟨fun i m σ H => m = xs.length - i ∧ i ≤ xs.length ∧ Pv i σ H, ⟨xs.length, by simp, Nat.zero_le _, h0⟩, ?_⟩
  rintro i m σ H ⟨rfl, hi, p⟩
  have q := hl i σ H hi p
  by_cases hlt : i < xs.length
  · refine .inr ⟨⟨xs, xs[i], q, by simp [hlt]⟩, Pv (i + 1), fun σ' H' p' => ⟨xs.length - (i + 1), by omega, rfl, hlt, p'⟩, fun x H' y => ?_⟩
    obtain ⟨e, y⟩ := y
    subst e
    exact hs i x σ _ (y xs q) p
  · have e : i = xs.length := by omega
    subst e
    exact .inl ⟨⟨xs, q, Nat.le_refl _⟩, hd σ H p⟩
theorem for_range {lo : Int} {n : Nat} {g : TG} {tb : TS} {D : Ends} {σ : St} {H : Hp} (Pv : Nat → St → Hp → Prop) (h0 : Pv 0 σ H)
    (hs : ∀ i σ H, i < n → Pv i σ H → g (.int (lo + i)) σ H fun σ2 H2 => tb { D with nx := Pv (i + 1), ct := Pv (i + 1), bk := D.nx } σ2 H2) (hd : ∀ σ H, Pv n σ H → D.nx σ H) :
    ∃ W : Nat → Nat → St → Hp → Prop, (∃ m, W 0 m σ H) ∧ ∀ i m σ H, W i m σ H →
      ((Itr lo n).stop i H ∧ D.nx σ H) ∨ ((Itr lo n).go i H ∧ ∃ N : St → Hp → Prop, (∀ σ' H', N σ' H' → ∃ m', m' < m ∧ W (i + 1) m' σ' H') ∧ ∀ x H', (Itr lo n).yld i H x H' → g x σ H' fun σ2 H2 => tb { D with nx := N, ct := N, bk := D.nx } σ2 H2) := by
  refine ⟨fun i m σ H => m = n - i ∧ i ≤ n ∧ Pv i σ H, ⟨n, by simp, Nat.zero_le _, h0⟩, ?_⟩
  rintro i m σ H ⟨rfl, hi, p⟩
  by_cases hlt : i < n
  · refine .inr ⟨hlt, Pv (i + 1), fun σ' H' p' => ⟨n - (i + 1), by omega, rfl, hlt, p'⟩, fun x H' y => ?_⟩
    obtain ⟨e, y⟩ := y
    subst e y
    exact hs i σ _ hlt p
  · have e : i = n := by omega
    subst e
    exact .inl ⟨Nat.le_refl _, hd σ H p⟩
/-- while, by a word and a measure of the state -/
theorem while_by {c : TT} {tb : TS} {D : Ends} {σ : St} {H : Hp} (Pv : St → Hp → Prop) (μ : St → Hp → Nat) (h0 : Pv σ H)
    (hs : ∀ σ H, Pv σ H → c σ H fun b H1 => if b = true then tb { D with nx := fun σ' H' => Pv σ' H' ∧ μ σ' H' < μ σ H, ct := fun σ' H' => Pv σ' H' ∧ μ σ' H' < μ σ H, bk := D.nx } σ H1 else D.nx σ H1)
    (mono : ∀ σ H Q Q', (∀ b H1, Q b H1 → Q' b H1) → c σ H Q → c σ H Q') : tWhile c tb D σ H := by
  refine ⟨fun m σ H => m = μ σ H ∧ Pv σ H, ⟨_, rfl, h0⟩, ?_⟩
  rintro m σ H ⟨rfl, p⟩
  refine mono σ H _ _ (fun b H1 q => ?_) (hs σ H p)
  cases b with
  | true => exact ⟨_, fun σ' H' ⟨p', l⟩ => ⟨_, l, rfl, p'⟩, q⟩
  | false => exact q
end L2

namespace L2
open PySem PySem.Spec PyProof.Rows

abbrev R2 := V → V → Hp → VK → Prop
/-- a two-place operation on values: f is binaryOp op, inplaceOp op or compareOp op -/
def OpR (X : Cx) (f : Value → Value → Sem Value) (r : R2) : Prop :=
  ∀ (pins : List (Addr × Obj)) (s : Shared) (σ : St) (H : Hp) (x y : V) (v u : Value) (Q : VK), Inv X pins σ H s → RelV x v → RelV y u → r x y H Q →
    wpAny (model X.prog X.w) X.A (f v u) (EP X pins σ Q) X.xe s
/-- a one-place operation -/
def UnR (X : Cx) (f : Value → Sem Value) (r : V → Hp → VK → Prop) : Prop :=
  ∀ (pins : List (Addr × Obj)) (s : Shared) (σ : St) (H : Hp) (x : V) (v : Value) (Q : VK), Inv X pins σ H s → RelV x v → r x H Q →
    wpAny (model X.prog X.w) X.A (f v) (EP X pins σ Q) X.xe s
/-- a call of a value that is known (a builtin, a type) with values -/
def CallR (X : Cx) (f : Value) (r : List V → Hp → VK → Prop) : Prop :=
  ∀ (pins : List (Addr × Obj)) (s : Shared) (σ : St) (H : Hp) (xs : List V) (us : List Value) (Q : VK), Inv X pins σ H s → Vals xs us → r xs H Q →
    wpAny (model X.prog X.w) X.A (call f us) (EP X pins σ Q) X.xe s
/-- a value's truth -/
def TruR (X : Cx) (r : V → Hp → (Bool → Hp → Prop) → Prop) : Prop :=
  ∀ (pins : List (Addr × Obj)) (s : Shared) (σ : St) (H : Hp) (x : V) (v : Value) (Q : Bool → Hp → Prop), Inv X pins σ H s → RelV x v → r x H Q →
    wpAny (model X.prog X.w) X.A (truthy v) (TP X pins σ Q) X.xe s

def tOp (r : R2) (ta tb : TE) : TE := fun σ H Q => ta σ H fun x H1 => tb σ H1 fun y H2 => r x y H2 Q
def tUn (r : V → Hp → VK → Prop) (ta : TE) : TE := fun σ H Q => ta σ H fun x H1 => r x H1 Q
/-- ints in, under C, and a value out -/
def rI (C : Int → Int → Prop) (g : Int → Int → V) : R2 := fun x y H Q => ∃ i j, x = .int i ∧ y = .int j ∧ C i j ∧ Q (g i j) H
def rI0 (g : Int → Int → V) : R2 := fun x y H Q => ∃ i j, x = .int i ∧ y = .int j ∧ Q (g i j) H
def rU (g : Int → V) : V → Hp → VK → Prop := fun x H Q => ∃ i, x = .int i ∧ Q (g i) H

section
variable {X : Cx} {a b c : Expr} {ta tb tc : TE} {pos : Pos}

theorem binT (ha : PE X a ta) (hb : PE X b tb) {pins : List (Addr × Obj)} {s : Shared} {σ : St} {H : Hp} {R : V → V → Hp → Prop} (I : Inv X pins σ H s)
    (h : ta σ H fun x H1 => tb σ H1 fun y H2 => R x y H2) {Q : Value → Shared → Prop} {f : Value → Value → Sem Value}
    (hf : ∀ v u s2 x y H2, Inv X pins σ H2 s2 → RelV x v → RelV y u → R x y H2 → wpAny (model X.prog X.w) X.A (f v u) Q X.xe s2) :
    wpAny (model X.prog X.w) X.A (eval a X.env) (fun v s₁ => wpAny (model X.prog X.w) X.A (eval b X.env) (fun u s₂ => wpAny (model X.prog X.w) X.A (f v u) Q X.xe s₂) X.xe s₁) X.xe s := by
  refine thn (ha pins s σ H _ I h) fun v s1 ⟨x, H1, I1, r1, q1⟩ => ?_
  refine thn (hb pins s1 σ H1 _ I1 q1) fun u s2 ⟨y, H2, I2, r2, q2⟩ => ?_
  exact hf v u s2 x y H2 I2 r1 r2 q2

theorem pe_op {op : Operator} {r : R2} (ho : OpR X (binaryOp op) r) (ha : PE X a ta) (hb : PE X b tb) : PE X (.BinOp a op b pos) (tOp r ta tb) := by
  intro pins s σ H Q I h
  exact wpAny_BinOp (binT ha hb I h fun v u s2 x y H2 I2 rx ry q => ho pins s2 σ H2 x y v u Q I2 rx ry q)
theorem pe_un {op : UnaryOp} {r : V → Hp → VK → Prop} (ho : UnR X (unaryOp op) r) (ha : PE X a ta) : PE X (.UnaryOp op a pos) (tUn r ta) := by
  intro pins s σ H Q I h
  exact UnaryOp_ (thn (ha pins s σ H _ I h) fun v s1 ⟨x, H1, I1, r1, q1⟩ => ho pins s1 σ H1 x v Q I1 r1 q1)
/-- a op= e at a name: the name's slot i -/
theorem augR {op : Operator} {r : R2} (ho : OpR X (inplaceOp op) r) {pins : List (Addr × Obj)} {s : Shared} {σ : St} {H : Hp} {x y : V} {v u : Value} {Q : VK} (I : Inv X pins σ H s)
    (rx : RelV x v) (ry : RelV y u) (q : r x y H Q) : wpAny (model X.prog X.w) X.A (inplaceOp op v u) (EP X pins σ Q) X.xe s := ho pins s σ H x y v u Q I rx ry q

/-! ### ints -/
theorem opI {f : Value → Value → Sem Value} {C : Int → Int → Prop} {g : Int → Int → Int}
    (rule : ∀ (i j : Int) (t u : Tok) (s : Shared) (Q : Value → Shared → Prop) (E : Value → Shared → Prop), C i j → Q (.int (g i j) s.toks) { s with toks := s.toks + 1 } → wpAny (model X.prog X.w) X.A (f (.int i t) (.int j u)) Q E s) :
    OpR X f (rI C fun i j => .int (g i j)) := by
  intro pins s σ H x y v u Q I rx ry h
  obtain ⟨i, j, rfl, rfl, hc, q⟩ := h
  obtain ⟨t, rfl⟩ := rx
  obtain ⟨t', rfl⟩ := ry
  exact rule i j t t' s _ _ hc ⟨.int (g i j), H, I.tok _, ⟨_, rfl⟩, q⟩
theorem opI0 {f : Value → Value → Sem Value} {g : Int → Int → Int}
    (rule : ∀ (i j : Int) (t u : Tok) (s : Shared) (Q : Value → Shared → Prop) (E : Value → Shared → Prop), Q (.int (g i j) s.toks) { s with toks := s.toks + 1 } → wpAny (model X.prog X.w) X.A (f (.int i t) (.int j u)) Q E s) :
    OpR X f (rI0 fun i j => .int (g i j)) := by
  intro pins s σ H x y v u Q I rx ry h
  obtain ⟨i, j, rfl, rfl, q⟩ := h
  obtain ⟨t, rfl⟩ := rx
  obtain ⟨t', rfl⟩ := ry
  exact rule i j t t' s _ _ ⟨.int (g i j), H, I.tok _, ⟨_, rfl⟩, q⟩
theorem opB0 {f : Value → Value → Sem Value} {g : Int → Int → Bool}
    (rule : ∀ (i j : Int) (t u : Tok) (s : Shared) (Q : Value → Shared → Prop) (E : Value → Shared → Prop), Q (.bool (g i j)) s → wpAny (model X.prog X.w) X.A (f (.int i t) (.int j u)) Q E s) :
    OpR X f (rI0 fun i j => .bl (g i j)) := by
  intro pins s σ H x y v u Q I rx ry h
  obtain ⟨i, j, rfl, rfl, q⟩ := h
  obtain ⟨t, rfl⟩ := rx
  obtain ⟨t', rfl⟩ := ry
  exact rule i j t t' s _ _ ⟨.bl (g i j), H, I, rfl, q⟩

def CDiv (i j : Int) : Prop := 0 < j ∧ j < 1073741824
def CDivN (i j : Int) : Prop := j ≠ 0 ∧ j.natAbs < 1073741824
def CPow (i j : Int) : Prop := 0 ≤ j ∧ j ≤ 1000000 ∧ i.natAbs < 2 ^ 64
def CMul (i j : Int) : Prop := (-(2 ^ 64) < i ∧ i < 2 ^ 64) ∨ (-(2 ^ 64) < j ∧ j < 2 ^ 64)
theorem CMul.ok {i j : Int} (h : CMul i j) : IntMulOk i j := by
  rcases h with ⟨h1, h2⟩ | ⟨h1, h2⟩
  · exact .of_left (intBits_le_64 h1 h2)
  · exact .of_right (intBits_le_64 h1 h2)
theorem two_pow_nn (k : Nat) : (0 : Int) ≤ 2 ^ k := by
  rw [two_pow_cast]
  exact Int.natCast_nonneg _

theorem op_add : OpR X (binaryOp .Add) (rI0 fun i j => .int (i + j)) := opI0 fun _ _ _ _ _ _ _ q => add_int q
theorem op_sub : OpR X (binaryOp .Sub) (rI0 fun i j => .int (i - j)) := opI0 fun _ _ _ _ _ _ _ q => sub_int q
theorem op_mul : OpR X (binaryOp .Mult) (rI CMul fun i j => .int (i * j)) := opI fun _ _ _ _ _ _ _ hc q => mul_int q hc.ok
/-- // by a positive divisor -/
theorem op_fdiv : OpR X (binaryOp .FloorDiv) (rI CDiv fun i j => .int (i / j)) := opI fun i j _ _ _ _ _ hc q => by
  have h1 : (0 : Int) < j := hc.1
  have h2 : j < 1073741824 := hc.2
  exact floordiv_int (by omega) (by rw [Int.fdiv_eq_ediv_of_nonneg i (by omega)]; exact q) (.inl (PyProof.noPylong_small (by omega)))
theorem op_fdivN : OpR X (binaryOp .FloorDiv) (rI CDivN fun i j => .int (i.fdiv j)) := opI fun _ _ _ _ _ _ _ hc q => floordiv_int hc.1 q (.inl (PyProof.noPylong_small hc.2))
/-- % by a positive divisor of any size -/
theorem op_mod : OpR X (binaryOp .Mod) (rI (fun _ j => 0 < j) fun i j => .int (i % j)) := opI fun i j _ _ _ _ _ hc q => by
  have h1 : (0 : Int) < j := hc
  exact mod_int' (by omega) (by rw [Int.fmod_eq_emod_of_nonneg i (by omega)]; exact q)
theorem op_modN : OpR X (binaryOp .Mod) (rI (fun _ j => j ≠ 0) fun i j => .int (i.fmod j)) := opI fun _ _ _ _ _ _ _ hc q => mod_int' hc q
theorem op_pow : OpR X (binaryOp .Pow) (rI CPow fun i j => .int (i ^ j.toNat)) := opI fun _ _ _ _ _ _ _ hc q => pow_int_small hc.1 hc.2.1 hc.2.2 q
theorem op_shl : OpR X (binaryOp .LShift) (rI CPow fun i j => .int (i * 2 ^ j.toNat)) := opI fun _ _ _ _ _ _ _ hc q => lshift_int_small hc.1 hc.2.1 hc.2.2 q
theorem op_shr : OpR X (binaryOp .RShift) (rI (fun _ j => 0 ≤ j) fun i j => .int (i / 2 ^ j.toNat)) := opI fun i j _ _ _ _ _ hc q =>
  rshift_int hc (by rw [Int.fdiv_eq_ediv_of_nonneg i (two_pow_nn _)]; exact q)
theorem op_and : OpR X (binaryOp .BitAnd) (rI0 fun i j => .int (Builtin.bitAnd i j)) := opI0 fun _ _ _ _ _ _ _ q => and_int q
theorem op_or : OpR X (binaryOp .BitOr) (rI0 fun i j => .int (Builtin.bitOr i j)) := opI0 fun _ _ _ _ _ _ _ q => or_int q
theorem op_xor : OpR X (binaryOp .BitXor) (rI0 fun i j => .int (Builtin.bitXor i j)) := opI0 fun _ _ _ _ _ _ _ q => xor_int q

theorem iop_add : OpR X (inplaceOp .Add) (rI0 fun i j => .int (i + j)) := opI0 fun _ _ _ _ _ _ _ q => iadd_int q
theorem iop_sub : OpR X (inplaceOp .Sub) (rI0 fun i j => .int (i - j)) := opI0 fun _ _ _ _ _ _ _ q => isub_int q
theorem iop_mul : OpR X (inplaceOp .Mult) (rI CMul fun i j => .int (i * j)) := opI fun _ _ _ _ _ _ _ hc q => imul_int q hc.ok
theorem iop_fdiv : OpR X (inplaceOp .FloorDiv) (rI CDiv fun i j => .int (i / j)) := opI fun i j _ _ _ _ _ hc q => by
  have h1 : (0 : Int) < j := hc.1
  have h2 : j < 1073741824 := hc.2
  exact ifloordiv_int (by omega) (by rw [Int.fdiv_eq_ediv_of_nonneg i (by omega)]; exact q) (.inl (PyProof.noPylong_small (by omega)))
theorem iop_mod : OpR X (inplaceOp .Mod) (rI (fun _ j => 0 < j) fun i j => .int (i % j)) := opI fun i j _ _ _ _ _ hc q => by
  have h1 : (0 : Int) < j := hc
  exact imod_int (by omega) (by rw [Int.fmod_eq_emod_of_nonneg i (by omega)]; exact q)
theorem iop_shl : OpR X (inplaceOp .LShift) (rI CPow fun i j => .int (i * 2 ^ j.toNat)) := opI fun _ _ _ _ _ _ _ hc q => ilshift_int_small hc.1 hc.2.1 hc.2.2 q
theorem iop_shr : OpR X (inplaceOp .RShift) (rI (fun _ j => 0 ≤ j) fun i j => .int (i / 2 ^ j.toNat)) := opI fun i j _ _ _ _ _ hc q =>
  irshift_int hc (by rw [Int.fdiv_eq_ediv_of_nonneg i (two_pow_nn _)]; exact q)
theorem iop_and : OpR X (inplaceOp .BitAnd) (rI0 fun i j => .int (Builtin.bitAnd i j)) := opI0 fun _ _ _ _ _ _ _ q => iand_int q
theorem iop_or : OpR X (inplaceOp .BitOr) (rI0 fun i j => .int (Builtin.bitOr i j)) := opI0 fun _ _ _ _ _ _ _ q => ior_int q
theorem iop_xor : OpR X (inplaceOp .BitXor) (rI0 fun i j => .int (Builtin.bitXor i j)) := opI0 fun _ _ _ _ _ _ _ q => ixor_int q

theorem unI {f : Value → Sem Value} {g : Int → Int}
    (rule : ∀ (i : Int) (t : Tok) (s : Shared) (Q : Value → Shared → Prop) (E : Value → Shared → Prop), Q (.int (g i) s.toks) { s with toks := s.toks + 1 } → wpAny (model X.prog X.w) X.A (f (.int i t)) Q E s) :
    UnR X f (rU fun i => .int (g i)) := by
  intro pins s σ H x v Q I rx h
  obtain ⟨i, rfl, q⟩ := h
  obtain ⟨t, rfl⟩ := rx
  exact rule i t s _ _ ⟨.int (g i), H, I.tok _, ⟨_, rfl⟩, q⟩
theorem un_neg : UnR X (unaryOp .USub) (rU fun i => .int (-i)) := unI fun _ _ _ _ _ q => neg_int q
theorem un_inv : UnR X (unaryOp .Invert) (rU fun i => .int (Builtin.bitNot i)) := unI fun _ _ _ _ _ q => invert_int q

/-! ### bools among ints: n += (a < b) -/
theorem op_add_ib : OpR X (binaryOp .Add) (fun x y H Q => ∃ i k, x = .int i ∧ y = .bl k ∧ Q (.int (i + b2i k)) H) := by
  intro pins s σ H x y v u Q I rx ry h
  obtain ⟨i, k, rfl, rfl, q⟩ := h
  obtain ⟨t, rfl⟩ := rx
  cases ry
  exact add_int_bool ⟨.int (i + b2i k), H, I.tok _, ⟨_, rfl⟩, q⟩
end

/-! ### comparisons -/
/-- the scalars that == tells apart as data does -/
def scal : V → V → Bool
  | .non, .non => true | .non, .int _ => true | .int _, .non => true | .non, .bl _ => true | .bl _, .non => true | .non, .str _ => true | .str _, .non => true
  | .int _, .int _ => true | .bl _, .bl _ => true | .str _, .str _ => true | .byt _, .byt _ => true
  | .int _, .str _ => true | .str _, .int _ => true | .bl _, .str _ => true | .str _, .bl _ => true
  | _, _ => false
def rEq : R2 := fun x y H Q => scal x y = true ∧ Q (.bl (decide (x = y))) H
def rNe : R2 := fun x y H Q => scal x y = true ∧ Q (.bl (!decide (x = y))) H

theorem dec_int {i j : Int} : decide (V.int i = V.int j) = (i == j) := by
  rw [Bool.eq_iff_iff]
  simp
theorem dec_bl {i j : Bool} : decide (V.bl i = V.bl j) = (i == j) := by
  rw [Bool.eq_iff_iff]
  simp
theorem dec_str {i j : Str} : decide (V.str i = V.str j) = (i == j) := by
  rw [Bool.eq_iff_iff]
  simp
theorem dec_byt {i j : Array UInt8} : decide (V.byt i = V.byt j) = (i.toList == j.toList) := by
  rw [Bool.eq_iff_iff]
  cases i
  cases j
  simp

section
variable {X : Cx} {a b c : Expr} {ta tb tc : TE} {pos : Pos}
theorem fin_bl {pins : List (Addr × Obj)} {σ : St} {H : Hp} {s : Shared} {Q : VK} {k k' : Bool} (I : Inv X pins σ H s) (q : Q (.bl k) H) (e : k = k') : EP X pins σ Q (.bool k') s := by
  subst e
  exact ⟨.bl k, H, I, rfl, q⟩
theorem op_eq : OpR X (compareOp .Eq) rEq := by
  intro pins s σ H x y v u Q I rx ry h
  obtain ⟨hs, q⟩ := h
  cases x with
  | non =>
    cases rx
    cases y with
    | non => cases ry; exact PySem.EqNone.eq_none_none (fin_bl I q (by simp))
    | bl j => cases ry; exact PySem.EqNone.eq_none_bool (fin_bl I q (by simp))
    | int j => obtain ⟨t', rfl⟩ := ry; exact PySem.EqNone.eq_none_int (fin_bl I q (by simp))
    | str j => obtain ⟨t', rfl⟩ := ry; exact PySem.EqNone.eq_none_str (fin_bl I q (by simp))
    | _ => exact absurd (show false = true from hs) Bool.false_ne_true
  | bl i =>
    cases rx
    cases y with
    | non => cases ry; exact PySem.EqNone.eq_bool_none (fin_bl I q (by simp))
    | bl j => cases ry; exact eq_bool (fin_bl I q dec_bl)
    | str j => obtain ⟨t', rfl⟩ := ry; exact PySem.EqMixed.eq_bool_str (fin_bl I q (by simp))
    | _ => exact absurd (show false = true from hs) Bool.false_ne_true
  | int i =>
    obtain ⟨t, rfl⟩ := rx
    cases y with
    | non => cases ry; exact PySem.EqNone.eq_int_none (fin_bl I q (by simp))
    | int j => obtain ⟨t', rfl⟩ := ry; exact eq_int (fin_bl I q dec_int)
    | str j => obtain ⟨t', rfl⟩ := ry; exact PySem.EqMixed.eq_int_str (fin_bl I q (by simp))
    | _ => exact absurd (show false = true from hs) Bool.false_ne_true
  | str i =>
    obtain ⟨t, rfl⟩ := rx
    cases y with
    | non => cases ry; exact PySem.EqNone.eq_str_none (fin_bl I q (by simp))
    | bl j => cases ry; exact PySem.EqMixed.eq_str_bool (fin_bl I q (by simp))
    | int j => obtain ⟨t', rfl⟩ := ry; exact PySem.EqMixed.eq_str_int (fin_bl I q (by simp))
    | str j => obtain ⟨t', rfl⟩ := ry; exact eq_str (fin_bl I q dec_str)
    | _ => exact absurd (show false = true from hs) Bool.false_ne_true
  | byt i =>
    obtain ⟨t, rfl⟩ := rx
    cases y with
    | byt j => obtain ⟨t', rfl⟩ := ry; exact PySem.W.eq_bytes (fin_bl I q dec_byt)
    | _ => exact absurd (show false = true from hs) Bool.false_ne_true
  | _ => cases y <;> exact absurd (show false = true from hs) Bool.false_ne_true
theorem op_ne : OpR X (compareOp .NotEq) rNe := by
  intro pins s σ H x y v u Q I rx ry h
  obtain ⟨hs, q⟩ := h
  cases x with
  | non =>
    cases rx
    cases y with
    | non => cases ry; exact PySem.EqNone.ne_none_none (fin_bl I q (by simp))
    | bl j => cases ry; exact PySem.EqNone.ne_none_bool (fin_bl I q (by simp))
    | int j => obtain ⟨t', rfl⟩ := ry; exact PySem.EqNone.ne_none_int (fin_bl I q (by simp))
    | str j => obtain ⟨t', rfl⟩ := ry; exact PySem.EqNone.ne_none_str (fin_bl I q (by simp))
    | _ => exact absurd (show false = true from hs) Bool.false_ne_true
  | bl i =>
    cases rx
    cases y with
    | non => cases ry; exact PySem.EqNone.ne_bool_none (fin_bl I q (by simp))
    | bl j => cases ry; exact ne_bool (fin_bl I q (congrArg not dec_bl))
    | str j => obtain ⟨t', rfl⟩ := ry; exact PySem.EqMixed.ne_bool_str (fin_bl I q (by simp))
    | _ => exact absurd (show false = true from hs) Bool.false_ne_true
  | int i =>
    obtain ⟨t, rfl⟩ := rx
    cases y with
    | non => cases ry; exact PySem.EqNone.ne_int_none (fin_bl I q (by simp))
    | int j => obtain ⟨t', rfl⟩ := ry; exact ne_int (fin_bl I q (congrArg not dec_int))
    | str j => obtain ⟨t', rfl⟩ := ry; exact PySem.EqMixed.ne_int_str (fin_bl I q (by simp))
    | _ => exact absurd (show false = true from hs) Bool.false_ne_true
  | str i =>
    obtain ⟨t, rfl⟩ := rx
    cases y with
    | non => cases ry; exact PySem.EqNone.ne_str_none (fin_bl I q (by simp))
    | bl j => cases ry; exact PySem.EqMixed.ne_str_bool (fin_bl I q (by simp))
    | int j => obtain ⟨t', rfl⟩ := ry; exact PySem.EqMixed.ne_str_int (fin_bl I q (by simp))
    | str j => obtain ⟨t', rfl⟩ := ry; exact ne_str (fin_bl I q (congrArg not dec_str))
    | _ => exact absurd (show false = true from hs) Bool.false_ne_true
  | byt i =>
    obtain ⟨t, rfl⟩ := rx
    cases y with
    | byt j => obtain ⟨t', rfl⟩ := ry; exact PySem.W.ne_bytes (fin_bl I q (congrArg not dec_byt))
    | _ => exact absurd (show false = true from hs) Bool.false_ne_true
  | _ => cases y <;> exact absurd (show false = true from hs) Bool.false_ne_true

theorem op_lt : OpR X (compareOp .Lt) (rI0 fun i j => .bl (decide (i < j))) := opB0 fun _ _ _ _ _ _ _ q => lt_int q
theorem op_le : OpR X (compareOp .LtE) (rI0 fun i j => .bl (decide (i ≤ j))) := opB0 fun _ _ _ _ _ _ _ q => le_int q
theorem op_gt : OpR X (compareOp .Gt) (rI0 fun i j => .bl (decide (j < i))) := opB0 fun _ _ _ _ _ _ _ q => gt_int q
theorem op_ge : OpR X (compareOp .GtE) (rI0 fun i j => .bl (decide (j ≤ i))) := opB0 fun _ _ _ _ _ _ _ q => ge_int q
theorem op_lt_str : OpR X (compareOp .Lt) (fun x y H Q => ∃ i j, x = .str i ∧ y = .str j ∧ Q (.bl (decide (i.cps.toList < j.cps.toList))) H) := by
  intro pins s σ H x y v u Q I rx ry h
  obtain ⟨i, j, rfl, rfl, q⟩ := h
  obtain ⟨t, rfl⟩ := rx
  obtain ⟨t', rfl⟩ := ry
  exact lt_str (fin_bl I q rfl)
/-- the one string within the other -/
theorem op_in_str : OpR X (compareOp .In) (fun x y H Q => ∃ i j, x = .str i ∧ y = .str j ∧ Q (.bl (!(Builtin.Str.occurrences j i 0 j.length 1).isEmpty)) H) := by
  intro pins s σ H x y v u Q I rx ry h
  obtain ⟨i, j, rfl, rfl, q⟩ := h
  obtain ⟨t, rfl⟩ := rx
  obtain ⟨t', rfl⟩ := ry
  exact in_str (fin_bl I q rfl)

/-- is None, is not None: the right side a value none -/
theorem op_isN : OpR X (compareOp .Is) (fun x y H Q => y = .non ∧ Q (.bl (decide (x = .non))) H) := by
  intro pins s σ H x y v u Q I rx ry h
  obtain ⟨rfl, q⟩ := h
  cases ry
  refine is_none_gen (fin_bl I q ?_)
  cases x <;> first
    | (cases rx; rfl)
    | (obtain ⟨t, rfl⟩ := rx; rfl)
theorem op_notN : OpR X (compareOp .IsNot) (fun x y H Q => y = .non ∧ Q (.bl (!decide (x = .non))) H) := by
  intro pins s σ H x y v u Q I rx ry h
  obtain ⟨rfl, q⟩ := h
  cases ry
  refine isnot_none_gen (fin_bl I q ?_)
  cases x <;> first
    | (cases rx; rfl)
    | (obtain ⟨t, rfl⟩ := rx; rfl)

theorem op_notin_str : OpR X (compareOp .NotIn) (fun x y H Q => ∃ i j, x = .str i ∧ y = .str j ∧ Q (.bl (!(!(Builtin.Str.occurrences j i 0 j.length 1).isEmpty))) H) := by
  intro pins s σ H x y v u Q I rx ry h
  obtain ⟨i, j, rfl, rfl, q⟩ := h
  obtain ⟨t, rfl⟩ := rx
  obtain ⟨t', rfl⟩ := ry
  exact notIn_str (fin_bl I q rfl)
/-- is, is not of two objects that are tracked lists or instances -/
def isObj : HO → Bool
  | .lst _ => true
  | .ins _ _ _ => true
  | _ => false
theorem obj_there {pins : List (Addr × Obj)} {s : Shared} {σ : St} {H : Hp} {a : Addr} {o : HO} (I : Inv X pins σ H s) (h : H a = some o) (p : isObj o = true) : ∃ ob, s.heap.get? a = some ob ∧ ob.cls ≠ .type "tuple" := by
  cases o with
  | lst xs =>
    obtain ⟨_, its, n, _, e⟩ : xs.length ≤ sizeLine ∧ ∃ (its : List Value) (n : Nat), Vals xs its ∧ s.heap.get? a = some { cls := .type "list", data := .seq its.toArray n } := I.hok a _ h
    exact ⟨_, e, (by show Value.type "list" ≠ .type "tuple"; decide +kernel)⟩
  | ins C dx fs =>
    have x := I.hok a _ h
    obtain ⟨_, _, _, e, _⟩ := x
    exact ⟨_, e, (by show Value.ref C ≠ .type "tuple"; exact fun z => by cases z)⟩
  | _ => exact absurd (show false = true from p) Bool.false_ne_true
theorem op_is_ref : OpR X (compareOp .Is) (fun x y H Q => ∃ a b oa ob, x = .ref a ∧ y = .ref b ∧ H a = some oa ∧ isObj oa = true ∧ H b = some ob ∧ isObj ob = true ∧ Q (.bl (decide (a = b))) H) := by
  intro pins s σ H x y v u Q I rx ry h
  obtain ⟨a, b, oa, ob, rfl, rfl, ha, pa, hb, pb, q⟩ := h
  cases rx
  cases ry
  obtain ⟨o1, e1, n1⟩ := obj_there I ha pa
  obtain ⟨o2, e2, _⟩ := obj_there I hb pb
  by_cases z : a = b
  · subst z
    exact wpAny_is_ref_self (fin_bl I q (by simp))
  · exact wpAny_is_ref_other z e1 e2 n1 (fin_bl I q (by simp [z]))
theorem op_isnot_ref : OpR X (compareOp .IsNot) (fun x y H Q => ∃ a b oa ob, x = .ref a ∧ y = .ref b ∧ H a = some oa ∧ isObj oa = true ∧ H b = some ob ∧ isObj ob = true ∧ Q (.bl (!decide (a = b))) H) := by
  intro pins s σ H x y v u Q I rx ry h
  obtain ⟨a, b, oa, ob, rfl, rfl, ha, pa, hb, pb, q⟩ := h
  cases rx
  cases ry
  obtain ⟨o1, e1, n1⟩ := obj_there I ha pa
  obtain ⟨o2, e2, _⟩ := obj_there I hb pb
  by_cases z : a = b
  · subst z
    exact wpAny_isNot_ref_self (fin_bl I q (by simp))
  · exact wpAny_isNot_ref_other z e1 e2 n1 (fin_bl I q (by simp [z]))

/-- two rules for one operation: by cases -/
theorem OpR.or {f : Value → Value → Sem Value} {r r' : R2} (h : OpR X f r) (h' : OpR X f r') : OpR X f (fun x y H Q => r x y H Q ∨ r' x y H Q) := by
  intro pins s σ H x y v u Q I rx ry q
  rcases q with q | q
  · exact h pins s σ H x y v u Q I rx ry q
  · exact h' pins s σ H x y v u Q I rx ry q

theorem nomark (b : Expr) {op : CmpOp} (h : op ≠ .In := by decide) (h2 : op ≠ .NotIn := by decide) : behindInMarks op b = false := by
  have e1 : (op == CmpOp.In) = false := by cases op <;> first | rfl | exact absurd rfl h
  have e2 : (op == CmpOp.NotIn) = false := by cases op <;> first | rfl | exact absurd rfl h2
  cases b <;> simp [behindInMarks, e1, e2]
/-- a comparison as a value; hm: nomark b, or (for in, not in) by with_unfolding_all rfl -/
theorem pe_cmpR {op : CmpOp} {r : R2} (ho : OpR X (compareOp op) r) (ha : PE X a ta) (hb : PE X b tb) (hm : behindInMarks op b = false) : PE X (.Compare a [op] [b] pos) (tOp r ta tb) := by
  intro pins s σ H Q I h
  exact wpAny_Compare1 (binT ha hb I h fun v u s2 x y H2 I2 rx ry q => ho pins s2 σ H2 x y v u Q I2 rx ry q) hm
/-- a reading of a value as a test -/
def tTest (t : TE) : TT := fun σ H Q => t σ H fun x H' => ∃ k, x = .bl k ∧ Q k H'
theorem pt_cmpR {op : CmpOp} {r : R2} (ho : OpR X (compareOp op) r) (ha : PE X a ta) (hb : PE X b tb) (hm : behindInMarks op b = false) : PT X (.Compare a [op] [b] pos) (tTest (tOp r ta tb)) := by
  intro pins s σ H Q I h
  refine wpAny_isTrue_Compare1 (thn (ha pins s σ H _ I h) fun v s1 ⟨x, H1, I1, r1, q1⟩ => thn (hb pins s1 σ H1 _ I1 q1) fun u s2 ⟨y, H2, I2, r2, q2⟩ =>
    thn (ho pins s2 σ H2 x y v u _ I2 r1 r2 q2) fun c s3 ⟨z, H3, I3, r3, k, e, q3⟩ => ?_) hm
  subst e
  cases r3
  exact wpAny_truthy_bool ⟨H3, I3, q3⟩
/-- a op1 b op2 c -/
def tChain (r r' : R2) (ta tb tc : TE) : TE := fun σ H Q => ta σ H fun x H1 => tb σ H1 fun y H2 => r x y H2 fun z H3 => ∃ k, z = .bl k ∧
  (if k = true then tc σ H3 fun w' H4 => r' y w' H4 Q else Q (.bl false) H3)
theorem pe_chain {op op' : CmpOp} {r r' : R2} (ho : OpR X (compareOp op) r) (ho' : OpR X (compareOp op') r') (ha : PE X a ta) (hb : PE X b tb) (hc : PE X c tc)
    (hm : lastMarks [op, op'] [b, c] = false := by with_unfolding_all rfl) : PE X (.Compare a [op, op'] [b, c] pos) (tChain r r' ta tb tc) := by
  intro pins s σ H Q I h
  refine Compare_chain (thn (ha pins s σ H _ I h) fun v s1 ⟨x, H1, I1, r1, q1⟩ => chain_link (thn (hb pins s1 σ H1 _ I1 q1) fun u s2 ⟨y, H2, I2, r2, q2⟩ =>
    thn (ho pins s2 σ H2 x y v u _ I2 r1 r2 q2) fun d s3 ⟨z, H3, I3, r3, k, e, q3⟩ => ?_)) hm
  subst e
  cases r3
  refine wpAny_truthy_bool ?_
  cases k with
  | false => exact ite_ff ⟨.bl false, H3, I3, rfl, q3⟩
  | true => exact ite_tt (chain_last (thn (hc pins s3 σ H3 _ I3 q3) fun w' s4 ⟨z', H4, I4, r4, q4⟩ => ho' pins s4 σ H4 y z' u w' Q I4 r2 r4 q4))
theorem pt_chain {op op' : CmpOp} {r r' : R2} (ho : OpR X (compareOp op) r) (ho' : OpR X (compareOp op') r') (ha : PE X a ta) (hb : PE X b tb) (hc : PE X c tc)
    (hm : lastMarks [op, op'] [b, c] = false := by with_unfolding_all rfl) : PT X (.Compare a [op, op'] [b, c] pos) (tTest (tChain r r' ta tb tc)) := by
  intro pins s σ H Q I h
  refine isTrue_chain (thn (ha pins s σ H _ I h) fun v s1 ⟨x, H1, I1, r1, q1⟩ => test_link (thn (hb pins s1 σ H1 _ I1 q1) fun u s2 ⟨y, H2, I2, r2, q2⟩ =>
    thn (ho pins s2 σ H2 x y v u _ I2 r1 r2 q2) fun d s3 ⟨z, H3, I3, r3, k, e, q3⟩ => ?_)) hm
  subst e
  cases r3
  refine wpAny_truthy_bool ?_
  cases k with
  | false =>
    obtain ⟨k', e', q'⟩ := q3
    cases e'
    exact ite_ff ⟨H3, I3, q'⟩
  | true =>
    refine ite_tt (test_last (thn (hc pins s3 σ H3 _ I3 q3) fun w' s4 ⟨z', H4, I4, r4, q4⟩ => thn (ho' pins s4 σ H4 y z' u w' _ I4 r2 r4 q4) fun d' s5 ⟨z2, H5, I5, r5, k2, e2, q5⟩ => ?_))
    subst e2
    cases r5
    exact wpAny_truthy_bool ⟨H5, I5, q5⟩

/-! ### truth -/
/-- a value's truth by the abstract heap -/
def TruV (K : PySem.W.Frag) (x : V) (H : Hp) (k : Bool) : Prop :=
  match x with
  | .non => k = false
  | .bl b => k = b
  | .int i => k = (i != 0)
  | .str y => y.length ≤ sizeLine ∧ k = ((y.length : Int) != 0)
  | .byt y => y.size ≤ sizeLine ∧ k = ((y.size : Int) != 0)
  | .ref p => (∃ xs, SqL K H p xs ∧ k = !xs.isEmpty) ∨ (∃ xs, SqT K H p xs ∧ k = !xs.isEmpty) ∨ ∃ kvs, H p = some (.dK kvs) ∧ k = !kvs.isEmpty
  | _ => False
theorem isEmpty_kv {κ : Type} {kvs : List (κ × V)} {vs : List (κ × Value)} (r : KV kvs vs) : (!vs.isEmpty) = !kvs.isEmpty := by
  cases r <;> rfl
theorem isEmpty_of {xs : List V} {its : List Value} (r : Vals xs its) : (!its.toArray.isEmpty) = !xs.isEmpty := by
  cases r <;> simp
theorem line63 : (sizeLine : Nat) < 2 ^ 63 := by rw [sizeLine_eq]; decide
theorem tru_ok : TruR X (fun x H Q => ∃ k, TruV X.K x H k ∧ Q k H) := by
  intro pins s σ H x v Q I rx h
  obtain ⟨k, e, q⟩ := h
  have hl := line63
  have hs : sizeLine = 16777216 := sizeLine_eq
  cases x with
  | non =>
    cases rx
    have e' : k = false := e
    subst e'
    exact truthy_none ⟨H, I, q⟩
  | bl b =>
    cases rx
    have e' : k = b := e
    subst e'
    exact wpAny_truthy_bool ⟨H, I, q⟩
  | int i =>
    obtain ⟨t, rfl⟩ := rx
    have e' : k = (i != 0) := e
    subst e'
    exact PySem.P.truthy_int ⟨H, I, q⟩
  | str y =>
    obtain ⟨t, rfl⟩ := rx
    obtain ⟨hy, e'⟩ : y.length ≤ sizeLine ∧ k = ((y.length : Int) != 0) := e
    subst e'
    exact PySem.P.truthy_str (by omega) ⟨H, I.tok _, q⟩
  | byt y =>
    obtain ⟨t, rfl⟩ := rx
    obtain ⟨hy, e'⟩ : y.size ≤ sizeLine ∧ k = ((y.size : Int) != 0) := e
    subst e'
    exact PySem.W.truthy_bytes (by omega) ⟨H, I.tok _, q⟩
  | ref p =>
    cases rx
    have e' : (∃ xs, SqL X.K H p xs ∧ k = !xs.isEmpty) ∨ (∃ xs, SqT X.K H p xs ∧ k = !xs.isEmpty) ∨ ∃ kvs, H p = some (.dK kvs) ∧ k = !kvs.isEmpty := e
    rcases e' with ⟨xs, hx, e'⟩ | ⟨xs, hx, e'⟩ | ⟨kvs, hx, e'⟩
    · subst e'
      obtain ⟨its, r, pl, hz⟩ := I.list hx
      have hlen := r.length
      exact wpAny_truthy_list pl.isList (by simp only [List.size_toArray]; omega) ⟨H, I.tok _, by rw [isEmpty_of r]; exact q⟩
    · subst e'
      obtain ⟨its, r, pl, hz⟩ := I.tuple hx
      have hlen := r.length
      exact truthy_tuple pl (by simp only [List.size_toArray]; omega) ⟨H, I.tok _, by rw [isEmpty_of r]; exact q⟩
    · subst e'
      obtain ⟨hz, hS, vs, r, m⟩ : kvs.length ≤ sizeLine ∧ (p == sysModules) = false ∧ ∃ vs, KV kvs vs ∧ s.heap.DictOf (mixKind X.prog X.w) p vs := I.hok p _ hx
      have hlen : kvs.length = vs.length := Paired.length r
      exact wpAny_truthy_dict hS m (by omega) ⟨H, I.tok _, by rw [isEmpty_kv r]; exact q⟩
  | _ => exact (show False from e).elim
/-- any expression whose test is its value's truth (a name, a call, a subscript, a field ..: he by fun _ => rfl) -/
theorem pt_truth (ha : PE X a ta) (he : ∀ whole, isTrue a X.env whole = (do let v ← whole; standAt a.pos; holding [v] (truthy v))) :
    PT X a (fun σ H Q => ta σ H fun x H' => ∃ k, TruV X.K x H' k ∧ Q k H') := by
  intro pins s σ H Q I h
  exact isTrue_plain (thn (ha pins s σ H _ I h) fun v s1 ⟨x, H1, I1, r1, q1⟩ => tru_ok pins s1 σ H1 x v Q I1 r1 q1) (he _)

/-! ### strs and bytes -/
theorem pe_byt {x : List UInt8} {k : Nat} : PE X (.Constant (.bytes x) k pos) (fun _ H Q => Q (.byt x.toArray) H) := fun _ _ _ H _ I h => PySem.W.Constant_bytes ⟨.byt x.toArray, H, I.tok _, ⟨_, rfl⟩, h⟩
theorem op_add_str : OpR X (binaryOp .Add) (fun x y H Q => ∃ i j, x = .str i ∧ y = .str j ∧ i.length + j.length ≤ sizeLine ∧ Q (.str (i ++ j)) H) := by
  intro pins s σ H x y v u Q I rx ry h
  obtain ⟨i, j, rfl, rfl, hz, q⟩ := h
  obtain ⟨t, rfl⟩ := rx
  obtain ⟨t', rfl⟩ := ry
  exact add_str (fun t' tk => ⟨.str (i ++ j), H, I.tok _, ⟨_, rfl⟩, q⟩) hz
theorem iop_add_str : OpR X (inplaceOp .Add) (fun x y H Q => ∃ i j, x = .str i ∧ y = .str j ∧ i.length + j.length ≤ sizeLine ∧ Q (.str (i ++ j)) H) := by
  intro pins s σ H x y v u Q I rx ry h
  obtain ⟨i, j, rfl, rfl, hz, q⟩ := h
  obtain ⟨t, rfl⟩ := rx
  obtain ⟨t', rfl⟩ := ry
  exact iadd_str (fun t' tk => ⟨.str (i ++ j), H, I.tok _, ⟨_, rfl⟩, q⟩) hz
theorem op_add_byt : OpR X (binaryOp .Add) (fun x y H Q => ∃ i j, x = .byt i ∧ y = .byt j ∧ i.size + j.size ≤ 16777216 ∧ Q (.byt (i ++ j)) H) := by
  intro pins s σ H x y v u Q I rx ry h
  obtain ⟨i, j, rfl, rfl, hz, q⟩ := h
  obtain ⟨t, rfl⟩ := rx
  obtain ⟨t', rfl⟩ := ry
  exact PySem.W.KBy.add_bytes hz (fun t' tk => ⟨.byt (i ++ j), H, I.tok _, ⟨_, rfl⟩, q⟩)

def PlainIxT (b : Expr) : Prop := ∀ o i, subscripted b false o i = operate [o, i] (getItem o i)
/-- s[i], 0 ≤ i < len -/
theorem pe_item_str (ha : PE X a ta) (hb : PE X b tb) (hs : PlainIxT b) :
    PE X (.Subscript a b pos) (tOp (fun x y H Q => ∃ z i c, x = .str z ∧ y = .int i ∧ 0 ≤ i ∧ i < 2 ^ 63 ∧ i < z.length ∧ z.cps[i.toNat]? = some c ∧ Q (.str ⟨#[c]⟩) H) ta tb) := by
  intro pins s σ H Q I h
  refine Subscript_ (binT ha hb I h fun v u s2 x y H2 I2 rx ry q => ?_)
  obtain ⟨z, i, c, rfl, rfl, h0, h63, h1, hc, q⟩ := q
  obtain ⟨t, rfl⟩ := rx
  obtain ⟨t', rfl⟩ := ry
  have e : seqIndex? i z.length = some i.toNat := PySem.StrLaws.seqIndex_nonneg h0 h1
  exact tail_any (typeIs_str s2 z t) slot_str_getitem.lookup (getItem_str (c := c) (by
    have e1 : decide (i < -(2 ^ 63 : Int)) = false := decide_eq_false (by omega)
    have e2 : decide (i ≥ 2 ^ 63) = false := decide_eq_false (by omega)
    rw [e1, e2] <;> rfl) (by rw [e]; exact hc) ⟨.str ⟨#[c]⟩, H2, I2.tok _, ⟨_, rfl⟩, q⟩) (hs _ _)
/-- b[i], 0 ≤ i < len -/
theorem pe_item_byt (ha : PE X a ta) (hb : PE X b tb) (hs : PlainIxT b) :
    PE X (.Subscript a b pos) (tOp (fun x y H Q => ∃ (z : List UInt8) (i : Int), x = .byt z.toArray ∧ y = .int i ∧ z.length ≤ sizeLine ∧ 0 ≤ i ∧ i < z.length ∧ Q (.int ((z.getD i.toNat 0).toNat : Nat)) H) ta tb) := by
  intro pins s σ H Q I h
  refine Subscript_ (binT ha hb I h fun v u s2 x y H2 I2 rx ry q => ?_)
  obtain ⟨z, i, rfl, rfl, hz, h0, h1, q⟩ := q
  obtain ⟨t, rfl⟩ := rx
  obtain ⟨t', rfl⟩ := ry
  have hl : sizeLine = 16777216 := sizeLine_eq
  exact tail_any (PySem.W.typeIs_bytes s2 z.toArray t) PySem.W.FB.slot_bytes_getitem.lookup (PySem.W.getItem_bytes (by omega) h0 h1 ⟨.int ((z.getD i.toNat 0).toNat : Nat), H2, I2.tok _, ⟨_, rfl⟩, q⟩) (hs _ _)

/-! ### scalar builtins, by CallR -/
theorem vals1 {x : V} {us : List Value} (r : Vals [x] us) : ∃ u, us = [u] ∧ RelV x u := by
  cases r with
  | cons r1 r2 => cases r2; exact ⟨_, rfl, r1⟩
theorem vals2 {x y : V} {us : List Value} (r : Vals [x, y] us) : ∃ u w', us = [u, w'] ∧ RelV x u ∧ RelV y w' := by
  cases r with
  | cons r1 r2 =>
    cases r2 with
    | cons r3 r4 => cases r4; exact ⟨_, _, rfl, r1, r3⟩
theorem call_abs : CallR X (.builtin "abs") (fun xs H Q => ∃ i, xs = [.int i] ∧ Q (.int (if i < 0 then -i else i)) H) := by
  intro pins s σ H xs us Q I r h
  obtain ⟨i, rfl, q⟩ := h
  obtain ⟨u, rfl, t, rfl⟩ := vals1 r
  exact call_abs_int fun u tk => ⟨.int (if i < 0 then -i else i), H, I.tok _, ⟨_, rfl⟩, q⟩
theorem call_max2 (hc : X.calm = true) : CallR X (.builtin "max") (fun xs H Q => ∃ i j, xs = [.int i, .int j] ∧ Q (.int (if j > i then j else i)) H) := by
  intro pins s σ H xs us Q I r h
  obtain ⟨i, j, rfl, q⟩ := h
  obtain ⟨u, w', rfl, ⟨t, rfl⟩, ⟨t', rfl⟩⟩ := vals2 r
  refine max_two_ints (I.ok.hd hc) fun h' tk k => ⟨_, H, I.kept k, ?_, q⟩
  by_cases hj : j > i
  · rw [if_pos hj, if_pos hj]; exact ⟨_, rfl⟩
  · rw [if_neg hj, if_neg hj]; exact ⟨_, rfl⟩
theorem call_min2 (hc : X.calm = true) : CallR X (.builtin "min") (fun xs H Q => ∃ i j, xs = [.int i, .int j] ∧ Q (.int (if j < i then j else i)) H) := by
  intro pins s σ H xs us Q I r h
  obtain ⟨i, j, rfl, q⟩ := h
  obtain ⟨u, w', rfl, ⟨t, rfl⟩, ⟨t', rfl⟩⟩ := vals2 r
  refine min_two_ints (I.ok.hd hc) fun h' tk k => ⟨_, H, I.kept k, ?_, q⟩
  by_cases hj : j < i
  · rw [if_pos hj, if_pos hj]; exact ⟨_, rfl⟩
  · rw [if_neg hj, if_neg hj]; exact ⟨_, rfl⟩
theorem call_int1 : CallR X (.type "int") (fun xs H Q => (∃ i, xs = [.int i] ∧ Q (.int i) H) ∨ ∃ k, xs = [.bl k] ∧ Q (.int (if k then 1 else 0)) H) := by
  intro pins s σ H xs us Q I r h
  rcases h with ⟨i, rfl, q⟩ | ⟨k, rfl, q⟩
  · obtain ⟨u, rfl, t, rfl⟩ := vals1 r
    exact call_int_int ⟨.int i, H, I, ⟨_, rfl⟩, q⟩
  · obtain ⟨u, rfl, r1⟩ := vals1 r
    cases r1
    exact call_int_bool ⟨.int (if k then 1 else 0), H, I.tok _, ⟨_, rfl⟩, q⟩
theorem call_bool1 : CallR X (.type "bool") (fun xs H Q => (∃ i, xs = [.int i] ∧ Q (.bl (i != 0)) H) ∨ ∃ k, xs = [.bl k] ∧ Q (.bl k) H) := by
  intro pins s σ H xs us Q I r h
  rcases h with ⟨i, rfl, q⟩ | ⟨k, rfl, q⟩
  · obtain ⟨u, rfl, t, rfl⟩ := vals1 r
    exact call_bool_int ⟨.bl (i != 0), H, I, rfl, q⟩
  · obtain ⟨u, rfl, r1⟩ := vals1 r
    cases r1
    exact call_bool_bool ⟨.bl k, H, I, rfl, q⟩
theorem call_str_int : CallR X (.type "str") (fun xs H Q => ∃ i, xs = [.int i] ∧ i.natAbs.log2 < 1920 ∧ Q (.str (toString i)) H) := by
  intro pins s σ H xs us Q I r h
  obtain ⟨i, rfl, hz, q⟩ := h
  obtain ⟨u, rfl, t, rfl⟩ := vals1 r
  exact PySem.P.str_of_int hz ⟨.str _, H, I.tok _, ⟨_, rfl⟩, q⟩
theorem call_ord : CallR X (.builtin "ord") (fun xs H Q => ∃ x, xs = [.str x] ∧ x.length = 1 ∧ Q (.int (x.cps.getD 0 0 : Nat)) H) := by
  intro pins s σ H xs us Q I r h
  obtain ⟨x, rfl, hz, q⟩ := h
  obtain ⟨u, rfl, t, rfl⟩ := vals1 r
  exact ord_of_one hz ⟨.int _, H, I.tok _, ⟨_, rfl⟩, q⟩
theorem call_chr : CallR X (.builtin "chr") (fun xs H Q => ∃ i, xs = [.int i] ∧ 0 ≤ i ∧ i ≤ 1114111 ∧ Q (.str ⟨#[i.toNat]⟩) H) := by
  intro pins s σ H xs us Q I r h
  obtain ⟨i, rfl, h0, h1, q⟩ := h
  obtain ⟨u, rfl, t, rfl⟩ := vals1 r
  exact chr_of_range h0 h1 ⟨.str _, H, I.tok _, ⟨_, rfl⟩, q⟩
/-- len of a str, a bytes, a list, a tuple -/
def LenV (K : PySem.W.Frag) (x : V) (H : Hp) (n : Nat) : Prop :=
  match x with
  | .str y => y.length ≤ sizeLine ∧ n = y.length
  | .byt y => y.size ≤ sizeLine ∧ n = y.size
  | .ref p => (∃ xs, SqL K H p xs ∧ n = xs.length) ∨ ∃ xs, SqT K H p xs ∧ n = xs.length
  | _ => False
theorem call_len : CallR X (.builtin "len") (fun xs H Q => ∃ x n, xs = [x] ∧ LenV X.K x H n ∧ Q (.int n) H) := by
  intro pins s σ H xs us Q I r h
  obtain ⟨x, n, rfl, e, q⟩ := h
  obtain ⟨u, rfl, rx⟩ := vals1 r
  have hl := line63
  have hs : sizeLine = 16777216 := sizeLine_eq
  cases x with
  | str y =>
    obtain ⟨t, rfl⟩ := rx
    obtain ⟨hy, e'⟩ : y.length ≤ sizeLine ∧ n = y.length := e
    subst e'
    exact len_str (by omega) ⟨.int _, H, I.tok _, ⟨_, rfl⟩, q⟩
  | byt y =>
    obtain ⟨t, rfl⟩ := rx
    obtain ⟨hy, e'⟩ : y.size ≤ sizeLine ∧ n = y.size := e
    subst e'
    exact PySem.W.len_bytes (by omega) ⟨.int _, H, I.tok _, ⟨_, rfl⟩, q⟩
  | ref p =>
    cases rx
    have e' : (∃ xs, SqL X.K H p xs ∧ n = xs.length) ∨ ∃ xs, SqT X.K H p xs ∧ n = xs.length := e
    rcases e' with ⟨xs, hx, e'⟩ | ⟨xs, hx, e'⟩
    · subst e'
      obtain ⟨its, r', pl, hz⟩ := I.list hx
      have hlen := r'.length
      exact Calls.call_len_list pl.isList (by simp only [List.size_toArray]; omega) ⟨.int xs.length, H, I.tok _, ⟨_, by simp only [List.size_toArray]; rw [hlen]⟩, q⟩
    · subst e'
      obtain ⟨its, r', pl, hz⟩ := I.tuple hx
      have hlen := r'.length
      exact len_tuple pl (by simp only [List.size_toArray]; omega) ⟨.int xs.length, H, I.tok _, ⟨_, by simp only [List.size_toArray]; rw [hlen]⟩, q⟩
  | _ => exact (show False from e).elim
/-- divmod: a new tuple -/
theorem call_divmod : CallR X (.builtin "divmod") (fun xs H Q => ∃ i j, xs = [.int i, .int j] ∧ CDiv i j ∧ ∀ p, H p = none → Q (.ref p) (upd H p (.tup [.int (i / j), .int (i % j)]))) := by
  intro pins s σ H xs us Q I r h
  obtain ⟨i, j, rfl, ⟨h1, h2⟩, q⟩ := h
  obtain ⟨u, w', rfl, ⟨t, rfl⟩, ⟨t', rfl⟩⟩ := vals2 r
  refine divmod_int (by omega) ?_ (.inl (PyProof.noPylong_small (by omega)))
  rw [Int.fdiv_eq_ediv_of_nonneg i (by omega), Int.fmod_eq_emod_of_nonneg i (by omega)]
  have hn : H s.heap.objs.size = none := I.hok.fresh (Nat.le_refl _)
  refine ⟨.ref s.heap.objs.size, _, ?_, rfl, q _ hn⟩
  refine I.laid (fun b o e => Heap.get?_push_of_some _ e) (Nat.le_refl _) ⟨by simp only [List.length_cons, List.length_nil]; rw [sizeLine_eq]; decide, [.int (i / j) s.toks, .int (i % j) (s.toks + 1)], .cons ⟨_, rfl⟩ (.cons ⟨_, rfl⟩ .nil), ?_⟩
  exact ⟨_, Heap.get?_push_size s.heap rfl, rfl, 0, rfl⟩
end
end L2

namespace L2
open PySem PySem.Spec PyProof.Rows

/-! ### an instance, its attributes a map -/
structure ObjM (h : Heap) (x dx C : Addr) (mA : Str → Option Value) : Prop where
  obj : h.get? x = some (PySem.W.instObj C dx)
  ns : h.Ns1 dx mA
  ne : dx ≠ x

theorem lookIn_ns {h : Heap} {dx : Addr} {mA : Str → Option Value} (n : h.Ns1 dx mA) : ∃ od, h.get? dx = some od ∧ ∀ name, PySem.W.lookIn name od = some (mA name) := by
  obtain ⟨o, es, ep, ho, hd, hk, _, hm⟩ := n
  refine ⟨o, ho, fun name => ?_⟩
  have e := hm name
  unfold nsFind findBy at e
  rw [← Array.find?_toList] at e
  unfold PySem.W.lookIn
  rw [hd]
  dsimp only
  split
  · rename_i y q
    rw [q] at e
    exact congrArg some e
  · rename_i q
    rw [q] at e
    have a : es.toList.any (·.refKey) = false := by
      rw [List.any_eq_false]
      intro y hy
      obtain ⟨z, t, hkey⟩ := hk y (Array.mem_toList_iff.mp hy)
      simp [DictEntry.refKey, hkey]
    have a' : ¬ es.toList.any (·.refKey) = true := by rw [a]; exact Bool.false_ne_true
    rw [if_neg a']
    exact congrArg some e

theorem ObjM.look {h : Heap} {x dx C : Addr} {mA : Str → Option Value} (I : ObjM h x dx C mA) : ∃ od, PySem.W.InstAt h x (PySem.W.instObj C dx) C (some od) ∧ ∀ name, PySem.W.lookIn name od = some (mA name) :=
  let ⟨od, ho, hl⟩ := lookIn_ns I.ns
  ⟨od, ⟨I.obj, rfl, rfl, ho⟩, hl⟩

section
variable {prog : Program} {w : World} {A : Around} {E : Value → Shared → Prop} {s : Shared} {K : PySem.W.Frag} {x dx C f : Addr} {mA : Str → Option Value} {name : Str} {v : Value}

theorem get_map {expr : Bool} {Q : Value → Shared → Prop} (X : K.In s.heap) (I : ObjM s.heap x dx C mA) (hg : PySem.W.plainGet K C name = true) (hh : PySem.W.hasDictIn K C = true)
    (ha : PySem.W.findIn K (.ref C) name = some none) (hv : mA name = some v) (hv' : PySem.W.handedIn v = true) (h : Q v { s with toks := s.toks + 1 }) :
    wpAny (model prog w) A (getAttr (.ref x) name expr) Q E s := by
  obtain ⟨od, J, hl⟩ := I.look
  exact PySem.W.get_value X J (PySem.W.plainGet_of hg).1 (PySem.W.findObj_own hh ha rfl (by rw [hl, hv])) hv' h

theorem get_const {expr : Bool} {a : Value} {Q : Value → Shared → Prop} (X : K.In s.heap) (I : ObjM s.heap x dx C mA) (hg : PySem.W.plainGet K C name = true) (hh : PySem.W.hasDictIn K C = true)
    (ha : PySem.W.findIn K (.ref C) name = some (some a)) (hn : PySem.W.specialIn K a "__get__" = some none) (hc : PySem.W.copiedNames.contains name = false) (hv : mA name = none) (hv' : PySem.W.handedIn a = true)
    (h : Q a { s with toks := s.toks + 1 }) : wpAny (model prog w) A (getAttr (.ref x) name expr) Q E s := by
  obtain ⟨od, J, hl⟩ := I.look
  exact PySem.W.get_value X J (PySem.W.plainGet_of hg).1 (PySem.W.findObj_cls hh ha hn hv' hc (by rw [hl, hv])) hv' h

theorem get_meth {pl : Sem Bool} {Q : Value × List Value → Shared → Prop} (X : K.In s.heap) (I : ObjM s.heap x dx C mA) (hg : PySem.W.plainGet K C name = true)
    (hf : PySem.W.findIn K (.ref C) name = some (some (.ref f))) (ht : PySem.W.isFn K (.ref f) = true) (hv : mA name = none) (h : Q (.ref f, [.ref x]) s) :
    wpAny (model prog w) A (getMethod (.ref x) name pl) Q E s := by
  obtain ⟨od, J, hl⟩ := I.look
  exact PySem.W.method_fn X J (PySem.W.plainGet_of hg).1 (PySem.W.plainGet_of hg).2 hf (beq_iff_eq.mp ht) (by show (PySem.W.lookIn name od).map (·.isSome) = some false; rw [hl, hv]; rfl) h

theorem set_map {ns : List Str} {Q : Unit → Shared → Prop} (X : K.In s.heap) (I : ObjM s.heap x dx C mA)
    (hs : PySem.W.findIn K (.ref C) "__setattr__" = some (some (.builtin "object.__setattr__"))) (hp : PySem.W.plainOver K C = true) (ht : PySem.W.takerIn K C name = some none) (hh : PySem.W.hasDictIn K C = true)
    (hw : PySem.Within mA ns) (hsz : ns.length ≤ sizeLine)
    (h : ∀ h', ObjM h' x dx C (fun y => if y = name then some v else mA y) → Heap.SameBut dx s.heap h' → Q () { s with heap := h', toks := s.toks + 2 }) :
    wpAny (model prog w) A (setAttr (.ref x) name v) Q E s := by
  obtain ⟨od, J, hl⟩ := I.look
  refine PySem.W.set_plain X J hs (PySem.W.osa_open (s := { s with toks := s.toks + 1 }) (r := none) X J hp ht fun b => ?_)
  obtain ⟨cd, hc, hd'⟩ := PySem.W.any_some hh
  have hx : s.heap.get? x = some ⟨.ref C, some dx, .plain, #[]⟩ := I.obj
  refine wpAny_bind (wpAny_pure (wpAny_bind (wpAny_bind (wpAny_loadPart hx (wpAny_bind (PySem.W.Looks.here (s := { s with toks := s.toks + 1 }) (PySem.W.looks_clsIn X hc) ?_))))))
  rw [hd']
  refine wpAny_pure (a := some dx) (wpAny_bind (wpAny_pure (wpAny_bind ?_)))
  refine wpAny_nsSet1 (s := { s with toks := s.toks + 1 }) I.ns fun h' hn2 hs2 => ?_
  obtain ⟨oD, esD, epD, hoD, hdD, hcD⟩ := hn2.count (PySem.Within.cons name v hw)
  refine wpAny_bind (wpAny_lookBehind hoD (by rw [hdD]; exact pastItsLine_dict (Nat.le_trans hcD (by rw [List.length_cons]; omega))) ?_)
  exact wpAny_pure (h _ ⟨(hs2.2 _ (Ne.symm I.ne)).trans I.obj, hn2, I.ne⟩ hs2)

/-- C(..): the dict at the heap's end, the instance behind it; then its __init__ -/
theorem make_map {R : Result → Shared → Prop} {vs : List Value} {kw : List (Str × Value)} (X : K.In s.heap) (hm : PySem.W.makesIn K C = true)
    (hi : PySem.W.findIn K (.ref C) "__init__" = some (some (.ref f))) (hf : PySem.W.typeIn K (.ref f) = some (.type "function"))
    (h : codeAny (model prog w) (A.under (.builtin "type.__call__" ⟨.ref C :: vs, kw⟩)) (.call (.ref f) ⟨.ref (s.heap.objs.size + 1) :: vs, kw⟩) (PySem.W.InitBack (s.heap.objs.size + 1) R)
      { s with heap := (s.heap.push PySem.W.emptyDict).push (PySem.W.instObj C s.heap.objs.size) }) :
    codeAny (model prog w) A (.call (.ref C) ⟨vs, kw⟩) R s := by
  obtain ⟨hh, g, d, t, os⟩ := s
  exact PySem.W.make_core (PySem.W.makes_of X hm) (PySem.W.looks_findIn X hi) (fun self => PySem.W.bind_fn X self hf) (.inl rfl) h
/-- C() where there is no __init__ but object's -/
theorem make_map0 {R : Result → Shared → Prop} (X : K.In s.heap) (hm : PySem.W.makesIn K C = true)
    (hi : PySem.W.findIn K (.ref C) "__init__" = some (some (.builtin "object.__init__")))
    (hb : ∀ self, PySem.W.Looks (model prog w) s.heap (bindSpecial (.builtin "object.__init__") self) (.builtin "object.__init__", [self]))
    (h : codeAny (model prog w) (A.under (.builtin "type.__call__" ⟨[.ref C], []⟩)) (.call (.builtin "object.__init__") ⟨[.ref (s.heap.objs.size + 1)], []⟩) (PySem.W.InitBack (s.heap.objs.size + 1) R)
      { s with heap := (s.heap.push PySem.W.emptyDict).push (PySem.W.instObj C s.heap.objs.size) }) :
    codeAny (model prog w) A (.call (.ref C) ⟨[], []⟩) R s := by
  obtain ⟨hh, g, d, t, os⟩ := s
  exact PySem.W.make_core (PySem.W.makes_of X hm) (PySem.W.looks_findIn X hi) hb (.inr ⟨rfl, rfl⟩) h
end

/-! ### the attributes as a list of pairs -/
def putF (f : Str) (v : V) : List (Str × V) → List (Str × V)
  | [] => [(f, v)]
  | (g, x) :: r => if g = f then (g, v) :: r else (g, x) :: putF f v r
theorem lookup_putF (f g : Str) (v : V) : ∀ fs : List (Str × V), (putF f v fs).lookup g = if g = f then some v else fs.lookup g
  | [] => by
    show List.lookup g [(f, v)] = _
    by_cases h : g = f
    · have hb : (g == f) = true := beq_iff_eq.mpr h
      simp only [List.lookup, hb, if_pos h]
    · have hb : (g == f) = false := beq_eq_false_iff_ne.mpr h
      simp only [List.lookup, hb, if_neg h]
  | (k, x) :: r => by
    have ih := lookup_putF f g v r
    rw [show putF f v ((k, x) :: r) = (if k = f then (k, v) :: r else (k, x) :: putF f v r) from rfl]
    by_cases hk : k = f
    · rw [if_pos hk]
      by_cases h : g = k
      · have hb : (g == k) = true := beq_iff_eq.mpr h
        simp only [List.lookup, hb, if_pos (h.trans hk)]
      · have hb : (g == k) = false := beq_eq_false_iff_ne.mpr h
        simp only [List.lookup, hb, if_neg (fun e : g = f => h (e.trans hk.symm))]
    · rw [if_neg hk]
      by_cases h : g = k
      · have hb : (g == k) = true := beq_iff_eq.mpr h
        simp only [List.lookup, hb, if_neg (fun e : g = f => hk (h.symm.trans e))]
      · have hb : (g == k) = false := beq_eq_false_iff_ne.mpr h
        simp only [List.lookup, hb]
        exact ih
theorem keys_putF (f : Str) (v : V) : ∀ fs : List (Str × V), f ∈ (putF f v fs).map (·.1) ∧ ∀ g, g ∈ fs.map (·.1) → g ∈ (putF f v fs).map (·.1)
  | [] => ⟨by simp [putF], fun g h => by simp at h⟩
  | (k, x) :: r => by
    obtain ⟨i1, i2⟩ := keys_putF f v r
    rw [show putF f v ((k, x) :: r) = (if k = f then (k, v) :: r else (k, x) :: putF f v r) from rfl]
    by_cases hk : k = f
    · rw [if_pos hk]
      subst hk
      exact ⟨by simp, fun g h => by simpa using h⟩
    · rw [if_neg hk]
      refine ⟨?_, fun g h => ?_⟩
      · rw [List.map_cons]
        exact List.mem_cons_of_mem _ i1
      · rw [List.map_cons] at h ⊢
        rcases List.mem_cons.mp h with e | e
        · exact List.mem_cons.mpr (.inl e)
        · exact List.mem_cons_of_mem _ (i2 g e)
theorem length_putF (f : Str) (v : V) : ∀ fs : List (Str × V), (putF f v fs).length ≤ fs.length + 1
  | [] => by simp [putF]
  | (k, x) :: r => by
    have ih := length_putF f v r
    rw [show putF f v ((k, x) :: r) = (if k = f then (k, v) :: r else (k, x) :: putF f v r) from rfl]
    by_cases hk : k = f
    · rw [if_pos hk, List.length_cons, List.length_cons]; omega
    · rw [if_neg hk, List.length_cons, List.length_cons]; omega

theorem RelO.some_of {v : V} {o : Option Value} (r : RelO (some v) o) : ∃ u, o = some u ∧ RelV v u := by
  cases o with
  | none => exact (show False from r).elim
  | some u => exact ⟨u, rfl, r⟩
theorem RelO.none_of {o : Option Value} (r : RelO none o) : o = none := by
  cases o with
  | none => rfl
  | some u => exact (show False from r).elim
theorem handed_of {v : V} {u : Value} (r : RelV v u) : PySem.W.handedIn u = true := by
  cases v with
  | non => cases (show u = Value.none from r); rfl
  | bl b => cases (show u = Value.bool b from r); rfl
  | int i => obtain ⟨t, e⟩ := (show ∃ t, u = Value.int i t from r); cases e; rfl
  | str x => obtain ⟨t, e⟩ := (show ∃ t, u = Value.str x t from r); cases e; rfl
  | byt b => obtain ⟨t, e⟩ := (show ∃ t, u = Value.bytes b t from r); cases e; rfl
  | flt b => obtain ⟨t, e⟩ := (show ∃ t, u = Value.float b t from r); cases e; rfl
  | ref a => cases (show u = Value.ref a from r); rfl
  | ty n => cases (show u = Value.type n from r); rfl

section
variable {P : Program} {w : World} {H H' : Hp} {h h' : Heap} {a C dx : Addr} {fs fs' : List (Str × V)}
theorem ins_get (hok : HOk P w H h) (e : H a = some (.ins C dx fs)) : ∃ mA, ObjM h a dx C mA ∧ (∀ f, RelO (fs.lookup f) (mA f)) ∧ PySem.Within mA (fs.map (·.1)) ∧ fs.length ≤ 1000 ∧ H dx = some (.own a) := by
  obtain ⟨d, z, ne, ob, mA, n, r, q⟩ := (show ObjOk P w H h a (.ins C dx fs) from hok a _ e)
  exact ⟨mA, ⟨ob, n, ne⟩, r, q, z, d⟩
end

/-! ### what of the text a class must have -/
structure Cls (K : PySem.W.Frag) (C : Addr) : Prop where
  pg : PySem.W.plainGet K C Str.empty = true
  hd : PySem.W.hasDictIn K C = true
  po : PySem.W.plainOver K C = true
  sa : PySem.W.findIn K (.ref C) "__setattr__" = some (some (.builtin "object.__setattr__"))
theorem Cls.get {K : PySem.W.Frag} {C : Addr} (c : Cls K C) (f : Str) : PySem.W.plainGet K C f = true := c.pg
/-- no class of it has the name -/
def NoAttr (K : PySem.W.Frag) (C : Addr) (f : Str) : Prop := PySem.W.findIn K (.ref C) f = some none
theorem NoAttr.taker {K : PySem.W.Frag} {C : Addr} {f : Str} (n : NoAttr K C f) : PySem.W.takerIn K C f = some none := by
  unfold PySem.W.takerIn
  rw [show PySem.W.findIn K (.ref C) f = some none from n]
  rfl
/-- a constant of the class -/
structure Con (K : PySem.W.Frag) (C : Addr) (f : Str) (v : V) (u : Value) : Prop where
  at_ : PySem.W.findIn K (.ref C) f = some (some u)
  rel : RelV v u
  get : PySem.W.specialIn K u "__get__" = some none
  cp : PySem.W.copiedNames.contains f = false
/-- a method: a plain def of the class or of one above it -/
structure Meth (K : PySem.W.Frag) (C : Addr) (m : Str) (f : Addr) : Prop where
  at_ : PySem.W.findIn K (.ref C) m = some (some (.ref f))
  fn : PySem.W.isFn K (.ref f) = true
  kp : PySem.W.keepIn K (.ref f) = true

section
variable {X : Cx} {pins : List (Addr × Obj)} {σ : St} {H : Hp} {s : Shared} {a C dx : Addr} {fs : List (Str × V)} {f : Str} {v : V} {A : Around} {E : Value → Shared → Prop}

theorem getattr_ok {b : Bool} {Q : Value → Shared → Prop} (I : Inv X pins σ H s) (e : H a = some (.ins C dx fs)) (c : Cls X.K C) (n : NoAttr X.K C f) (l : fs.lookup f = some v)
    (h : ∀ u s', Inv X pins σ H s' → RelV v u → Q u s') : wpAny (model X.prog X.w) A (getAttr (.ref a) f b) Q E s := by
  obtain ⟨mA, O, r, _, _, _⟩ := ins_get I.hok e
  obtain ⟨u, hu, ru⟩ := RelO.some_of (v := v) (o := mA f) (by rw [← l]; exact r f)
  exact get_map I.kIn O (c.get f) c.hd n hu (handed_of ru) (h u _ (I.tok _) ru)

theorem getcon_ok {b : Bool} {u : Value} {Q : Value → Shared → Prop} (I : Inv X pins σ H s) (e : H a = some (.ins C dx fs)) (c : Cls X.K C) (k : Con X.K C f v u) (l : fs.lookup f = none)
    (h : ∀ s', Inv X pins σ H s' → Q u s') : wpAny (model X.prog X.w) A (getAttr (.ref a) f b) Q E s := by
  obtain ⟨mA, O, r, _, _, _⟩ := ins_get I.hok e
  have hn : mA f = none := RelO.none_of (by rw [← l]; exact r f)
  exact get_const I.kIn O (c.get f) c.hd k.at_ k.get k.cp hn (handed_of k.rel) (h _ (I.tok _))

theorem getmeth_ok {m : Str} {g : Addr} {pl : Sem Bool} {Q : Value × List Value → Shared → Prop} (I : Inv X pins σ H s) (e : H a = some (.ins C dx fs)) (c : Cls X.K C) (k : Meth X.K C m g) (l : fs.lookup m = none)
    (h : Q (.ref g, [.ref a]) s) : wpAny (model X.prog X.w) A (getMethod (.ref a) m pl) Q E s := by
  obtain ⟨mA, O, r, _, _, _⟩ := ins_get I.hok e
  have hn : mA m = none := RelO.none_of (by rw [← l]; exact r m)
  exact get_meth I.kIn O (c.get m) k.at_ k.fn hn h

theorem setattr_ok {y : V} {u : Value} {Q : Unit → Shared → Prop} (I : Inv X pins σ H s) (e : H a = some (.ins C dx fs)) (c : Cls X.K C) (n : NoAttr X.K C f) (hl : fs.length < 1000) (ry : RelV y u)
    (h : ∀ s', Inv X pins σ (upd H a (.ins C dx (putF f y fs))) s' → Q () s') : wpAny (model X.prog X.w) A (setAttr (.ref a) f u) Q E s := by
  obtain ⟨mA, O, r, wi, _, ho⟩ := ins_get I.hok e
  have hz : (fs.map (·.1)).length ≤ sizeLine := by rw [List.length_map, sizeLine_eq]; omega
  refine set_map I.kIn O c.sa c.po n.taker c.hd wi hz fun h' O' sb => h _ ?_
  have hd : ∃ o, h'.get? dx = some o := let ⟨o, _, _, e', _⟩ := O'.ns; ⟨o, e'⟩
  refine I.write (x := a) (e := dx) (by rw [e]; exact True.intro) (.inr ho) (fun b q hb z => (sb.2 b hb).trans z) hd ?_
  refine ⟨by rw [upd_ne O.ne]; exact ho, ?_, O.ne, O'.obj, _, O'.ns, fun g => ?_, fun g hg => ?_⟩
  · have := length_putF f y fs; omega
  · show RelO ((putF f y fs).lookup g) (if g = f then some u else mA g)
    rw [lookup_putF]
    by_cases q : g = f
    · rw [if_pos q, if_pos q]; exact ry
    · rw [if_neg q, if_neg q]; exact r g
  · by_cases q : g = f
    · rw [q]; exact (keys_putF f y fs).1
    · refine (keys_putF f y fs).2 g (wi g fun z => hg ?_)
      show (if g = f then some u else mA g) = none
      rw [if_neg q]; exact z

/-- a new instance, tracked, without attributes -/
theorem Inv.made (I : Inv X pins σ H s) : Inv X pins σ (upd (upd H s.heap.objs.size (.own (s.heap.objs.size + 1))) (s.heap.objs.size + 1) (.ins C s.heap.objs.size []))
    { s with heap := (s.heap.push PySem.W.emptyDict).push (PySem.W.instObj C s.heap.objs.size) } := by
  have e1 : (s.heap.push PySem.W.emptyDict).get? s.heap.objs.size = some PySem.W.emptyDict := Heap.get?_push_size s.heap rfl
  have e2 : ((s.heap.push PySem.W.emptyDict).push (PySem.W.instObj C s.heap.objs.size)).get? (s.heap.objs.size + 1) = some (PySem.W.instObj C s.heap.objs.size) := by
    have := Heap.get?_push_size (s.heap.push PySem.W.emptyDict) (o := PySem.W.instObj C s.heap.objs.size) rfl
    rwa [Heap.size_push] at this
  have e3 : (s.heap.push PySem.W.emptyDict).Ns s.heap.objs.size (fun _ => none) := ⟨PySem.W.emptyDict, #[], _, e1, rfl, (fun e he => absurd he (by simp)), fun _ => rfl⟩
  have I1 := I.laid (a := s.heap.objs.size) (o := .own (s.heap.objs.size + 1)) (h' := s.heap.push PySem.W.emptyDict) (t' := s.toks) (fun b u q => Heap.get?_push_of_some _ q) (Nat.le_refl _) ⟨_, e1⟩
  refine I1.laid (a := s.heap.objs.size + 1) (o := .ins C s.heap.objs.size []) (t' := s.toks) (fun b u q => Heap.get?_push_of_some _ q) (Nat.le_of_eq (Heap.size_push _ _)) ?_
  have ne : s.heap.objs.size ≠ s.heap.objs.size + 1 := Nat.ne_of_lt (Nat.lt_succ_self _)
  refine ⟨by rw [upd_ne ne, upd_same], Nat.zero_le _, ne, e2, fun _ => none, (Heap.Ns1.of_empty e3).at fun o q => Heap.get?_push_of_some _ q, fun _ => True.intro, fun y hy => absurd rfl hy⟩

/-- e.f where nothing but the object is asked: through attributeBase (super) and the last hold -/
theorem attr_of {prog : Program} {w : World} {env : Env} {e : Expr} {f : Str} {pos : Pos} {s : Shared} {Q : Value → Shared → Prop} (hb : attributeBase e f env (eval e env) = eval e env)
    (h : wpAny (model prog w) A (eval e env) (fun o s₁ => wpAny (model prog w) A (getAttr o f true) Q E s₁) E s) : wpAny (model prog w) A (eval (.Attribute e f pos) env) Q E s :=
  Attribute_any_ h (by rw [arm_eval_Attribute, hb])
end

/-! ### readings and rules -/
/-- e.f, an attribute of the instance -/
def tFld (K : PySem.W.Frag) (ta : TE) (f : Str) : TE := fun σ H Q => ta σ H fun x H1 => ∃ a C dx fs v, x = .ref a ∧ H1 a = some (.ins C dx fs) ∧ Cls K C ∧ NoAttr K C f ∧ fs.lookup f = some v ∧ Q v H1
/-- e.f, a constant of the class -/
def tCon (K : PySem.W.Frag) (ta : TE) (f : Str) : TE := fun σ H Q => ta σ H fun x H1 => ∃ a C dx fs v u, x = .ref a ∧ H1 a = some (.ins C dx fs) ∧ Cls K C ∧ Con K C f v u ∧ fs.lookup f = none ∧ Q v H1
/-- e.f = value -/
def sFld (K : PySem.W.Frag) (ta tv : TE) (f : Str) : TS := fun D σ H => tv σ H fun y H1 => ta σ H1 fun x H2 => ∃ a C dx fs, x = .ref a ∧ H2 a = some (.ins C dx fs) ∧ Cls K C ∧ NoAttr K C f ∧ fs.length < 1000 ∧
  D.nx σ (upd H2 a (.ins C dx (putF f y fs)))
/-- an augmented operator on two values -/
def InOp (X : Cx) (op : Operator) (rd : V → V → Hp → VK → Prop) : Prop :=
  ∀ (pins : List (Addr × Obj)) (s : Shared) (σ : St) (H : Hp) (x y : V) (u v : Value) (Q : VK), Inv X pins σ H s → RelV x u → RelV y v → rd x y H Q → wpAny (model X.prog X.w) X.A (inplaceOp op u v) (EP X pins σ Q) X.xe s
/-- e.f op= value -/
def sFldAug (K : PySem.W.Frag) (ta tv : TE) (rd : V → V → Hp → VK → Prop) (f : Str) : TS := fun D σ H => ta σ H fun x H1 => ∃ a C dx fs v, x = .ref a ∧ H1 a = some (.ins C dx fs) ∧ Cls K C ∧ NoAttr K C f ∧ fs.lookup f = some v ∧
  tv σ H1 fun y H2 => rd v y H2 fun z H3 => ∃ dx' fs', H3 a = some (.ins C dx' fs') ∧ fs'.length < 1000 ∧ D.nx σ (upd H3 a (.ins C dx' (putF f z fs')))

section
variable {X : Cx} {o e value : Expr} {f : Str} {pos pos' tpos : Pos} {ta tv : TE}
theorem pe_fld (he : PE X e ta) (hb : attributeBase e f X.env (eval e X.env) = eval e X.env) : PE X (.Attribute e f pos) (tFld X.K ta f) := by
  intro pins s σ H Q I h
  refine attr_of hb (thn (he pins s σ H _ I h) fun u s1 ⟨x, H1, I1, rx, a, C, dx, fs, v, ex, ea, c, n, l, q⟩ => ?_)
  subst ex
  obtain rfl : u = Value.ref a := rx
  exact getattr_ok I1 ea c n l fun u' s2 I2 ru => ⟨v, H1, I2, ru, q⟩
theorem pe_con (he : PE X e ta) (hb : attributeBase e f X.env (eval e X.env) = eval e X.env) : PE X (.Attribute e f pos) (tCon X.K ta f) := by
  intro pins s σ H Q I h
  refine attr_of hb (thn (he pins s σ H _ I h) fun u s1 ⟨x, H1, I1, rx, a, C, dx, fs, v, u0, ex, ea, c, k, l, q⟩ => ?_)
  subst ex
  obtain rfl : u = Value.ref a := rx
  exact getcon_ok I1 ea c k l fun s2 I2 => ⟨v, H1, I2, k.rel, q⟩
theorem ps_fld (ha : PE X o ta) (hv : PE X value tv) (hs : swapsWith value (some (.Attribute o f pos')) pos.line X.env = pure false) : PS X (.Assign [.Attribute o f pos'] value pos) (sFld X.K ta tv f) := by
  intro pins s σ H D I h
  refine plainObj_wpAny_Assign_Attribute (thn (hv pins s σ H _ I h) fun u s1 ⟨y, H1, I1, ry, q⟩ => thn (ha pins s1 σ H1 _ I1 q) fun ov s2 ⟨x, H2, I2, rx, a, C, dx, fs, ex, ea, c, n, l, q2⟩ => ?_) hs
  subst ex
  obtain rfl : ov = Value.ref a := rx
  exact setattr_ok I2 ea c n l ry fun s3 I3 => ⟨σ, _, I3, q2⟩
theorem ps_fldaug {op : Operator} {rd : V → V → Hp → VK → Prop} (ha : PE X o ta) (hv : PE X value tv) (hop : InOp X op rd) : PS X (.AugAssign (.Attribute o f tpos) op value pos) (sFldAug X.K ta tv rd f) := by
  intro pins s σ H D I h
  refine wpAny_AugAssign_AttributeAny (thn (ha pins s σ H _ I h) fun ov s1 ⟨x, H1, I1, rx, a, C, dx, fs, v, ex, ea, c, n, l, q⟩ => ?_)
  subst ex
  obtain rfl : ov = Value.ref a := rx
  refine getattr_ok I1 ea c n l fun u s2 I2 ru => thn (hv pins s2 σ H1 _ I2 q) fun w3 s3 ⟨y, H2, I3, ry, q3⟩ => thn (hop pins s3 σ H2 v y u w3 _ I3 ru ry q3) fun w4 s4 ⟨z, H3, I4, rz, dx', fs', ea', l', q4⟩ => ?_
  exact setattr_ok I4 ea' c n l' rz fun s5 I5 => ⟨σ, _, I5, q4⟩
def rAdd : V → V → Hp → VK → Prop := fun x y H Q => ∃ i j, x = .int i ∧ y = .int j ∧ Q (.int (i + j)) H
def rSub : V → V → Hp → VK → Prop := fun x y H Q => ∃ i j, x = .int i ∧ y = .int j ∧ Q (.int (i - j)) H
theorem in_add : InOp X .Add rAdd := by
  rintro pins s σ H x y u v Q I rx ry ⟨i, j, rfl, rfl, q⟩
  obtain ⟨t, rfl⟩ := (show ∃ t, u = Value.int i t from rx)
  obtain ⟨t', rfl⟩ := (show ∃ t', v = Value.int j t' from ry)
  exact PyProof.Rows.iadd_int ⟨.int (i + j), H, I.tok _, ⟨_, rfl⟩, q⟩
theorem in_sub : InOp X .Sub rSub := by
  rintro pins s σ H x y u v Q I rx ry ⟨i, j, rfl, rfl, q⟩
  obtain ⟨t, rfl⟩ := (show ∃ t, u = Value.int i t from rx)
  obtain ⟨t', rfl⟩ := (show ∃ t', v = Value.int j t' from ry)
  exact PyProof.Rows.isub_int ⟨.int (i - j), H, I.tok _, ⟨_, rfl⟩, q⟩

/-- what is between an instance and its method: the tree of a method call -/
theorem methcall_of {pl : Sem Bool} {m : Str} {apos : Pos} {args : List Expr} {pins : List (Addr × Obj)} {s : Shared} {σ : St} {H : Hp} {Q : Value → Shared → Prop} {te : TE} (he : PE X e te) (I : Inv X pins σ H s)
    (h : te σ H fun x H1 => ∃ a C dx fs g, x = .ref a ∧ H1 a = some (.ins C dx fs) ∧ Cls X.K C ∧ Meth X.K C m g ∧ fs.lookup m = none ∧
      ∀ s1, Inv X pins σ H1 s1 → wpAny (model X.prog X.w) X.A (callWith pos (.ref g) [.ref a] (backTo pos (starEach args X.env)) (backToKw pos (keywordEach [] X.env))) Q X.xe s1)
    (ht : eval (.Call (.Attribute e m apos) args [] pos) X.env = (do
      let ov ← eval e X.env
      standAt apos.atName
      let (f, first) ← holding [ov] (getMethod ov m pl)
      callWith pos f first (backTo pos (starEach args X.env)) (backToKw pos (keywordEach [] X.env)))) :
    wpAny (model X.prog X.w) X.A (eval (.Call (.Attribute e m apos) args [] pos) X.env) Q X.xe s := by
  refine PySem.W.methodCall_KW (pl := pl) (thn (he pins s σ H _ I h) fun u s1 ⟨x, H1, I1, rx, a, C, dx, fs, g, ex, ea, c, k, l, q⟩ => ?_) ht
  subst ex
  obtain rfl : u = Value.ref a := rx
  exact getmeth_ok I1 ea c k l (q s1 I1)
end

/-! ### isinstance -/
section
variable {X : Cx} {pins : List (Addr × Obj)} {σ : St} {H : Hp} {s : Shared} {A : Around} {E : Value → Shared → Prop} {Q : Value → Shared → Prop} {c : Value} {b : Bool}
/-- the type of a value, as the fragment's deciders take it; for an instance its class -/
inductive TyOf (K : PySem.W.Frag) (H : Hp) : V → Value → Prop where
  | non : TyOf K H .non (.type "NoneType")
  | bl (x : Bool) : TyOf K H (.bl x) (.type "bool")
  | int (i : Int) : TyOf K H (.int i) (.type "int")
  | str (x : Str) : TyOf K H (.str x) (.type "str")
  | flt (x : UInt64) : TyOf K H (.flt x) (.type "float")
  | lst {a : Addr} {xs : List V} (e : H a = some (.lst xs)) : TyOf K H (.ref a) (.type "list")
  | frz {a : Addr} {o : Obj} {xs : List V} (e : H a = some (.frz o (.lst xs))) : TyOf K H (.ref a) (.type "list")
  | tup {a : Addr} {xs : List V} (e : H a = some (.tup xs)) : TyOf K H (.ref a) (.type "tuple")
  | dK {a : Addr} {kvs : List (Key × V)} (e : H a = some (.dK kvs)) : TyOf K H (.ref a) (.type "dict")
  | dT {a : Addr} {kvs : List (List Key × V)} (e : H a = some (.dT kvs)) : TyOf K H (.ref a) (.type "dict")
  | ins {a C dx : Addr} {fs : List (Str × V)} (e : H a = some (.ins C dx fs)) (cl : Cls K C) (ha : PySem.W.findIn K (.ref C) "__class__" = some (some (.builtin "object.__class__")))
      (hn : PySem.W.specialIn K (.builtin "object.__class__") "__get__" = some (some (.builtin "getset_descriptor.__get__"))) (htk : PySem.W.takesIn K (.builtin "object.__class__") = some true)
      (hm : PySem.W.mroIn K C (.type "object") = some true) : TyOf K H (.ref a) (.ref C)
/-- isinstance(x, c) for one class c, a built-in or an own one: kitOne's answer -/
theorem isinst_ok {x : V} {u t : Value} (I : Inv X pins σ H s) (rx : RelV x u) (ty : TyOf X.K H x t) (e : PySem.W.kitOne X.K t c = some b) (h : ∀ tk, Q (.bool b) { s with toks := tk }) :
    wpAny (model X.prog X.w) A (call (.builtin "isinstance") [u, c]) Q E s := by
  cases ty with
  | non => cases (show u = Value.none from rx); exact PySem.W.kia_one PySem.W.kitx_none I.kIn True.intro e (fun z => nomatch z) h
  | bl y => cases (show u = Value.bool y from rx); exact PySem.W.kia_one PySem.W.kitx_bool I.kIn True.intro e (fun z => nomatch z) h
  | int i => obtain ⟨t, q⟩ := (show ∃ t, u = Value.int i t from rx); cases q; exact PySem.W.kia_one PySem.W.kitx_int I.kIn True.intro e (fun z => nomatch z) h
  | str y => obtain ⟨t, q⟩ := (show ∃ t, u = Value.str y t from rx); cases q; exact PySem.W.kia_one PySem.W.kitx_str I.kIn True.intro e (fun z => nomatch z) h
  | flt y => obtain ⟨t, q⟩ := (show ∃ t, u = Value.float y t from rx); cases q; exact PySem.W.kia_one PySem.W.kitx_float I.kIn True.intro e (fun z => nomatch z) h
  | @lst a xs ea =>
    cases (show u = Value.ref a from rx)
    obtain ⟨_, _, n, _, h1⟩ := (show ObjOk X.prog X.w H s.heap a (.lst xs) from I.hok a _ ea)
    exact PySem.W.kia_one PySem.W.kitx_list I.kIn ⟨_, h1, rfl⟩ e (fun z => nomatch z) h
  | @frz a ob xs ea =>
    cases (show u = Value.ref a from rx)
    obtain ⟨_, _, _, n, _, h1⟩ := (show ObjOk X.prog X.w H s.heap a (.frz ob (.lst xs)) from I.hok a _ ea)
    exact PySem.W.kia_one PySem.W.kitx_list I.kIn ⟨_, h1, rfl⟩ e (fun z => nomatch z) h
  | @tup a xs ea =>
    cases (show u = Value.ref a from rx)
    obtain ⟨_, _, _, p⟩ := (show ObjOk X.prog X.w H s.heap a (.tup xs) from I.hok a _ ea)
    obtain ⟨o, h1, h2, _⟩ := p
    exact PySem.W.kia_one PySem.W.kitx_tuple I.kIn ⟨o, h1, h2⟩ e (fun z => nomatch z) h
  | @dK a kvs ea =>
    cases (show u = Value.ref a from rx)
    obtain ⟨_, _, vs, _, p⟩ := (show ObjOk X.prog X.w H s.heap a (.dK kvs) from I.hok a _ ea)
    obtain ⟨o, es, ep, h1, h2, _⟩ := p
    exact PySem.W.kia_one PySem.W.kitx_dict I.kIn ⟨o, h1, h2.1⟩ e (fun z => nomatch z) h
  | @dT a kvs ea =>
    cases (show u = Value.ref a from rx)
    obtain ⟨_, _, xs, _, o, es, ep, h1, h2, _⟩ := (show ObjOk X.prog X.w H s.heap a (.dT kvs) from I.hok a _ ea)
    exact PySem.W.kia_one PySem.W.kitx_dict I.kIn ⟨o, h1, h2.1⟩ e (fun z => nomatch z) h
  | @ins a C dx fs ea cl ha hn htk hm =>
    cases (show u = Value.ref a from rx)
    obtain ⟨mA, O, _⟩ := ins_get I.hok ea
    obtain ⟨od, J, _⟩ := O.look
    exact PySem.W.kia_one (PySem.W.kitx_own (cl.get _) cl.hd ha hn htk hm) I.kIn J e (fun z => nomatch z) h
end
end L2

namespace L2
open PySem PySem.Spec PyProof.Rows

/-! ### room -/
structure Room (k : Nat) (A : Around) : Prop where
  hd : A.handled = none
  dp : A.depth + 3 * k + 5 < recursionLimit
  un : A.units + 16 * k + 200 < cLine
theorem Room.mono {j k : Nat} {A : Around} (r : Room k A) (h : j ≤ k) : Room j A := ⟨r.hd, by have := r.dp; omega, by have := r.un; omega⟩
theorem Room.deeper {k : Nat} {A : Around} (r : Room (k + 1) A) (env : Env) : Room k (A.deeper env) :=
  ⟨r.hd, by have := r.dp; show A.depth + 1 + 3 * k + 5 < _; omega, by have := r.un; show A.units + 3 + 16 * k + 200 < _; omega⟩
theorem Room.in1 {k : Nat} {A : Around} (r : Room (k + 1) A) : Room k A.in1 :=
  ⟨r.hd, by have := r.dp; show A.depth + 3 * k + 5 < _; omega, by have := r.un; show A.units + 1 + 16 * k + 200 < _; omega⟩
theorem make_depth {A : Around} {C : Addr} {us : List Value} {kw : List (Str × Value)} : (A.under (.builtin "type.__call__" ⟨.ref C :: us, kw⟩)).depth = A.depth + 1 := by
  first | rfl | simp [Around.under, Code.weight, Code.isCreation, Code.isGuard, Code.isCaller, Code.frames, Code.isFrame, guardIds]
theorem make_units {A : Around} {C : Addr} {us : List Value} {kw : List (Str × Value)} : (A.under (.builtin "type.__call__" ⟨.ref C :: us, kw⟩)).units = A.units + 1 := by
  first | rfl | simp [Around.under, Code.cUnits, Code.frames, Code.isFrame]
theorem Room.make {k : Nat} {A : Around} (r : Room (k + 1) A) (C : Addr) (us : List Value) (kw : List (Str × Value)) : Room k (A.under (.builtin "type.__call__" ⟨.ref C :: us, kw⟩)) :=
  ⟨r.hd, by have := r.dp; rw [make_depth]; omega, by have := r.un; rw [make_units]; omega⟩
theorem Room.depth {k : Nat} {A : Around} (r : Room k A) : A.depth < recursionLimit := by have := r.dp; omega
theorem Room.units {k : Nat} {A : Around} (r : Room k A) : A.units + 64 < cLine := by have := r.un; omega
theorem Room.units0 {k : Nat} {A : Around} (r : Room k A) : A.units < cLine := by have := r.un; omega

/-! ### argument lists and displays -/
def tNil : TA := fun _ H Q => Q [] H
def tCons (ta : TE) (tr : TA) : TA := fun σ H Q => ta σ H fun x H1 => tr σ H1 fun xs H2 => Q (x :: xs) H2
section
variable {X : Cx} {e : Expr} {es : List Expr} {te : TE} {t : TA} {pos : Pos}
theorem pa_nil : PA X [] tNil := fun _ _ _ _ H Q I h => Calls.spliced_nil ⟨[], H, I, .nil, h⟩
theorem pa_cons (ha : PE X e te) (hr : PA X es t) (hs : starEach (e :: es) X.env = (false, eval e X.env) :: starEach es X.env := by rfl) : PA X (e :: es) (tCons te t) := by
  intro pos pins s σ H Q I h
  rw [hs]
  show wpAny _ _ (spliced ((false, eval e X.env) :: backTo pos (starEach es X.env))) _ _ s
  refine Calls.spliced_cons (thn (ha pins s σ H _ I h) fun u s1 ⟨x, H1, I1, r1, q1⟩ => ?_)
  exact thn (hr pos pins s1 σ H1 _ I1 q1) fun us s2 ⟨xs, H2, I2, r2, q2⟩ => ⟨x :: xs, H2, I2, .cons r1 r2, q2⟩

/-- a tuple, a list of written items -/
def tTup (t : TA) : TE := fun σ H Q => t σ H fun xs H1 => xs.length ≤ sizeLine ∧ ∀ p, H1 p = none → Q (.ref p) (upd H1 p (.tup xs))
def tLst (t : TA) : TE := fun σ H Q => t σ H fun xs H1 => xs.length ≤ sizeLine ∧ ∀ p, H1 p = none → Q (.ref p) (upd H1 p (.lst xs))
theorem pe_tup {x1} (h : PA X es t) : PE X (.Tuple es x1 pos) (tTup t) := by
  intro pins s σ H Q I hq
  refine wpAny_Tuple_spliced (thn (h pos pins s σ H _ I hq) fun us s1 ⟨xs, H1, I1, r, z, q⟩ => ⟨by rw [← r.length]; exact z, ?_⟩)
  have hf : H1 s1.heap.objs.size = none := I1.hok.fresh (Nat.le_refl _)
  refine ⟨.ref s1.heap.objs.size, upd H1 s1.heap.objs.size (.tup xs), I1.laid (t' := s1.toks) (fun b u e => Heap.get?_push_of_some _ e) (Nat.le_refl _) ?_, rfl, q _ hf⟩
  exact ⟨z, us, r, ⟨_, Heap.get?_push_size _ rfl, rfl, _, rfl⟩⟩
theorem pe_lst (h : PA X es t) : PE X (.List es pos) (tLst t) := by
  intro pins s σ H Q I hq
  refine wpAny_List_spliced (thn (h pos pins s σ H _ I hq) fun us s1 ⟨xs, H1, I1, r, z, q⟩ => ⟨by rw [← r.length]; exact z, ?_⟩)
  have hf : H1 s1.heap.objs.size = none := I1.hok.fresh (Nat.le_refl _)
  refine ⟨.ref s1.heap.objs.size, upd H1 s1.heap.objs.size (.lst xs), I1.laid (t' := s1.toks) (fun b u e => Heap.get?_push_of_some _ e) (Nat.le_refl _) ?_, rfl, q _ hf⟩
  exact ⟨z, us, 0, r, Heap.get?_push_size _ rfl⟩
end

/-! ### what a def promises -/
/-- a def's promise: the bound arguments in the parameters' order, the heap, the wanted end, the wanted exception -/
abbrev Sp := List V → Hp → VK → XK → Prop
/-- how an exception lies behind a call (file 08 gives it): the callers' frames, abstract heap and state ahead of the call, the wish, the exception, the state -/
abbrev CXT := List Env → Hp → Shared → XK → Value → Shared → Prop

/-- the state at a call -/
structure Env0 (P : Program) (w : World) (K : PySem.W.Frag) (mg : Str → Option Value) (base : Heap) (A : Around) (outer : List Env) (s : Shared) (H : Hp) : Prop where
  frames : A.frames = some outer
  mod : Mod K mg base
  bs : ∀ b o, base.get? b = some o → s.heap.get? b = some o ∧ H b = none
  bsz : base.objs.size ≤ s.heap.objs.size
  funs : s.heap.FunFrames base outer
  frf : ∀ b ∈ frs outer, H b = none
  hok : HOk P w H s.heap
  bare : AllBare s.gens
/-- a call's end -/
def CE (outer : List Env) (P : Program) (w : World) (H : Hp) (s : Shared) (Q : VK) (u : Value) (s' : Shared) : Prop :=
  ∃ v H', s'.os = s.os ∧ AllBare s'.gens ∧ Un (frs outer) [] H H' s.heap s'.heap ∧ HOk P w H' s'.heap ∧ RelV v u ∧ Q v H'
def CR (CX : CXT) (outer : List Env) (P : Program) (w : World) (H : Hp) (s : Shared) (Q : VK) (E : XK) (r : Result) (s' : Shared) : Prop :=
  match r with
  | .ok (.ret u) => CE outer P w H s Q u s'
  | .ok _ => False
  | .error e => CX outer H s E e s'
structure FnOk (P : Program) (w : World) (K : PySem.W.Frag) (mg : Str → Option Value) (base : Heap) (CX : CXT) (k : Nat) (f : Addr) (fd : FuncData) (ps : List Str) (sp : Sp) : Prop where
  len : ∀ vs H Q E, sp vs H Q E → vs.length = ps.length
  run : ∀ (A : Around) (outer : List Env) (s : Shared) (H : Hp) (args : Args) (us : List Value) (vs : List V) (Q : VK) (E : XK), Room k A → Env0 P w K mg base A outer s H → BindsTo s fd args (ps.zip us) → Vals vs us → sp vs H Q E →
    codeAny (model P w) A (.call (.ref f) args) (CR CX outer P w H s Q E) s
theorem FnOk.mono {P : Program} {w : World} {K : PySem.W.Frag} {mg : Str → Option Value} {base : Heap} {CX : CXT} {j k : Nat} {f : Addr} {fd : FuncData} {ps : List Str} {sp : Sp} (F : FnOk P w K mg base CX j f fd ps sp) (h : j ≤ k) :
    FnOk P w K mg base CX k f fd ps sp := ⟨F.len, fun A outer s H args us vs Q E hr => F.run A outer s H args us vs Q E (hr.mono h)⟩
/-- a weaker promise -/
theorem FnOk.imp {P : Program} {w : World} {K : PySem.W.Frag} {mg : Str → Option Value} {base : Heap} {CX : CXT} {k : Nat} {f : Addr} {fd : FuncData} {ps : List Str} {sp sp' : Sp} (F : FnOk P w K mg base CX k f fd ps sp)
    (h : ∀ vs H Q E, sp' vs H Q E → sp vs H Q E) : FnOk P w K mg base CX k f fd ps sp' :=
  ⟨fun vs H Q E q => F.len vs H Q E (h _ _ _ _ q), fun A outer s H args us vs Q E hr he hb hv hs => F.run A outer s H args us vs Q E hr he hb hv (h _ _ _ _ hs)⟩

theorem Env0.make {P : Program} {w : World} {K : PySem.W.Frag} {mg : Str → Option Value} {base : Heap} {A : Around} {outer : List Env} {s : Shared} {H : Hp} (e : Env0 P w K mg base A outer s H) (C : Addr) (us : List Value) (kw : List (Str × Value)) :
    Env0 P w K mg base (A.under (.builtin "type.__call__" ⟨.ref C :: us, kw⟩)) outer s H := ⟨by first | exact e.frames | (simpa [Around.under, Code.envs, Code.isFrame, pushEnvs] using e.frames), e.mod, e.bs, e.bsz, e.funs, e.frf, e.hok, e.bare⟩
theorem Env0.in1 {P : Program} {w : World} {K : PySem.W.Frag} {mg : Str → Option Value} {base : Heap} {A : Around} {outer : List Env} {s : Shared} {H : Hp} (e : Env0 P w K mg base A outer s H) :
    Env0 P w K mg base A.in1 outer s H := ⟨e.frames, e.mod, e.bs, e.bsz, e.funs, e.frf, e.hok, e.bare⟩

section
variable {X : Cx} {pins : List (Addr × Obj)} {σ : St} {H : Hp} {s s' : Shared}
/-- from a body: what a callee wants -/
theorem Inv.env0 (I : Inv X pins σ H s) : Env0 X.prog X.w X.K X.mg X.base X.A X.stack s H :=
  ⟨I.ok.frames, I.ok.mod, I.bs, Nat.le_trans I.ok.bsz I.sz, I.stack, I.stkFree, I.hok, I.bare⟩
/-- behind a call -/
theorem Inv.after {Q : VK} {u : Value} (I : Inv X pins σ H s) (h : CE X.stack X.prog X.w H s Q u s') : EP X pins σ Q u s' := by
  obtain ⟨v, H', os, bare, un, hok, r, q⟩ := h
  obtain ⟨hh, g, d, t, os'⟩ := s'
  obtain rfl : os' = s.os := os
  exact ⟨v, H', I.call (h' := hh) (g' := g) (d' := d) (t' := t) (ch := []) un hok bare (fun b z => absurd z (by simp)), r, q⟩
end

/-! ### calls -/
/-- f(..): the written arguments, then the defaults dvs; E: what is wanted of an exception -/
def tCall (sp : Sp) (dvs : List V) (E : XK) (t : TA) : TE := fun σ H Q => t σ H fun vs H1 => sp (vs ++ dvs) H1 Q E
/-- o.m(..) of an instance of the class at C -/
def tMeth (C : Addr) (m : Str) (sp : Sp) (dvs : List V) (E : XK) (ta : TE) (t : TA) : TE := fun σ H Q => ta σ H fun x H1 => ∃ a dx fs, x = .ref a ∧ H1 a = some (.ins C dx fs) ∧ fs.lookup m = none ∧
  t σ H1 fun vs H2 => sp (x :: (vs ++ dvs)) H2 Q E
/-- C(..): a new instance and its dict, then __init__ -/
def tMake (C : Addr) (sp : Sp) (dvs : List V) (E : XK) (t : TA) : TE := fun σ H Q => t σ H fun vs H1 => ∀ x dx, H1 x = none → H1 dx = none → dx ≠ x →
  sp (.ref x :: (vs ++ dvs)) (upd (upd H1 dx (.own x)) x (.ins C dx [])) (fun v H2 => v = .non ∧ Q (.ref x) H2) E

/-- how the parameters are bound: us the positional arguments, kw the keywords' values by name, ds the defaults that fill up -/
def Binds (K : PySem.W.Frag) (fd : FuncData) (ps : List Str) (ds : List Value) : Prop :=
  ∀ (s : Shared) (us : List Value), K.In s.heap → (us ++ ds).length = ps.length → BindsTo s fd ⟨us, []⟩ (ps.zip (us ++ ds))
/-- every parameter is given -/
theorem Binds.all {K : PySem.W.Frag} {fd : FuncData} {ps : List Str} (h : ∀ us : List Value, us.length = ps.length → bindArgs fd ⟨us, []⟩ = pure (ps.zip us)) : Binds K fd ps [] := fun s us _ hl => by
  rw [List.append_nil] at hl ⊢
  exact .of_eq (h us hl)

/-- an exception of a callee reaches what this body wants of exceptions -/
def Passes (CX : CXT) (X : Cx) (E : XK) : Prop := ∀ (pins : List (Addr × Obj)) (σ : St) (H : Hp) (s : Shared) (e : Value) (s' : Shared), Inv X pins σ H s → CX X.stack H s E e s' → X.xe e s'

section
variable {X : Cx} {CX : CXT} {k : Nat} {f C : Addr} {fd : FuncData} {ps : List Str} {sp : Sp} {dvs : List V} {ds : List Value} {E : XK} {x m : Str} {p pos apos : Pos} {e o : Expr} {es : List Expr} {ta : TE} {t : TA}

/-- the callee runs -/
theorem run_fn {pins : List (Addr × Obj)} {σ : St} {H : Hp} {s : Shared} {Q : VK} {us : List Value} {vs : List V} (F : FnOk X.prog X.w X.K X.mg X.base CX k f fd ps sp) (hr : Room k X.A) (hb : Binds X.K fd ps ds) (hd : Vals dvs ds) (hx : Passes CX X E)
    (I : Inv X pins σ H s) (r : Vals vs us) (h : sp (vs ++ dvs) H Q E) : wpAny (model X.prog X.w) X.A (call (.ref f) us) (EP X pins σ Q) X.xe s := by
  have r2 : Vals (vs ++ dvs) (us ++ ds) := r.append hd
  have hl : (us ++ ds).length = ps.length := by rw [← r2.length]; exact F.len _ _ _ _ h
  refine wpAny_call (codeAny_mono (F.run X.A X.stack s H ⟨us, []⟩ (us ++ ds) (vs ++ dvs) Q E hr I.env0 (hb s us I.kIn hl) r2 h) fun r s' hq => ?_)
  cases r with
  | error e => exact hx pins σ H s e s' I hq
  | ok fl =>
    cases fl with
    | ret u => exact I.after hq
    | next => exact False.elim hq
    | brk => exact False.elim hq
    | cont => exact False.elim hq

theorem pe_call (F : FnOk X.prog X.w X.K X.mg X.base CX k f fd ps sp) (hr : Room k X.A) (hg : Gl X x) (hm : X.mg x = some (.ref f)) (hk : PySem.W.keepIn X.K (.ref f) = true) (hb : Binds X.K fd ps ds) (hd : Vals dvs ds) (hx : Passes CX X E)
    (ha : PA X (e :: es) t) (hdb : (x == ("__debug__" : Str)) = false := by decide) (he : starEach (e :: es) X.env = (false, eval e X.env) :: starEach es X.env := by rfl) (hpl : (backTo pos (starEach es X.env)).any (·.1) = false := by rfl) :
    PE X (.Call (.Name x p) (e :: es) [] pos) (tCall sp dvs E t) := by
  intro pins s σ H Q I h
  refine wpAny_Call_Name_kw (ld_glob I hg hm ?_ hdb)
  refine PySem.W.callWith_K (h₀ := X.base) I.ok.mod.kin hk (thn (ha pos pins s σ H _ I h) fun us s1 ⟨vs, H1, I1, r, q⟩ => ⟨I1.kIn, ?_⟩) he hpl
  exact run_fn F hr hb hd hx I1 r q
theorem pe_call0 (F : FnOk X.prog X.w X.K X.mg X.base CX k f fd ps sp) (hr : Room k X.A) (hg : Gl X x) (hm : X.mg x = some (.ref f)) (hk : PySem.W.keepIn X.K (.ref f) = true) (hb : Binds X.K fd ps ds) (hd : Vals dvs ds) (hx : Passes CX X E)
    (hdb : (x == ("__debug__" : Str)) = false := by decide) : PE X (.Call (.Name x p) [] [] pos) (tCall sp dvs E tNil) := by
  intro pins s σ H Q I h
  refine wpAny_Call_Name_kw (ld_glob I hg hm ?_ hdb)
  exact PySem.W.callWith_K0 I.kIn hk (run_fn (us := []) F hr hb hd hx I .nil h)

/-- o.m(e, ..) -/
theorem pe_meth {pl : Sem Bool} (he : PE X o ta) (c : Cls X.K C) (hm : Meth X.K C m f) (F : FnOk X.prog X.w X.K X.mg X.base CX k f fd ps sp) (hr : Room k X.A) (hb : Binds X.K fd ps ds) (hd : Vals dvs ds) (hx : Passes CX X E) (ha : PA X (e :: es) t)
    (hst : starEach (e :: es) X.env = (false, eval e X.env) :: starEach es X.env := by rfl) (hpl : (backTo pos (starEach es X.env)).any (·.1) = false := by rfl)
    (ht : eval (.Call (.Attribute o m apos) (e :: es) [] pos) X.env = (do
      let ov ← eval o X.env
      standAt apos.atName
      let (f, first) ← holding [ov] (getMethod ov m pl)
      callWith pos f first (backTo pos (starEach (e :: es) X.env)) (backToKw pos (keywordEach [] X.env))) := by rfl) :
    PE X (.Call (.Attribute o m apos) (e :: es) [] pos) (tMeth C m sp dvs E ta t) := by
  intro pins s σ H Q I h
  refine PySem.W.methodCall_KW (pl := pl) (thn (he pins s σ H _ I h) fun u s1 ⟨x, H1, I1, rx, a, dx, fs, ex, ea, l, q⟩ => ?_) ht
  subst ex
  obtain rfl : u = Value.ref a := rx
  refine getmeth_ok I1 ea c hm l ?_
  refine PySem.W.callWith_K (first := [.ref a]) (h₀ := X.base) I.ok.mod.kin hm.kp (thn (ha pos pins s1 σ H1 _ I1 q) fun us s2 ⟨vs, H2, I2, r, q2⟩ => ⟨I2.kIn, ?_⟩) hst hpl
  exact run_fn (us := .ref a :: us) (vs := .ref a :: vs) F hr hb hd hx I2 (.cons rfl r) q2
/-- o.m() -/
theorem pe_meth0 {pl : Sem Bool} (he : PE X o ta) (c : Cls X.K C) (hm : Meth X.K C m f) (F : FnOk X.prog X.w X.K X.mg X.base CX k f fd ps sp) (hr : Room k X.A) (hb : Binds X.K fd ps ds) (hd : Vals dvs ds) (hx : Passes CX X E)
    (ht : eval (.Call (.Attribute o m apos) [] [] pos) X.env = (do
      let ov ← eval o X.env
      standAt apos.atName
      let (f, first) ← holding [ov] (getMethod ov m pl)
      callWith pos f first (backTo pos (starEach [] X.env)) (backToKw pos (keywordEach [] X.env))) := by rfl) :
    PE X (.Call (.Attribute o m apos) [] [] pos) (tMeth C m sp dvs E ta tNil) := by
  intro pins s σ H Q I h
  refine PySem.W.methodCall_KW (pl := pl) (thn (he pins s σ H _ I h) fun u s1 ⟨x, H1, I1, rx, a, dx, fs, ex, ea, l, q⟩ => ?_) ht
  subst ex
  obtain rfl : u = Value.ref a := rx
  refine getmeth_ok I1 ea c hm l ?_
  exact PySem.W.callWith_K0 (first := [.ref a]) I1.kIn hm.kp (run_fn (us := [.ref a]) (vs := [.ref a]) F hr hb hd hx I1 (.cons rfl .nil) q)

/-- what a class must have to be made -/
structure Mk (K : PySem.W.Frag) (C f : Addr) : Prop where
  makes : PySem.W.makesIn K C = true
  init : PySem.W.findIn K (.ref C) "__init__" = some (some (.ref f))
  fn : PySem.W.isFn K (.ref f) = true
  kp : PySem.W.keepIn K (.ref C) = true

theorem run_make {pins : List (Addr × Obj)} {σ : St} {H : Hp} {s : Shared} {Q : VK} {us : List Value} {vs : List V} (M : Mk X.K C f) (F : FnOk X.prog X.w X.K X.mg X.base CX k f fd ps sp) (hr : Room (k + 1) X.A) (hb : Binds X.K fd ps ds) (hd : Vals dvs ds)
    (hx : Passes CX X E) (I : Inv X pins σ H s) (r : Vals vs us)
    (h : ∀ x dx, H x = none → H dx = none → dx ≠ x → sp (.ref x :: (vs ++ dvs)) (upd (upd H dx (.own x)) x (.ins C dx [])) (fun v H2 => v = .non ∧ Q (.ref x) H2) E) :
    wpAny (model X.prog X.w) X.A (call (.ref C) us) (EP X pins σ Q) X.xe s := by
  have hq := h (s.heap.objs.size + 1) s.heap.objs.size (I.hok.fresh (Nat.le_succ _)) (I.hok.fresh (Nat.le_refl _)) (Nat.ne_of_lt (Nat.lt_succ_self _))
  have I2 := Inv.made (C := C) I
  have r2 : Vals (V.ref (s.heap.objs.size + 1) :: (vs ++ dvs)) (Value.ref (s.heap.objs.size + 1) :: (us ++ ds)) := .cons rfl (r.append hd)
  have hl : (Value.ref (s.heap.objs.size + 1) :: us ++ ds).length = ps.length := by
    have e := r2.length
    rw [F.len _ _ _ _ hq] at e
    exact e.symm
  refine wpAny_call (make_map (f := f) I.kIn M.makes M.init (beq_iff_eq.mp M.fn) (codeAny_mono (F.run _ X.stack _ _ ⟨Value.ref (s.heap.objs.size + 1) :: us, []⟩ (Value.ref (s.heap.objs.size + 1) :: (us ++ ds)) _ _ E (hr.make C us [])
    (I2.env0.make C us []) (hb _ (Value.ref (s.heap.objs.size + 1) :: us) I2.kIn hl) r2 hq) fun r s' hq' => ?_))
  cases r with
  | error e => exact hx pins σ _ _ e s' I2 hq'
  | ok fl =>
    cases fl with
    | ret u =>
      obtain ⟨v, H', I3, rv, ev, q3⟩ := I2.after hq'
      subst ev
      exact ⟨rv, ⟨V.ref (s.heap.objs.size + 1), H', I3, rfl, q3⟩⟩
    | next => exact False.elim hq'
    | brk => exact False.elim hq'
    | cont => exact False.elim hq'
theorem pe_make (M : Mk X.K C f) (F : FnOk X.prog X.w X.K X.mg X.base CX k f fd ps sp) (hr : Room (k + 1) X.A) (hg : Gl X x) (hm : X.mg x = some (.ref C)) (hb : Binds X.K fd ps ds) (hd : Vals dvs ds) (hx : Passes CX X E)
    (ha : PA X (e :: es) t) (hdb : (x == ("__debug__" : Str)) = false := by decide) (he : starEach (e :: es) X.env = (false, eval e X.env) :: starEach es X.env := by rfl) (hpl : (backTo pos (starEach es X.env)).any (·.1) = false := by rfl) :
    PE X (.Call (.Name x p) (e :: es) [] pos) (tMake C sp dvs E t) := by
  intro pins s σ H Q I h
  refine wpAny_Call_Name_kw (ld_glob I hg hm ?_ hdb)
  refine PySem.W.callWith_K (h₀ := X.base) I.ok.mod.kin M.kp (thn (ha pos pins s σ H _ I h) fun us s1 ⟨vs, H1, I1, r, q⟩ => ⟨I1.kIn, ?_⟩) he hpl
  exact run_make M F hr hb hd hx I1 r q
theorem pe_make0 (M : Mk X.K C f) (F : FnOk X.prog X.w X.K X.mg X.base CX k f fd ps sp) (hr : Room (k + 1) X.A) (hg : Gl X x) (hm : X.mg x = some (.ref C)) (hb : Binds X.K fd ps ds) (hd : Vals dvs ds) (hx : Passes CX X E)
    (hdb : (x == ("__debug__" : Str)) = false := by decide) : PE X (.Call (.Name x p) [] [] pos) (tMake C sp dvs E tNil) := by
  intro pins s σ H Q I h
  refine wpAny_Call_Name_kw (ld_glob I hg hm ?_ hdb)
  exact PySem.W.callWith_K0 I.kIn M.kp (run_make (us := []) M F hr hb hd hx I .nil h)
end

/-! ### keywords -/
/-- the values of the keywords, from the left -/
def PK (X : Cx) (kws : List Keyword) (t : TA) : Prop :=
  ∀ (pos : Pos) (pins : List (Addr × Obj)) (s : Shared) (σ : St) (H : Hp) (Q : List V → Hp → Prop), Inv X pins σ H s → t σ H Q → wpAny (model X.prog X.w) X.A (evalAll ((backToKw pos (keywordEach kws X.env)).map (·.2))) (AP X pins σ Q) X.xe s
section
variable {X : Cx} {CX : CXT} {k : Nat} {f C : Addr} {fd : FuncData} {ps ks : List Str} {sp : Sp} {E : XK} {x m : Str} {p pos apos kpos : Pos} {e o : Expr} {es : List Expr} {kws : List Keyword} {te ta : TE} {t tk : TA} {nm : Option Str}
theorem pk_nil : PK X [] tNil := fun _ _ _ _ H Q I h => wpAny_evalAll_nil ⟨[], H, I, .nil, h⟩
theorem pk_cons (ha : PE X e te) (hr : PK X kws t) : PK X (⟨nm, e, kpos⟩ :: kws) (tCons te t) := by
  intro pos pins s σ H Q I h
  show wpAny _ _ (evalAll ((do let v ← eval e X.env; standAt pos; pure v) :: (backToKw pos (keywordEach kws X.env)).map (·.2))) _ _ s
  refine wpAny_evalAll_cons (wpAny_bind (thn (ha pins s σ H _ I h) fun u s1 ⟨x, H1, I1, r1, q1⟩ => wpAny_bind (wpAny_standAt (wpAny_pure ?_))))
  exact thn (hr pos pins s1 σ H1 _ I1 q1) fun us s2 ⟨xs, H2, I2, r2, q2⟩ => ⟨x :: xs, H2, I2, .cons r1 r2, q2⟩

/-- how a call with keywords binds: g puts the positional values us and the keywords' values ws (names ks) in the parameters' order, defaults among them -/
structure KBinds (K : PySem.W.Frag) (fd : FuncData) (ps ks : List Str) (g : List Value → List Value → List Value) (gV : List V → List V → List V) : Prop where
  to : ∀ (s : Shared) (us ws : List Value), K.In s.heap → (g us ws).length = ps.length → BindsTo s fd ⟨us, ks.zip ws⟩ (ps.zip (g us ws))
  rel : ∀ {vs : List V} {us : List Value} {zs : List V} {ws : List Value}, Vals vs us → Vals zs ws → Vals (gV vs zs) (g us ws)
def tCallK (sp : Sp) (gV : List V → List V → List V) (E : XK) (t tk : TA) : TE := fun σ H Q => t σ H fun vs H1 => tk σ H1 fun zs H2 => sp (gV vs zs) H2 Q E
variable {g : List Value → List Value → List Value} {gV : List V → List V → List V}
theorem run_fnk {pins : List (Addr × Obj)} {σ : St} {H : Hp} {s : Shared} {Q : VK} {us ws : List Value} {vs zs : List V} (F : FnOk X.prog X.w X.K X.mg X.base CX k f fd ps sp) (hr : Room k X.A) (hb : KBinds X.K fd ps ks g gV) (hx : Passes CX X E)
    (I : Inv X pins σ H s) (r : Vals vs us) (rz : Vals zs ws) (h : sp (gV vs zs) H Q E) : wpAny (model X.prog X.w) X.A (call (.ref f) us (ks.zip ws)) (EP X pins σ Q) X.xe s := by
  have r2 := hb.rel r rz
  have hl : (g us ws).length = ps.length := by rw [← r2.length]; exact F.len _ _ _ _ h
  refine wpAny_call (codeAny_mono (F.run X.A X.stack s H ⟨us, ks.zip ws⟩ (g us ws) (gV vs zs) Q E hr I.env0 (hb.to s us ws I.kIn hl) r2 h) fun r s' hq => ?_)
  cases r with
  | error e => exact hx pins σ H s e s' I hq
  | ok fl =>
    cases fl with
    | ret u => exact I.after hq
    | next => exact False.elim hq
    | brk => exact False.elim hq
    | cont => exact False.elim hq
/-- f(e, .., k = v, ..) -/
theorem pe_callK (F : FnOk X.prog X.w X.K X.mg X.base CX k f fd ps sp) (hr : Room k X.A) (hg : Gl X x) (hm : X.mg x = some (.ref f)) (hk : PySem.W.keepIn X.K (.ref f) = true) (hb : KBinds X.K fd ps ks g gV) (hx : Passes CX X E)
    (ha : PA X (e :: es) t) (hkw : PK X kws tk) (hall : (backToKw pos (keywordEach kws X.env)).all (·.1.isSome) = true := by rfl) (hks : (backToKw pos (keywordEach kws X.env)).filterMap (·.1) = ks := by rfl)
    (hdb : (x == ("__debug__" : Str)) = false := by decide) (he : starEach (e :: es) X.env = (false, eval e X.env) :: starEach es X.env := by rfl)
    (hpl : ((backTo pos (starEach (e :: es) X.env)).any (·.1) || (backToKw pos (keywordEach kws X.env)).any (·.1.isNone)) = false := by rfl) :
    PE X (.Call (.Name x p) (e :: es) kws pos) (tCallK sp gV E t tk) := by
  intro pins s σ H Q I h
  refine wpAny_Call_Name_kw (ld_glob I hg hm ?_ hdb)
  refine PySem.W.callWith_KW (h₀ := X.base) I.ok.mod.kin hk hall (thn (ha pos pins s σ H _ I h) fun us s1 ⟨vs, H1, I1, r, q⟩ => ?_) hpl he
  refine thn (hkw pos pins s1 σ H1 _ I1 q) fun ws s2 ⟨zs, H2, I2, rz, q2⟩ => ⟨I2.kIn, ?_⟩
  rw [hks]
  exact run_fnk F hr hb hx I2 r rz q2
end

/-! ### a def's body keeps its promise -/
/-- names: the parameters first -/
structure FnScope (N P : List Str) (sc : Scope) : Prop where
  kind : sc.kind = .function
  co : sc.isCoroutine = false
  gen : sc.isGenerator = false
  nd : N.Nodup
  pre : N.take P.length = P
  par : ∀ x ∈ P, sc.names.lookup x = some .local ∨ sc.names.lookup x = some .cell
  nofree : ∀ y ∈ sc.names, y.2 ≠ .free

theorem bindL_out {kindOf : Str → Option NameKind} {x : Str} : ∀ {binds : List (Str × Value)} {m : Str → Option Value}, (∀ v, (x, v) ∉ binds) → bindL kindOf binds m x = m x
  | [], _, _ => rfl
  | (n, v) :: r, m, h => by
    unfold bindL
    rw [bindL_out fun w hw => h w (List.mem_cons_of_mem _ hw)]
    split
    · have : x ≠ n := by rintro rfl; exact h v List.mem_cons_self
      simp [this]
    · rfl
theorem bindC_out {kindOf : Str → Option NameKind} {x : Str} : ∀ {binds : List (Str × Value)} {m : Str → Option Value}, (∀ v, (x, v) ∉ binds) → bindC kindOf binds m x = m x
  | [], _, _ => rfl
  | (n, v) :: r, m, h => by
    unfold bindC
    rw [bindC_out fun w hw => h w (List.mem_cons_of_mem _ hw)]
    split
    · rfl
    · have : x ≠ n := by rintro rfl; exact h v List.mem_cons_self
      simp [this]
theorem bindL_get {kindOf : Str → Option NameKind} {x : Str} {v : Value} : ∀ {P : List Str} {vs : List Value} {i : Nat} {m : Str → Option Value}, P.Nodup → P[i]? = some x → vs[i]? = some v → kindOf x = some .local →
    bindL kindOf (P.zip vs) m x = some v
  | [], _, _, _, _, h, _, _ => by simp at h
  | _ :: _, [], _, _, _, _, h, _ => by simp at h
  | p :: P, w :: vs, 0, m, nd, h1, h2, hk => by
    simp at h1 h2; subst h1; subst h2
    show bindL kindOf ((p, w) :: P.zip vs) m p = _
    unfold bindL
    rw [bindL_out fun v hv => (List.nodup_cons.mp nd).1 (List.of_mem_zip hv).1, if_pos hk]
    simp
  | p :: P, w :: vs, i + 1, m, nd, h1, h2, hk => by
    show bindL kindOf ((p, w) :: P.zip vs) m x = _
    unfold bindL
    exact bindL_get (i := i) (List.nodup_cons.mp nd).2 (by simpa using h1) (by simpa using h2) hk
theorem bindC_get {kindOf : Str → Option NameKind} {x : Str} {v : Value} : ∀ {P : List Str} {vs : List Value} {i : Nat} {m : Str → Option Value}, P.Nodup → P[i]? = some x → vs[i]? = some v → kindOf x ≠ some .local →
    bindC kindOf (P.zip vs) m x = some v
  | [], _, _, _, _, h, _, _ => by simp at h
  | _ :: _, [], _, _, _, _, h, _ => by simp at h
  | p :: P, w :: vs, 0, m, nd, h1, h2, hk => by
    simp at h1 h2; subst h1; subst h2
    show bindC kindOf ((p, w) :: P.zip vs) m p = _
    unfold bindC
    rw [bindC_out fun v hv => (List.nodup_cons.mp nd).1 (List.of_mem_zip hv).1, if_neg hk]
    simp
  | p :: P, w :: vs, i + 1, m, nd, h1, h2, hk => by
    show bindC kindOf ((p, w) :: P.zip vs) m x = _
    unfold bindC
    exact bindC_get (i := i) (List.nodup_cons.mp nd).2 (by simpa using h1) (by simpa using h2) hk

/-- the names' values at the entry -/
def start (N : List Str) (vs : List V) : St := vs.map some ++ List.replicate (N.length - vs.length) none

/-- the context of a def's body, at its entry; an exception leaves the frame, then lies as CX says -/
def cxOf (CX : CXT) (P : Program) (w : World) (K : PySem.W.Frag) (mg : Str → Option Value) (base : Heap) (N : List Str) (qual : Str) (scope : Scope) (f : Addr) (cd : Value) (A : Around) (outer : List Env) (s : Shared) (H : Hp) (E : XK) : Cx where
  prog := P
  w := w
  K := K
  mg := mg
  base := base
  A := A.deeper (envOfC qual scope s.heap.objs.size f cd)
  N := N
  s₀ := s
  H₀ := H
  env := envOfC qual scope s.heap.objs.size f cd
  outer := outer
  stack := envOfC qual scope s.heap.objs.size f cd :: outer
  ex := []
  calm := true
  fn := fun _ => true
  pn := []
  xe := fun e s' => wpAny (model P w) (A.deeper (envOfC qual scope s.heap.objs.size f cd)) (leaving (envOfC qual scope s.heap.objs.size f cd) e) (fun _ s'' => CX outer H s E e s'') (fun e' s'' => CX outer H s E e' s'') s'

theorem cell_has {sc : Scope} {n : Nat} {x : Str} (h : sc.names.lookup x = some .cell) : ∃ c, (cellsFrom n sc.names []).lookup x = some c := by
  have q := PySem.W.cellsFrom_some sc.names n [] (.inl h)
  exact Option.isSome_iff_exists.mp q

theorem inv_start {CX : CXT} {P : Program} {w : World} {K : PySem.W.Frag} {mg : Str → Option Value} {base : Heap} {N ps : List Str} {qual : Str} {scope : Scope} {f : Addr} {cd : Value} {A : Around} {outer : List Env} {s s1 : Shared} {H : Hp} {E : XK} {us : List Value} {vs : List V}
    (S : FnScope N ps scope) (hd : A.handled = none) (e0 : Env0 P w K mg base A outer s H) (hl : vs.length = ps.length) (r : Vals vs us)
    (x : InCallC s s.heap.objs.size (bindL (envOfC qual scope s.heap.objs.size f cd).kindOf (ps.zip us) fun _ => none) (cellsFrom (s.heap.objs.size + 1) scope.names []) (bindC (envOfC qual scope s.heap.objs.size f cd).kindOf (ps.zip us) fun _ => none) s1) :
    Inv (cxOf CX P w K mg base N qual scope f cd A outer s H E) [] (start N vs) H s1 := by
  have hpl : ps.length ≤ N.length := by have := congrArg List.length S.pre; rw [List.length_take] at this; omega
  obtain ⟨h1, tk, rfl, hk⟩ := x.done
  have noA : ∀ b : Addr, b ∉ (cxOf CX P w K mg base N qual scope f cd A outer s H E).ex := fun b z => absurd (show b ∈ ([] : List Addr) from z) (by simp)
  refine ⟨⟨e0.mod, S.kind, rfl, rfl, Nat.le_refl _, fun y z c h1 h2 => ?_, fun y hy => ?_, fun y c _ h => ?_, fun _ => hd, Around.frames_deeper e0.frames, .inr ⟨rfl, rfl⟩, fun b z => absurd z (noA b), e0.bs, e0.bsz, fun b _ _ => noA b, fun b z => absurd z (noA b), e0.funs, e0.frf⟩,
    rfl, e0.bare, Un.kept hk, ⟨_, x.toInCall.ns, fun i y v h1 h2 h3 => ?_⟩, fun y c h => ⟨_, x.cell y c h⟩, e0.hok.fresh (Nat.le_refl _), fun y c h => ?_, fun p hp => absurd (show p ∈ ([] : List (Addr × Obj)) from hp) (by simp), e0.hok.kept hk, ?_⟩
  · exact name_of_addr x.apart (PySem.mem_of_lookup h1) (PySem.mem_of_lookup h2)
  · have hy : scope.names.lookup y = some .cell ∨ scope.names.lookup y = some .free := hy
    rcases hy with hy | hy
    · exact cell_has hy
    · exact absurd rfl (S.nofree _ (PySem.mem_of_lookup hy))
  · exact Nat.le_of_lt (x.above y c (PySem.mem_of_lookup h))
  · have hi : i < vs.length := by
      unfold start at h2
      by_cases hi : i < vs.length
      · exact hi
      · rw [List.getElem?_append_right (by simpa using hi)] at h2
        rw [List.getElem?_replicate] at h2
        split at h2 <;> cases h2
    have ha : vs[i]? = some v := by
      unfold start at h2
      rw [List.getElem?_append_left (by simpa using hi), List.getElem?_map] at h2
      cases e : vs[i]? with
      | none => rw [e] at h2; cases h2
      | some a => rw [e] at h2; cases h2; rfl
    obtain ⟨u, hu, rv⟩ := r.get ha
    have hp : ps[i]? = some y := by
      rw [← S.pre, List.getElem?_take_of_lt (by omega)]; exact h1
    have ndP : ps.Nodup := by rw [← S.pre]; exact S.nd.sublist (List.take_sublist _ _)
    refine ⟨u, rv, ?_⟩
    rcases S.par y (List.mem_of_getElem? hp) with k | k
    · exact .inl ⟨k, bindL_get ndP hp hu k⟩
    · obtain ⟨c, e⟩ := cell_has (n := s.heap.objs.size + 1) k
      refine .inr ⟨.inl k, c, e, ?_⟩
      have q := x.cell y c e
      rw [bindC_get ndP hp hu (by show scope.names.lookup y ≠ _; rw [k]; decide)] at q
      exact q
  · exact e0.hok.fresh (Nat.le_of_lt (x.above y c (PySem.mem_of_lookup h)))
  · unfold start
    show _ = N.length
    rw [List.length_append, List.length_map, List.length_replicate]
    omega

/-- THE RULE: a def (or a method) of the text, by its body. The body's reading t is chosen for each entry; it is run at the parameters' values -/
theorem fn_of {CX : CXT} {P : Program} {w : World} {K : PySem.W.Frag} {mg : Str → Option Value} {base : Heap} {k : Nat} {f : Addr} {name qual : Str} {params : Arguments} {body : List Stmt} {scope : Scope} {dV kV doc pm cdv ct oc : Value} {an od : Option Addr}
    {osl : Array (Option Value)} {N ps : List Str} {sp : Sp} (lk : K.lookup f = some ⟨oc, od, .func (PySem.W.fnOf name qual params body scope dV kV doc pm an cdv ct), osl⟩) (hcd : PySem.W.codeIn K cdv qual = true) (S : FnScope N ps scope)
    (len : ∀ vs H Q E, sp vs H Q E → vs.length = ps.length)
    (hbody : ∀ (A : Around) (outer : List Env) (s : Shared) (H : Hp) (vs : List V) (Q : VK) (E : XK), Room k (A.deeper (envOfC qual scope s.heap.objs.size f cdv)) → sp vs H Q E →
      ∃ t, PSs (cxOf CX P w K mg base N qual scope f cdv A outer s H E) body t ∧ t { nx := fun _ H' => Q .non H', rt := Q } (start N vs) H) :
    FnOk P w K mg base CX (k + 1) f (PySem.W.fnOf name qual params body scope dV kV doc pm an cdv ct) ps sp := by
  refine ⟨len, fun A outer s H args us vs Q E hr e0 hb r hsp => ?_⟩
  have hl := len _ _ _ _ hsp
  have KX : K.In s.heap := e0.mod.kin.keeps fun b o e => (e0.bs b o e).1
  have lim : s.heap.NoLimit := e0.mod.nolimit.keeps fun b o e => (e0.bs b o e).1
  have hkind : ∀ y ∈ ps.zip us, scope.names.lookup y.1 = some .local ∨ (scope.names.lookup y.1 = some .cell ∧ ((cellsFrom (s.heap.objs.size + 1) scope.names []).lookup y.1).isSome = true) := fun ⟨n, v⟩ hy => by
    rcases S.par n (List.of_mem_zip hy).1 with q | q
    · exact .inl q
    · exact .inr ⟨q, PySem.W.cellsFrom_some _ _ _ (.inl q)⟩
  refine codeAny_call_function hr.depth (KX _ _ lk) rfl S.co S.gen rfl (PySem.W.codeRec_of KX hcd) (hb _ _ _ _ ?_)
  refine wpAny_newFunctionEnv_cells S.kind hkind fun env he s1 x => ?_
  subst he
  refine ⟨lim.keeps x.toInCall.keep, codeAny_func ?_⟩
  obtain ⟨t, ht, hq⟩ := hbody A outer s H vs Q E (hr.deeper _) hsp
  have I : Inv (cxOf CX P w K mg base N qual scope f cdv A outer s H E) [] (start N vs) H s1 := inv_start S hr.hd e0 hl r x
  refine wpAny_mono (ht [] s1 (start N vs) H _ I hq) (fun fl s' hs => ?_) fun e s' hs => hs
  have fin : ∀ {σ' : St} {H' : Hp} {v : V} {u : Value}, Inv (cxOf CX P w K mg base N qual scope f cdv A outer s H E) [] σ' H' s' → RelV v u → Q v H' → CE outer P w H s Q u s' :=
    fun {σ' H' v u} J rv q => ⟨v, H', J.os, J.bare, J.base, J.hok, rv, q⟩
  cases fl with
  | ret u =>
    obtain ⟨v, σ', H', J, rv, q⟩ := hs
    exact fin J rv q
  | next =>
    obtain ⟨σ', H', J, q⟩ := hs
    exact fin (v := V.non) (u := Value.none) J rfl q
  | brk =>
    obtain ⟨_, _, _, q⟩ := hs
    exact False.elim q
  | cont =>
    obtain ⟨_, _, _, q⟩ := hs
    exact False.elim q
end L2

namespace L2
open PySem PySem.Spec PyProof.Rows
section
variable {X : Cx} {x : Str} {p pos : Pos} {e : Expr} {es : List Expr} {t : TA} {id T : String} {r : List V → Hp → VK → Prop}

def tCB (r : List V → Hp → VK → Prop) (t : TA) : TE := fun σ H Q => t σ H fun vs H1 => r vs H1 Q
/-- f(e, ..), f a built-in function -/
theorem pe_callB (hc : CallR X (.builtin id) r) (hg : Gl X x) (hm : X.mg x = none) (hv : bootBuiltins x = some (.builtin id)) (ha : PA X (e :: es) t) (hn : x ≠ "__name__" := by decide) (hdb : (x == ("__debug__" : Str)) = false := by decide)
    (he : starEach (e :: es) X.env = (false, eval e X.env) :: starEach es X.env := by rfl) (hpl : (backTo pos (starEach es X.env)).any (·.1) = false := by rfl) : PE X (.Call (.Name x p) (e :: es) [] pos) (tCB r t) := by
  intro pins s σ H Q I h
  refine wpAny_Call_Name_kw (ld_blt I hg hm hv ?_ hn hdb)
  exact PyProof.Rows.callWith_builtin1 (thn (ha pos pins s σ H _ I h) fun us s1 ⟨vs, H1, I1, r1, q1⟩ => hc pins s1 σ H1 vs us Q I1 r1 q1) he hpl
/-- T(e, ..), T a built-in type -/
theorem pe_callTy (hc : CallR X (.type T) r) (hg : Gl X x) (hm : X.mg x = none) (hv : bootBuiltins x = some (.type T)) (ha : PA X (e :: es) t) (hn : x ≠ "__name__" := by decide) (hdb : (x == ("__debug__" : Str)) = false := by decide)
    (he : starEach (e :: es) X.env = (false, eval e X.env) :: starEach es X.env := by rfl) (hpl : (backTo pos (starEach es X.env)).any (·.1) = false := by rfl) : PE X (.Call (.Name x p) (e :: es) [] pos) (tCB r t) := by
  intro pins s σ H Q I h
  refine wpAny_Call_Name_kw (ld_blt I hg hm hv ?_ hn hdb)
  exact PyProof.Rows.callWith_type1 (thn (ha pos pins s σ H _ I h) fun us s1 ⟨vs, H1, I1, r1, q1⟩ => hc pins s1 σ H1 vs us Q I1 r1 q1) he hpl
/-- T() -/
theorem pe_callTy0 (hc : CallR X (.type T) r) (hg : Gl X x) (hm : X.mg x = none) (hv : bootBuiltins x = some (.type T)) (hn : x ≠ "__name__" := by decide) (hdb : (x == ("__debug__" : Str)) = false := by decide) :
    PE X (.Call (.Name x p) [] [] pos) (tCB r tNil) := by
  intro pins s σ H Q I h
  refine wpAny_Call_Name_kw (ld_blt I hg hm hv ?_ hn hdb)
  exact PyProof.Rows.callWith_type0 (hc pins s σ H [] [] Q I .nil h)
end
end L2

namespace HT
open PySem PyProof.Rows

/-- t < u of tuples of ints -/
def lexLt : List Int → List Int → Bool
  | [], [] => false
  | [], _ :: _ => true
  | _ :: _, [] => false
  | x :: xs, y :: ys => if x = y then lexLt xs ys else decide (x < y)
theorem lexLt_cons (x y : Int) (xs ys : List Int) : lexLt (x :: xs) (y :: ys) = if x = y then lexLt xs ys else decide (x < y) := rfl
theorem lexLt_nil_nil : lexLt [] [] = false := rfl
theorem lexLt_nil_cons (y : Int) (ys : List Int) : lexLt [] (y :: ys) = true := rfl
theorem lexLt_cons_nil (x : Int) (xs : List Int) : lexLt (x :: xs) [] = false := rfl

theorem eqAt_int (A : Around) (s : Shared) (a : Int) (t : Tok) (c : Int) (u : Tok) : ∃ e, SeqAt.EqAt A s (.int a t) (.int c u) e ∧ (e = true ↔ a = c) :=
  ⟨(a == c), SeqAt.EqAt.int_int a t c u, by simp⟩
theorem rcLt_int (A : Around) (s : Shared) (a : Int) (t : Tok) (c : Int) (u : Tok) (prog : Program) (w : World) (E : Value → Shared → Prop) (Q : Value → Shared → Prop) (h : Q (.bool (decide (a < c))) s) :
    wpAny (model prog w) A (richCompare .Lt (.int a t) (.int c u)) Q E s :=
  (PyProof.Rows.lt_int h : wpAny (model prog w) A (compareOp .Lt (.int a t) (.int c u)) Q E s)

section
open PySem.SeqAt
open PySem.AutoSeq1 (wpAny_loadPart')
open PySem.MeetsSeq PySem.MeetsSeq2 PySem.MeetsSeq3

theorem tuple_lt_ints (l b : Addr) (items items2 : Array Value) (n n2 : Nat) (dd dd2 : Option Addr) (sl sl2 : Array (Option Value)) (ns ms : List Int) (hi : IntsAre items.toList ns) (hj : IntsAre items2.toList ms) :
    Meets (Builtin.«tuple.__lt__» ⟨[.ref l, .ref b], []⟩)
      (fun _ R s => s.heap.get? l = some { cls := .type "tuple", dict := dd, data := .seq items n, slots := sl } ∧ s.heap.get? b = some { cls := .type "tuple", dict := dd2, data := .seq items2 n2, slots := sl2 } ∧
        R (.ok (.ret (.bool (lexLt ns ms)))) s) :=
  .of_wp fun prog w A R s h => by
    obtain ⟨hp, g, d, tk, os⟩ := s; obtain ⟨hl, hb, h⟩ := h
    have f2 := AutoSeq1.sub_tuple_tuple
    have z1 : items.size = ns.length := by rw [← hi.length]; simp
    have z2 : items2.size = ms.length := by rw [← hj.length]; simp
    wp_walk using wpAny_loadPart' hl, wpAny_loadPart' hb, wpAny_forIn_list _ (fun rest b s' => b.1 = none ∧ s' = ⟨hp, g, d, tk, os⟩ ∧ ∃ (vs ws : List Value) (ns' ms' : List Int), rest = vs.zip ws ∧
      IntsAre vs ns' ∧ IntsAre ws ms' ∧ ns'.length + items2.size = ms'.length + items.size ∧ R (.ok (.ret (.bool (lexLt ns' ms')))) ⟨hp, g, d, tk, os⟩) _
    case turn =>
      rintro ⟨y, x⟩ rest b s' ⟨hb', rfl, vs, ws, ns', ms', hz, hvi, hwi, hlen, hR⟩
      cases hvi with
      | nil => rw [List.zip_nil_left] at hz; cases hz
      | cons a t hvi' =>
        cases hwi with
        | nil => rw [List.zip_nil_right] at hz; cases hz
        | cons c u hwi' =>
          rw [List.zip_cons_cons] at hz
          injection hz with hyx hrest
          injection hyx with hy hx
          subst hy hx
          rw [lexLt_cons] at hR
          simp only [List.length_cons] at hlen
          obtain ⟨e, he, hiff⟩ := eqAt_int A.in1 ⟨hp, g, d, tk, os⟩ a t c u
          refine wpAny_bind (he prog w _ _ ?_)
          cases e with
          | true =>
            rw [if_pos (hiff.mp rfl)] at hR
            wp_walk
            exact ⟨rfl, rfl, _, _, _, _, hrest, hvi', hwi', by omega, hR⟩
          | false =>
            rw [if_neg (fun q => absurd (hiff.mpr q) Bool.false_ne_true)] at hR
            have hri := rcLt_int A.in1 ⟨hp, g, d, tk, os⟩ a t c u prog w
            wp_walk using hri
            exact ⟨_, rfl, by simpa using hR⟩
    case fin =>
      rintro ⟨b1, b2⟩ s' ⟨hb', rfl, vs, ws, ns', ms', hz, hvi, hwi, hlen, hR⟩
      simp only at hb'
      subst hb'
      have hv : lexLt ns' ms' = decide (items.size < items2.size) := by
        cases hvi with
        | nil =>
          cases hwi with
          | nil =>
            simp only [List.length_nil] at hlen
            rw [lexLt_nil_nil]
            exact (decide_eq_false (by omega)).symm
          | cons c u hw =>
            simp only [List.length_nil, List.length_cons] at hlen
            rw [lexLt_nil_cons]
            exact (decide_eq_true (by omega)).symm
        | cons a t hv =>
          cases hwi with
          | nil =>
            simp only [List.length_nil, List.length_cons] at hlen
            rw [lexLt_cons_nil]
            exact (decide_eq_false (by omega)).symm
          | cons c u hw =>
            rw [List.zip_cons_cons] at hz
            cases hz
      rw [hv] at hR
      wp_walk
      exact ⟨_, rfl, by simpa [Builtin.Tuple.tupleCompareSizes] using hR⟩
    case h =>
      exact ⟨rfl, rfl, items.toList, items2.toList, ns, ms, rfl, hi, hj, by omega, h⟩
end

section
variable {prog : Program} {w : World} {A : Around} {E : Value → Shared → Prop} {s : Shared}

theorem lt_tupInts {l b : Addr} {items items2 : Array Value} {ns ms : List Int} {Q : Value → Shared → Prop} (hl : IsTup s.heap l items) (hb : IsTup s.heap b items2) (hi : IntsAre items.toList ns) (hj : IntsAre items2.toList ms)
    (hu : A.units < cLine) (h : Q (.bool (lexLt ns ms)) s) : wpAny (model prog w) A (compareOp .Lt (.ref l) (.ref b)) Q E s := by
  obtain ⟨⟨cls, dd, data, sl⟩, ho, hc, n, hd⟩ := id hl
  obtain ⟨⟨cls2, dd2, data2, sl2⟩, ho2, hc2, n2, hd2⟩ := id hb
  simp only at hc hd hc2 hd2
  subst hc hd hc2 hd2
  exact richCompare_meets_room (op := .Lt) ⟨_, ho, rfl⟩ ⟨_, ho2, rfl⟩ PySem.F.slot_tuple_lt PySem.F.entry_tuple_lt (PySem.F.args_tuple_lt_2 _ _) (tuple_lt_ints l b items items2 n n2 dd dd2 sl sl2 ns ms hi hj)
    ⟨ho, ho2, show Value.bool (lexLt ns ms) ≠ Value.notImplemented ∧ Q (.bool (lexLt ns ms)) s from ⟨(fun x => nomatch x), h⟩⟩ hu

/-- t + u, t not empty -/
theorem cat_tup {t b : Addr} {vs ws : List Value} {Q : Value → Shared → Prop} (ht : IsTup s.heap t vs.toArray) (hb : IsTup s.heap b ws.toArray) (hv : vs ≠ [])
    (h1 : ws = [] → Q (.ref t) s) (h2 : ws ≠ [] → Q (.ref s.heap.objs.size) { s with heap := s.heap.push { cls := .type "tuple", data := .seq (vs ++ ws).toArray } })
    (hsz : vs.length + ws.length ≤ sizeLine) : wpAny (model prog w) A (binaryOp .Add (.ref t) (.ref b)) Q E s := by
  obtain ⟨⟨cls, dd, data, sl⟩, ho, hc, n, hd⟩ := id ht
  obtain ⟨⟨cls2, dd2, data2, sl2⟩, ho2, hc2, n2, hd2⟩ := id hb
  simp only at hc hd hc2 hd2
  subst hc hd hc2 hd2
  have e : vs.toArray ++ ws.toArray = (vs ++ ws).toArray := by simp
  by_cases hw : ws = []
  · exact concat_meets ⟨_, ho, rfl⟩ ⟨_, ho2, rfl⟩ noFill_tuple_add seq_tuple_add PySem.F.slot_tuple_add PySem.F.entry_tuple_add (PySem.F.args_tuple_add_2 _ _)
      (tuple_addW1 t b vs.toArray ws.toArray n n2 dd dd2 sl sl2 (by simpa using hv) (by simp [hw])) ⟨ho, ho2, h1 hw⟩
  · refine concat_meets ⟨_, ho, rfl⟩ ⟨_, ho2, rfl⟩ noFill_tuple_add seq_tuple_add PySem.F.slot_tuple_add PySem.F.entry_tuple_add (PySem.F.args_tuple_add_2 _ _)
      (tuple_addW2 t b vs.toArray ws.toArray n n2 dd dd2 sl sl2 (by simpa using hv) (by simpa using hw) (by rw [List.size_toArray, List.size_toArray]; exact hsz)) ⟨ho, ho2, ?_⟩
    rw [e]
    exact h2 hw

/-! ### t[a:b], not the whole -/
/-- a slice's bound as a place among n (d where it is left out) -/
def sIx (n d : Nat) : Option Int → Nat
  | none => d
  | some v => if v < 0 then (v + (n : Int)).toNat else min v.toNat n
theorem sIx_none (n d : Nat) : sIx n d none = d := rfl
theorem sIx_nat (n d k : Nat) : sIx n d (some (k : Int)) = min k n := by
  show (if (k : Int) < 0 then ((k : Int) + (n : Int)).toNat else min (k : Int).toNat n) = min k n
  rw [if_neg (by omega), Int.toNat_natCast]
theorem sIx_le (n d : Nat) (hd : d ≤ n) (o : Option Int) : sIx n d o ≤ n := by
  cases o with
  | none => exact hd
  | some v =>
    show (if v < 0 then (v + (n : Int)).toNat else min v.toNat n) ≤ n
    by_cases hv : v < 0
    · rw [if_pos hv]; omega
    · rw [if_neg hv]; exact Nat.min_le_right _ _
theorem clip_eq (v : Int) (n d : Nat) : (if v < 0 then max (v + (n : Int)) 0 else min v (n : Int)) = ((sIx n d (some v) : Nat) : Int) := by
  show (if v < 0 then max (v + (n : Int)) 0 else min v (n : Int)) = (((if v < 0 then (v + (n : Int)).toNat else min v.toNat n) : Nat) : Int)
  by_cases hv : v < 0
  · simp only [if_pos hv]; omega
  · simp only [if_neg hv]; omega
theorem adjust_gen (lo hi : Option Int) (n : Nat) : Builtin.Slice.sliceAdjust lo hi 1 (n : Int) = (((sIx n 0 lo : Nat) : Int), ((sIx n n hi : Nat) : Int)) := by
  have h1 : ¬ ((1 : Int) < 0) := by omega
  unfold Builtin.Slice.sliceAdjust
  simp only [h1, if_false]
  refine Prod.ext ?_ ?_
  · cases lo with
    | none => rfl
    | some v => exact clip_eq v n 0
  · cases hi with
    | none => rfl
    | some v => exact clip_eq v n n
theorem places_gen (i j : Nat) : Builtin.Slice.slicePlaces (i : Int) (j : Int) 1 = j - i := by
  unfold Builtin.Slice.slicePlaces
  have h1 : (1 : Int) > 0 := by omega
  simp only [h1, if_true, Int.ediv_one]
  split <;> omega
theorem slicePart_ {v : Value} {o : Option Int} {Q : Option Int → Shared → Prop} (p : IsPart v o) (h : Q o s) : wpAny (model prog w) A (Builtin.Slice.slicePartIndex v) Q E s := by
  cases p with
  | none => exact slicePart_none h
  | int i t => exact slicePart_int h
theorem sliceApplied_gen {sl : Addr} {vl vu : Value} {lo hi : Option Int} {n : Nat} {Q : Int × Int × Nat → Shared → Prop} (hs : s.heap.IsSliceOf sl vl vu .none) (pl : IsPart vl lo) (pu : IsPart vu hi)
    (h : Q (((sIx n 0 lo : Nat) : Int), 1, sIx n n hi - sIx n 0 lo) s) : wpAny (model prog w) A (Builtin.Slice.sliceApplied (.ref sl) (pure (n : Int))) Q E s := by
  obtain ⟨os, hos, hcs, hds⟩ := id hs
  unfold Builtin.Slice.sliceApplied Builtin.Slice.sliceFields
  refine wpAny_bind (wpAny_bind (wpAny_field hos hds (x := vl) rfl (wpAny_bind (wpAny_field hos hds (x := vu) rfl (wpAny_bind (wpAny_field hos hds (x := .none) rfl (wpAny_pure ?_)))))))
  refine wpAny_bind (slicePart_none ?_)
  show wpAny _ _ (if ((1 : Int) == 0) = true then _ else _) _ _ s
  rw [if_neg (by decide)]
  refine wpAny_bind (slicePart_ pl (wpAny_bind (slicePart_ pu (wpAny_bind (wpAny_pure ?_)))))
  show wpAny _ _ (match Builtin.Slice.sliceAdjust lo hi 1 (n : Int) with | (lo, hi) => pure (lo, (1 : Int), Builtin.Slice.slicePlaces lo hi 1)) _ _ s
  rw [adjust_gen lo hi n]
  show wpAny _ _ (pure (((sIx n 0 lo : Nat) : Int), (1 : Int), Builtin.Slice.slicePlaces ((sIx n 0 lo : Nat) : Int) ((sIx n n hi : Nat) : Int) 1)) _ _ s
  rw [places_gen]
  exact wpAny_pure h
theorem pick_gen (xs : Array Value) (i k : Nat) : ((List.range k).filterMap fun (m : Nat) => xs[((i : Int) + (m : Int) * 1).toNat]?).toArray = ((xs.toList.drop i).take k).toArray := by
  have e : (fun (m : Nat) => xs[((i : Int) + (m : Int) * 1).toNat]?) = fun m => xs[i + m]? := by
    funext m
    have : ((i : Int) + (m : Int) * 1).toNat = i + m := by omega
    rw [this]
  rw [e]
  have := pick_run xs i k
  rw [List.filterMap_map] at this
  have e2 : ((fun x => xs[x]?) ∘ fun x => i + x) = fun m => xs[i + m]? := rfl
  rw [e2] at this
  rw [this]

theorem getItem_tuple_cut {t sl : Addr} {items : Array Value} {vl vu : Value} {lo hi : Option Int} {Q : Value → Shared → Prop} (ht : IsTup s.heap t items) (hs : s.heap.IsSliceOf sl vl vu .none) (pl : IsPart vl lo) (pu : IsPart vu hi)
    (hw : ¬ (sIx items.size 0 lo = 0 ∧ sIx items.size items.size hi = items.size))
    (h : Q (.ref s.heap.objs.size) { s with heap := s.heap.push { cls := .type "tuple", data := .seq ((items.toList.drop (sIx items.size 0 lo)).take (sIx items.size items.size hi - sIx items.size 0 lo)).toArray } })
    (hsz : items.size ≤ sizeLine) : wpAny (model prog w) A (getItem (.ref t) (.ref sl)) Q E s := by
  have htake : sizeOk (.seq ((items.toList.drop (sIx items.size 0 lo)).take (sIx items.size items.size hi - sIx items.size 0 lo)).toArray) := by
    show ((items.toList.drop (sIx items.size 0 lo)).take (sIx items.size items.size hi - sIx items.size 0 lo)).toArray.size ≤ sizeLine
    rw [List.size_toArray, List.length_take, List.length_drop, Array.length_toList]
    omega
  have hj : sIx items.size items.size hi ≤ items.size := sIx_le _ _ (Nat.le_refl _) hi
  obtain ⟨os, hos, hcs, hds⟩ := id hs
  have hTs : s.TypeIs (.ref sl) "slice" := ⟨os, hos, hcs⟩
  unfold getItem
  try with_reducible refine wpAny_holding ?_
  first | refine wpAny_bind (wpAny_pure ?_) | skip
  refine wpAny_bind (wpAny_sequenceKey ht.typeIs (by decide) ?_)
  refine wpAny_bind (wpAny_callSpecial?_slot (name := Str.ofString "__getitem__") ht.typeIs PyProof.Rows.slot_tuple_getitem
    (wpAny_call_entry PyProof.Rows.slot_tuple_getitem ht.typeIs entry_tuple_getitem ?_ (args_tuple_getitem _ _)))
  show wpAny _ _ (Builtin.Tuple.tupleItemsOf (.ref t) >>= _) _ _ s
  refine wpAny_bind (tupleItemsOf_ ht ?_)
  refine wpAny_bind (wpAny_typeOf hTs ?_)
  rw [if_pos (by decide)]
  refine wpAny_bind (sliceApplied_gen hs pl pu ?_)
  have hno : ¬ ((((sIx items.size 0 lo : Nat) : Int) == 0 && (1 : Int) == 1 && (sIx items.size items.size hi - sIx items.size 0 lo) == items.size) = true) := by
    intro q
    rw [Bool.and_eq_true, Bool.and_eq_true] at q
    have q1 : ((sIx items.size 0 lo : Nat) : Int) = 0 := eq_of_beq q.1.1
    have q2 : sIx items.size items.size hi - sIx items.size 0 lo = items.size := eq_of_beq q.2
    exact hw ⟨by omega, by omega⟩
  show wpAny _ _ (if (((sIx items.size 0 lo : Nat) : Int) == 0 && (1 : Int) == 1 && (sIx items.size items.size hi - sIx items.size 0 lo) == items.size) = true then _ else _) _ _ s
  rw [if_neg hno, pick_gen]
  first
    | exact wpAny_bind (m := Builtin.Tuple.tupleExact _) (wpAny_newObj_type (wpAny_pure ⟨_, rfl, wpAny_pure h⟩) htake)
    | exact wpAny_bind (m := Builtin.Tuple.tupleExact _) (wpAny_newObj_type (wpAny_bind (wpAny_pure (wpAny_pure ⟨_, rfl, wpAny_pure h⟩))) htake)
    | exact wpAny_bind (wpAny_bind (m := Builtin.Tuple.tupleExact _) (wpAny_newObj_type (wpAny_pure (wpAny_pure ⟨_, rfl, wpAny_pure h⟩)) htake))
    | exact wpAny_bind (wpAny_bind (m := Builtin.Tuple.tupleExact _) (wpAny_newObj_type (wpAny_pure ⟨_, rfl, wpAny_pure h⟩) htake))
end
end HT

namespace L2
open PySem PySem.Spec PyProof.Rows

/-! ### the parts of a slice -/
abbrev TO := St → Hp → (Option Int → Hp → Prop) → Prop
/-- a slice's part (left out, or an int) -/
def PO (X : Cx) (e : Option Expr) (t : TO) : Prop :=
  ∀ (pins : List (Addr × Obj)) (s : Shared) (σ : St) (H : Hp) (Q : Option Int → Hp → Prop), Inv X pins σ H s → t σ H Q →
    wpAny (model X.prog X.w) X.A (evalPart e X.env) (fun u s' => ∃ o H', Inv X pins σ H' s' ∧ IsPart u o ∧ Q o H') X.xe s
def tNoPart : TO := fun _ H Q => Q none H
def tPart (t : TE) : TO := fun σ H Q => t σ H fun x H1 => ∃ i, x = .int i ∧ Q (some i) H1

theorem intsAre_of {ns : List Int} : ∀ {us : List Value}, Vals (ns.map V.int) us → IntsAre us ns := by
  induction ns with
  | nil => intro us r; rw [List.map_nil] at r; cases r; exact .nil
  | cons n ns ih =>
    intro us r
    rw [List.map_cons] at r
    cases r with
    | cons r1 r2 =>
      obtain ⟨t, e⟩ := r1
      subst e
      exact .cons n t (ih r2)

section
variable {X : Cx} {e : Expr} {te : TE} {lo hi : Option Expr} {tl th : TO} {pos p2 : Pos}

theorem po_none : PO X none tNoPart := by
  intro pins s σ H Q I h
  rw [evalPart_none]
  exact wpAny_pure ⟨none, H, I, .none, h⟩
theorem po_some (h : PE X e te) : PO X (some e) (tPart te) := by
  intro pins s σ H Q I hw
  rw [evalPart_some]
  refine thn (h pins s σ H _ I hw) fun u s1 ⟨x, H1, I1, r1, q1⟩ => ?_
  obtain ⟨i, rfl, q⟩ := q1
  obtain ⟨t, rfl⟩ := r1
  exact ⟨some i, H1, I1, .int i t, q⟩

/-- what a slice of a value is, by values: the slice object stands at sl -/
def SlR (X : Cx) (r : V → Option Int → Option Int → Hp → VK → Prop) : Prop :=
  ∀ (pins : List (Addr × Obj)) (s : Shared) (σ : St) (H : Hp) (x : V) (v vl vu : Value) (lo hi : Option Int) (sl : Addr) (Q : VK), Inv X pins σ H s → RelV x v → s.heap.IsSliceOf sl vl vu .none → IsPart vl lo → IsPart vu hi → r x lo hi H Q →
    ∃ T id, typeLookup (.type T) "__getitem__" = pure (some (.builtin id)) ∧ s.TypeIs v T ∧ wpAny (model X.prog X.w) X.A (getItem v (.ref sl)) (EP X pins σ Q) X.xe s
theorem SlR.or {r r' : V → Option Int → Option Int → Hp → VK → Prop} (h : SlR X r) (h' : SlR X r') : SlR X (fun x lo hi H Q => r x lo hi H Q ∨ r' x lo hi H Q) := by
  intro pins s σ H x v vl vu lo hi sl Q I rx hs pl pu q
  rcases q with q | q
  · exact h pins s σ H x v vl vu lo hi sl Q I rx hs pl pu q
  · exact h' pins s σ H x v vl vu lo hi sl Q I rx hs pl pu q
def tSl (r : V → Option Int → Option Int → Hp → VK → Prop) (te : TE) (tl th : TO) : TE := fun σ H Q => te σ H fun x H1 => tl σ H1 fun l H2 => th σ H2 fun u H3 => r x l u H3 Q
/-- a[lo:hi], any a -/
theorem pe_slice {r : V → Option Int → Option Int → Hp → VK → Prop} (hr : SlR X r) (he : PE X e te) (hl : PO X lo tl) (hu : PO X hi th) : PE X (.Subscript e (.Slice lo hi none p2) pos) (tSl r te tl th) := by
  intro pins s σ H Q I h
  refine Subscript_ (thn (he pins s σ H _ I h) fun v s1 ⟨x, H1, I1, r1, q1⟩ => ?_)
  refine wpAny_Slice (thn (hl pins s1 σ H1 _ I1 q1) fun vl s2 ⟨l, H2, I2, pl, q2⟩ => thn (hu pins s2 σ H2 _ I2 q2) fun vu s3 ⟨u, H3, I3, pu, q3⟩ => ?_)
  rw [evalPart_none]
  refine wpAny_pure ?_
  have I4 : Inv X pins σ H3 { s3 with heap := s3.heap.push { cls := .type "slice", data := .fields #[vl, vu, .none] } } := I3.kept (t' := s3.toks) fun b ob q => Heap.get?_push_of_some _ q
  obtain ⟨T, id, hT, ht, hg⟩ := hr pins { s3 with heap := s3.heap.push { cls := .type "slice", data := .fields #[vl, vu, .none] } } σ H3 x v vl vu l u s3.heap.objs.size Q I4 r1 (Heap.IsSliceOf.new ..) pl pu q3
  show wpAny (model X.prog X.w) X.A (subscriptTail e (.Slice lo hi none p2) v (.ref s3.heap.objs.size)) (EP X pins σ Q) X.xe { s3 with heap := s3.heap.push { cls := .type "slice", data := .fields #[vl, vu, .none] } }
  exact tail_any (ops := [.ref s3.heap.objs.size, v]) ht hT hg (by with_unfolding_all rfl)

/-- the items of xs[lo:hi] -/
def cutV (xs : List V) (lo hi : Option Int) : List V := (xs.drop (HT.sIx xs.length 0 lo)).take (HT.sIx xs.length xs.length hi - HT.sIx xs.length 0 lo)
theorem cutV_length (xs : List V) (lo hi : Option Int) : (cutV xs lo hi).length ≤ xs.length := by
  unfold cutV
  rw [List.length_take, List.length_drop]
  omega
/-- t[lo:hi], not the whole of it (the whole would be t itself) -/
def rSlT (K : PySem.W.Frag) : V → Option Int → Option Int → Hp → VK → Prop := fun x lo hi H Q => ∃ a xs, x = .ref a ∧ SqT K H a xs ∧
  ¬ (HT.sIx xs.length 0 lo = 0 ∧ HT.sIx xs.length xs.length hi = xs.length) ∧ ∀ p, H p = none → Q (.ref p) (upd H p (.tup (cutV xs lo hi)))
theorem sl_tup : SlR X (rSlT X.K) := by
  intro pins s σ H x v vl vu lo hi sl Q I rx hs pl pu h
  obtain ⟨a, xs, rfl, hx, hw, q⟩ := h
  cases rx
  obtain ⟨its, r, ht, hz⟩ := I.tuple hx
  have hlen : its.toArray.size = xs.length := by rw [List.size_toArray]; exact r.length.symm
  refine ⟨"tuple", _, PyProof.Rows.slot_tuple_getitem.lookup, ht.typeIs, ?_⟩
  refine HT.getItem_tuple_cut ht hs pl pu (by rw [hlen]; exact hw) ?_ (by rw [hlen]; exact hz)
  rw [hlen]
  refine ⟨.ref s.heap.objs.size, _, I.laid (t' := s.toks) (o := .tup (cutV xs lo hi)) (fun b ob q => Heap.get?_push_of_some _ q) (Nat.le_refl _) ?_, rfl, q _ (I.hok.fresh (Nat.le_refl _))⟩
  exact ⟨Nat.le_trans (cutV_length xs lo hi) hz, _, (r.drop (HT.sIx xs.length 0 lo)).take (HT.sIx xs.length xs.length hi - HT.sIx xs.length 0 lo), IsTup.new _ _⟩

/-! ### t < u, t + u -/
def rLtT (K : PySem.W.Frag) : R2 := fun x y H Q => ∃ a b ns ms, x = .ref a ∧ y = .ref b ∧ SqT K H a (ns.map V.int) ∧ SqT K H b (ms.map V.int) ∧ Q (.bl (HT.lexLt ns ms)) H
theorem op_ltT (hu : X.A.units < cLine) : OpR X (compareOp .Lt) (rLtT X.K) := by
  intro pins s σ H x y v u Q I rx ry h
  obtain ⟨a, b, ns, ms, rfl, rfl, ha, hb, q⟩ := h
  cases rx
  cases ry
  obtain ⟨its, r1, p1, _⟩ := I.tuple ha
  obtain ⟨its2, r2, p2, _⟩ := I.tuple hb
  have i1 : IntsAre its.toArray.toList ns := intsAre_of r1
  have i2 : IntsAre its2.toArray.toList ms := intsAre_of r2
  exact HT.lt_tupInts p1 p2 i1 i2 hu ⟨.bl (HT.lexLt ns ms), H, I, rfl, q⟩
/-- t + u, t not empty: u empty gives t itself -/
def rCatT (K : PySem.W.Frag) : R2 := fun x y H Q => ∃ a b xs ys, x = .ref a ∧ y = .ref b ∧ SqT K H a xs ∧ SqT K H b ys ∧ xs ≠ [] ∧ xs.length + ys.length ≤ sizeLine ∧
  (ys = [] → Q (.ref a) H) ∧ (ys ≠ [] → ∀ p, H p = none → Q (.ref p) (upd H p (.tup (xs ++ ys))))
theorem Vals.nil_iff {xs : List V} {us : List Value} (r : Vals xs us) : us = [] ↔ xs = [] := by
  cases r with
  | nil => simp
  | cons _ _ => simp
theorem op_catT : OpR X (binaryOp .Add) (rCatT X.K) := by
  intro pins s σ H x y v u Q I rx ry h
  obtain ⟨a, b, xs, ys, rfl, rfl, ha, hb, hx, hz, q1, q2⟩ := h
  cases rx
  cases ry
  obtain ⟨its, r1, p1, _⟩ := I.tuple ha
  obtain ⟨its2, r2, p2, _⟩ := I.tuple hb
  refine HT.cat_tup p1 p2 (fun z => hx (r1.nil_iff.mp z)) (fun z => ⟨.ref a, H, I, rfl, q1 (r2.nil_iff.mp z)⟩) (fun z => ?_) (by rw [← r1.length, ← r2.length]; exact hz)
  refine ⟨.ref s.heap.objs.size, _, I.laid (t' := s.toks) (o := .tup (xs ++ ys)) (fun b ob q => Heap.get?_push_of_some _ q) (Nat.le_refl _) ?_, rfl, q2 (fun w => z (r2.nil_iff.mpr w)) _ (I.hok.fresh (Nat.le_refl _))⟩
  exact ⟨by rw [List.length_append]; exact hz, _, r1.append r2, IsTup.new _ _⟩
/-- tuple(t) -/
theorem call_tupleT : CallR X (.type "tuple") (fun xs H Q => ∃ a ys, xs = [.ref a] ∧ SqT X.K H a ys ∧ Q (.ref a) H) := by
  intro pins s σ H xs us Q I r h
  obtain ⟨a, ys, rfl, ha, q⟩ := h
  obtain ⟨u, rfl, ru⟩ := vals1 r
  cases ru
  obtain ⟨its, _, p1, _⟩ := I.tuple ha
  exact call_tuple_same (items := its.toArray) p1 ⟨.ref a, H, I, rfl, q⟩
end
end L2

namespace L2
open PySem PySem.Spec PyProof.Rows

/-! ### places -/
/-- the place that an index of any sign means -/
def ixN (n : Nat) (i : Int) : Option Nat := if 0 ≤ i then (if i < n then some i.toNat else none) else if -(n : Int) ≤ i then some (i + n).toNat else none
def atI {α : Type} (xs : List α) (i : Int) : Option α := (ixN xs.length i).bind fun j => xs[j]?
theorem ixN_seq {n : Nat} {i : Int} {j : Nat} (h : ixN n i = some j) : seqIndex? i n = some j ∧ j < n ∧ -(n : Int) ≤ i ∧ i < n := by
  unfold ixN at h
  by_cases h0 : 0 ≤ i
  · rw [if_pos h0] at h
    by_cases h1 : i < n
    · rw [if_pos h1] at h
      have e : i.toNat = j := Option.some.inj h
      exact ⟨by rw [seqIndex_of h0 h1, e], by omega, by omega, h1⟩
    · rw [if_neg h1] at h; cases h
  · rw [if_neg h0] at h
    by_cases h1 : -(n : Int) ≤ i
    · rw [if_pos h1] at h
      have e : (i + n).toNat = j := Option.some.inj h
      exact ⟨by rw [seqIndex_neg (by omega) h1, e], by omega, h1, by omega⟩
    · rw [if_neg h1] at h; cases h
theorem atI_get {α : Type} {xs : List α} {i : Int} {v : α} (h : atI xs i = some v) : ∃ j, seqIndex? i xs.length = some j ∧ xs[j]? = some v ∧ j < xs.length ∧ -(xs.length : Int) ≤ i ∧ i < xs.length := by
  unfold atI at h
  cases e : ixN xs.length i with
  | none => rw [e] at h; cases h
  | some j =>
    rw [e] at h
    obtain ⟨h1, h2, h3, h4⟩ := ixN_seq e
    exact ⟨j, h1, h, h2, h3, h4⟩
theorem atI_nat {α : Type} {xs : List α} {j : Nat} {v : α} (h : xs[j]? = some v) : atI xs (j : Int) = some v := by
  have hj : j < xs.length := (List.getElem?_eq_some_iff.mp h).1
  have e : ixN xs.length (j : Int) = some j := by
    unfold ixN
    rw [if_pos (by omega), if_pos (by omega)]; simp
  unfold atI; rw [e]; exact h
theorem atI_last {α : Type} (xs : List α) (v : α) : atI (xs ++ [v]) (-1) = some v := by
  have hl : (xs ++ [v]).length = xs.length + 1 := by simp
  have e : ixN (xs ++ [v]).length (-1) = some xs.length := by
    unfold ixN
    rw [hl, if_neg (by decide), if_pos (by omega)]
    congr 1
    omega
  unfold atI
  rw [e]
  show (xs ++ [v])[xs.length]? = some v
  simp

/-! ### what may be subscripted -/
/-- what stands as an index of a plain subscript -/
def PlainIx (b : Expr) : Prop := ∀ o i, subscripted b false o i = operate [o, i] (getItem o i)
/-- a subscript by values -/
def IxR (X : Cx) (r : R2) : Prop :=
  ∀ (value slice : Expr) (pins : List (Addr × Obj)) (s : Shared) (σ : St) (H : Hp) (x y : V) (v u : Value) (Q : VK), Inv X pins σ H s → RelV x v → RelV y u → r x y H Q →
    subscripted slice false v u = operate [v, u] (getItem v u) → wpAny (model X.prog X.w) X.A (subscriptTail value slice v u) (EP X pins σ Q) X.xe s
/-- a call of a builtin's method by values: the receiver, the arguments -/
def MtR (X : Cx) (id : String) (r : V → List V → Hp → VK → Prop) : Prop :=
  ∀ (pins : List (Addr × Obj)) (s : Shared) (σ : St) (H : Hp) (x : V) (xs : List V) (v : Value) (us : List Value) (Q : VK), Inv X pins σ H s → RelV x v → Vals xs us → r x xs H Q →
    wpAny (model X.prog X.w) X.A (call (.builtin id) (v :: us)) (EP X pins σ Q) X.xe s
section
variable {X : Cx} {a b : Expr} {ta tb : TE} {pos : Pos}
theorem IxR.or {r r' : R2} (h : IxR X r) (h' : IxR X r') : IxR X (fun x y H Q => r x y H Q ∨ r' x y H Q) := by
  intro value slice pins s σ H x y v u Q I rx ry q hs
  rcases q with q | q
  · exact h value slice pins s σ H x y v u Q I rx ry q hs
  · exact h' value slice pins s σ H x y v u Q I rx ry q hs
theorem MtR.or {id : String} {r r' : V → List V → Hp → VK → Prop} (h : MtR X id r) (h' : MtR X id r') : MtR X id (fun x xs H Q => r x xs H Q ∨ r' x xs H Q) := by
  intro pins s σ H x xs v us Q I rx rs q
  rcases q with q | q
  · exact h pins s σ H x xs v us Q I rx rs q
  · exact h' pins s σ H x xs v us Q I rx rs q
/-- a[b] -/
theorem pe_ix {r : R2} (hr : IxR X r) (ha : PE X a ta) (hb : PE X b tb) (hs : PlainIx b) : PE X (.Subscript a b pos) (tOp r ta tb) := by
  intro pins s σ H Q I h
  exact Subscript_ (binT ha hb I h fun v u s2 x y H2 I2 rx ry q => hr a b pins s2 σ H2 x y v u Q I2 rx ry q (hs _ _))

def rIxL (K : PySem.W.Frag) : R2 := fun x y H Q => ∃ p xs i v, x = .ref p ∧ y = .int i ∧ SqL K H p xs ∧ atI xs i = some v ∧ Q v H
def rIxT (K : PySem.W.Frag) : R2 := fun x y H Q => ∃ p xs i v, x = .ref p ∧ y = .int i ∧ SqT K H p xs ∧ atI xs i = some v ∧ Q v H
def rIxS : R2 := fun x y H Q => ∃ z i c, x = .str z ∧ y = .int i ∧ z.length ≤ sizeLine ∧ atI z.cps.toList i = some c ∧ Q (.str ⟨#[c]⟩) H
theorem ix_list : IxR X (rIxL X.K) := by
  intro value slice pins s σ H x y v u Q I rx ry h hs
  obtain ⟨p, xs, i, z, rfl, rfl, hq, he, q⟩ := h
  cases rx
  obtain ⟨t, rfl⟩ := ry
  obtain ⟨its, r, pl, hz⟩ := I.list hq
  obtain ⟨j, h1, h2, h3, h4, h5⟩ := atI_get he
  obtain ⟨w, ew, rw'⟩ := r.get h2
  have hl := r.length
  have hn := line63
  have fin : EP X pins σ Q w s := ⟨z, H, I, rw', q⟩
  by_cases h0 : 0 ≤ i
  · have hj : i.toNat = j := by
      rw [seqIndex_of h0 h5] at h1
      exact Option.some.inj h1
    exact item_listR pl.isList h0 (by omega) (by rw [hj]; simpa using ew) fin hs
  · have hj : (i + (its.toArray.size : Int)).toNat = j := by
      rw [seqIndex_neg (by omega) h4] at h1
      rw [List.size_toArray, ← hl]
      exact Option.some.inj h1
    exact subscriptTail_builtinR (x := w) pl.isList.typeIs slot_list_getitem.lookup
      (wpAny_getItem_list_neg (Q := fun r s' => r = w ∧ EP X pins σ Q r s') pl.isList (by omega) (by rw [List.size_toArray] <;> omega) (by omega) (by rw [hj]; simpa using ew) ⟨rfl, fin⟩) hs
theorem ix_tup : IxR X (rIxT X.K) := by
  intro value slice pins s σ H x y v u Q I rx ry h hs
  obtain ⟨p, xs, i, z, rfl, rfl, hq, he, q⟩ := h
  cases rx
  obtain ⟨t, rfl⟩ := ry
  obtain ⟨its, r, pl, hz⟩ := I.tuple hq
  obtain ⟨j, h1, h2, h3, h4, h5⟩ := atI_get he
  obtain ⟨w, ew, rw'⟩ := r.get h2
  have hl := r.length
  have hn := line63
  have fin : EP X pins σ Q w s := ⟨z, H, I, rw', q⟩
  exact subscriptTail_builtinR (x := w) pl.typeIs slot_tuple_getitem.lookup
    (getItem_tuple (j := j) (Q := fun r s' => r = w ∧ EP X pins σ Q r s') pl (by omega) (by omega) (by rw [List.size_toArray, ← hl]; exact h1) (by simpa using ew) ⟨rfl, fin⟩) hs
theorem ix_str : IxR X rIxS := by
  intro value slice pins s σ H x y v u Q I rx ry h hs
  obtain ⟨z, i, c, rfl, rfl, hz, he, q⟩ := h
  obtain ⟨t, rfl⟩ := rx
  obtain ⟨t', rfl⟩ := ry
  obtain ⟨j, h1, h2, h3, h4, h5⟩ := atI_get he
  have hl : z.cps.toList.length = z.length := by simp [Str.length]
  rw [hl] at h1 h4 h5
  have hn := line63
  exact tail_any (typeIs_str s z t) slot_str_getitem.lookup (getItem_str (c := c) (by
    have e1 : decide (i < -(2 ^ 63 : Int)) = false := decide_eq_false (by omega)
    have e2 : decide (i ≥ 2 ^ 63) = false := decide_eq_false (by omega)
    rw [e1, e2, Bool.or_false]) (by rw [h1]; simpa using h2) ⟨.str ⟨#[c]⟩, H, I.tok _, ⟨_, rfl⟩, q⟩) hs
/-- list, tuple or str -/
def rIx (K : PySem.W.Frag) : R2 := fun x y H Q => rIxL K x y H Q ∨ rIxT K x y H Q ∨ rIxS x y H Q
theorem ix_seq : IxR X (rIx X.K) := ix_list.or (ix_tup.or ix_str)

/-! ### xs[i] = v, any sign -/
/-- the list's object behind a store -/
theorem mapSeq_set (its : List Value) (n j : Nat) (u : Value) : Obj.mapSeq (·.setIfInBounds j u) { cls := .type "list", data := .seq its.toArray n } = { cls := .type "list", data := .seq (its.set j u).toArray n } := by
  simp [Obj.mapSeq]
theorem Inv.lst {pins : List (Addr × Obj)} {σ : St} {H : Hp} {s : Shared} {p : Addr} {xs : List V} (I : Inv X pins σ H s) (h : H p = some (.lst xs)) :
    ∃ (its : List Value) (n : Nat), Vals xs its ∧ s.heap.get? p = some { cls := .type "list", data := .seq its.toArray n } ∧ xs.length ≤ sizeLine := by
  obtain ⟨z, its, n, r, e⟩ := I.hok p _ h
  exact ⟨its, n, r, e, z⟩
/-- the list at p is written by an update of its object -/
theorem Inv.lstUpd {pins : List (Addr × Obj)} {σ : St} {H : Hp} {s : Shared} {p : Addr} {xs ys : List V} {its its' : List Value} {n n' : Nat} {f : Obj → Obj} (I : Inv X pins σ H s) (h : H p = some (.lst xs))
    (ho : s.heap.get? p = some { cls := .type "list", data := .seq its.toArray n }) (hf : f { cls := .type "list", data := .seq its.toArray n } = { cls := .type "list", data := .seq its'.toArray n' }) (r : Vals ys its') (hz : ys.length ≤ sizeLine) (t : Nat) :
    Inv X pins σ (upd H p (.lst ys)) { s with heap := s.heap.update p f, toks := t } := by
  have e : (s.heap.update p f).get? p = some { cls := .type "list", data := .seq its'.toArray n' } := by
    rw [Heap.get?_update_self f ho (by rw [hf] <;> rfl), hf]
  refine I.write (x := p) (e := p) (by rw [h]; trivial) (.inl rfl) (fun b u hb q => (Heap.get?_update_other _ _ (Ne.symm hb)).trans q) ⟨_, e⟩ ?_
  exact ⟨hz, its', n', r, e⟩
def rSetL : V → V → V → Hp → (Hp → Prop) → Prop := fun o i v H Q => ∃ p xs k j, o = .ref p ∧ i = .int k ∧ H p = some (.lst xs) ∧ ixN xs.length k = some j ∧ Q (upd H p (.lst (xs.set j v)))
theorem set_list : PSet X rSetL := by
  intro pins s σ H o i v ov iv u Q I ro ri rv h
  obtain ⟨p, xs, k, j, rfl, rfl, hp, hj, q⟩ := h
  cases ro
  obtain ⟨t, rfl⟩ := ri
  obtain ⟨its, n, r, ho, hz⟩ := I.lst hp
  obtain ⟨h1, h2, h3, h4⟩ := ixN_seq hj
  have hl := r.length
  have hn := line63
  have I' : Inv X pins σ (upd H p (.lst (xs.set j v))) { s with heap := s.heap.update p (Obj.mapSeq (·.setIfInBounds j u)) } :=
    I.lstUpd hp ho (mapSeq_set its n j u) (r.set rv j) (by rw [List.length_set]; exact hz) s.toks
  by_cases h0 : 0 ≤ k
  · have hk : k.toNat = j := by
      rw [seqIndex_of h0 h4] at h1
      exact Option.some.inj h1
    exact PySem.W.ki_setAt ho h0 (by omega) (by rw [List.size_toArray, ← hl]; exact h4) (by rw [hk]; exact ⟨_, I', q⟩)
  · have hk : (k + (its.toArray.size : Int)).toNat = j := by
      rw [seqIndex_neg (by omega) h3] at h1
      rw [List.size_toArray, ← hl]
      exact Option.some.inj h1
    exact PySem.W.ki_setBack ho (by omega) (by rw [List.size_toArray, ← hl]; exact h3) (by omega) (by rw [hk]; exact ⟨_, I', q⟩)

/-! ### slices -/
theorem slice_bounds (lo hi : Option Int) (n : Nat) : (sliceBounds lo hi none n).1 = ((HT.sIx n 0 lo : Nat) : Int) ∧ (sliceBounds lo hi none n).2.1 = ((HT.sIx n n hi : Nat) : Int) ∧ (sliceBounds lo hi none n).2.2 = 1 := by
  refine ⟨?_, ?_, rfl⟩
  · cases lo with
    | none => simp [sliceBounds, HT.sIx]
    | some i =>
      simp only [sliceBounds, HT.sIx, Option.getD_none, show (1 : Int) > 0 by decide, if_true]
      by_cases h : i < 0
      · simp only [h, if_true] <;> omega
      · simp only [h, if_false] <;> omega
  · cases hi with
    | none => simp [sliceBounds, HT.sIx]
    | some i =>
      simp only [sliceBounds, HT.sIx, Option.getD_none, show (1 : Int) > 0 by decide, if_true]
      by_cases h : i < 0
      · simp only [h, if_true] <;> omega
      · simp only [h, if_false] <;> omega
theorem slicePick_cut (its : List Value) (lo hi : Option Int) : slicePick its.toArray lo hi none = ((its.drop (HT.sIx its.length 0 lo)).take (HT.sIx its.length its.length hi - HT.sIx its.length 0 lo)).toArray := by
  obtain ⟨h1, h2, h3⟩ := slice_bounds lo hi its.toArray.size
  unfold slicePick
  rw [h1, h2, h3]
  simp only [sliceRange_one, pick_run, List.size_toArray] <;> rfl
/-- xs[lo:hi] of a list: a new list -/
def rSlL (K : PySem.W.Frag) : V → Option Int → Option Int → Hp → VK → Prop := fun x lo hi H Q => ∃ a xs, x = .ref a ∧ SqL K H a xs ∧ ∀ p, H p = none → Q (.ref p) (upd H p (.lst (cutV xs lo hi)))
theorem sl_list : SlR X (rSlL X.K) := by
  intro pins s σ H x v vl vu lo hi sl Q I rx hs pl pu h
  obtain ⟨a, xs, rfl, hx, q⟩ := h
  cases rx
  obtain ⟨its, r, ht, hz⟩ := I.list hx
  have hlen := r.length
  refine ⟨"list", _, slot_list_getitem.lookup, ht.isList.typeIs, ?_⟩
  refine wpAny_getItem_list_slice ht.isList hs pl pu .none (by simp) ?_ (by rw [List.size_toArray] <;> omega)
  rw [slicePick_cut, ← hlen]
  refine ⟨.ref s.heap.objs.size, _, I.laid (t' := s.toks) (o := .lst (cutV xs lo hi)) (fun b ob q => Heap.get?_push_of_some _ q) (Nat.le_refl _) ?_, rfl, q _ (I.hok.fresh (Nat.le_refl _))⟩
  exact ⟨Nat.le_trans (cutV_length xs lo hi) hz, _, 0, (r.drop (HT.sIx xs.length 0 lo)).take (HT.sIx xs.length xs.length hi - HT.sIx xs.length 0 lo), Heap.get?_push_size _ rfl⟩

/-! ### in, not in: flat items -/
def flatV : V → Bool
  | .non => true
  | .bl _ => true
  | .int _ => true
  | .str _ => true
  | _ => false
/-- == of flat values -/
def eqV : V → V → Bool
  | .non, .non => true
  | .bl a, .bl b => a == b
  | .bl a, .int b => (if a then 1 else 0) == b
  | .int a, .bl b => a == (if b then 1 else 0)
  | .int a, .int b => a == b
  | .str a, .str b => a == b
  | _, _ => false
theorem eqAt_V {A : Around} {s : Shared} {y x : V} {u v : Value} (ry : RelV y u) (rx : RelV x v) (fy : flatV y = true) (fx : flatV x = true) : SeqAt.EqAt A s u v (eqV y x) := by
  cases y with
  | non =>
    cases ry
    cases x with
    | non => cases rx; exact SeqAt.EqAt.same _
    | bl b => cases rx; exact SeqAt.EqAt.none_bool b
    | int b => obtain ⟨t, rfl⟩ := rx; exact SeqAt.EqAt.none_int b t
    | str b => obtain ⟨t, rfl⟩ := rx; exact SeqAt.EqAt.none_str b t
    | _ => exact absurd (show false = true from fx) Bool.false_ne_true
  | bl a =>
    cases ry
    cases x with
    | non => cases rx; exact SeqAt.EqAt.bool_none a
    | bl b => cases rx; exact SeqAt.EqAt.bool_bool a b
    | int b => obtain ⟨t, rfl⟩ := rx; exact SeqAt.EqAt.bool_int a b t
    | str b => obtain ⟨t, rfl⟩ := rx; exact SeqAt.EqAt.bool_str a b t
    | _ => exact absurd (show false = true from fx) Bool.false_ne_true
  | int a =>
    obtain ⟨t', rfl⟩ := ry
    cases x with
    | non => cases rx; exact SeqAt.EqAt.int_none a t'
    | bl b => cases rx; exact SeqAt.EqAt.int_bool a t' b
    | int b => obtain ⟨t, rfl⟩ := rx; exact SeqAt.EqAt.int_int a t' b t
    | str b => obtain ⟨t, rfl⟩ := rx; exact SeqAt.EqAt.int_str a t' b t
    | _ => exact absurd (show false = true from fx) Bool.false_ne_true
  | str a =>
    obtain ⟨t', rfl⟩ := ry
    cases x with
    | non => cases rx; exact SeqAt.EqAt.str_none a t'
    | bl b => cases rx; exact SeqAt.EqAt.str_bool a t' b
    | int b => obtain ⟨t, rfl⟩ := rx; exact SeqAt.EqAt.str_int a t' b t
    | str b => obtain ⟨t, rfl⟩ := rx; exact SeqAt.EqAt.str_str a t' b t
    | _ => exact absurd (show false = true from fx) Bool.false_ne_true
  | _ => exact absurd (show false = true from fy) Bool.false_ne_true
/-- the items' answers, read off the values (a value's own answer does not lean on its token) -/
def eqU (x : V) (u : Value) : Bool := match u with
  | .none => eqV .non x
  | .bool b => eqV (.bl b) x
  | .int i _ => eqV (.int i) x
  | .str z _ => eqV (.str z) x
  | _ => false
theorem eqU_of {x y : V} {u : Value} (r : RelV y u) (f : flatV y = true) : eqU x u = eqV y x := by
  cases y with
  | non => cases r; rfl
  | bl b => cases r; rfl
  | int i => obtain ⟨t, rfl⟩ := r; rfl
  | str z => obtain ⟨t, rfl⟩ := r; rfl
  | _ => exact absurd (show false = true from f) Bool.false_ne_true
theorem any_eqU {x : V} : ∀ {xs : List V} {us : List Value}, Vals xs us → xs.all flatV = true → us.any (eqU x) = xs.any fun y => eqV y x
  | _, _, .nil, _ => rfl
  | y :: xs, u :: us, .cons r t, f => by
    rw [List.all_cons, Bool.and_eq_true] at f
    rw [List.any_cons, List.any_cons, eqU_of r f.1, any_eqU t f.2]
theorem mem_eqAt {A : Around} {s : Shared} {x : V} {v : Value} (rx : RelV x v) (fx : flatV x = true) : ∀ {xs : List V} {us : List Value}, Vals xs us → xs.all flatV = true → ∀ u ∈ us, SeqAt.EqAt A s u v (eqU x u)
  | _, _, .nil, _ => fun u hu => by cases hu
  | y :: xs, u :: us, .cons r t, f => fun u' hu => by
    rw [List.all_cons, Bool.and_eq_true] at f
    rcases List.mem_cons.mp hu with rfl | hu
    · rw [eqU_of r f.1]; exact eqAt_V r rx f.1 fx
    · exact mem_eqAt rx fx t f.2 u' hu
def inV (x : V) (xs : List V) : Bool := xs.any fun y => eqV y x
/-- x in a list or tuple of flat items -/
def rIn (K : PySem.W.Frag) (neg : Bool) : R2 := fun x y H Q => ∃ p xs, y = .ref p ∧ (SqL K H p xs ∨ SqT K H p xs) ∧ flatV x = true ∧ xs.all flatV = true ∧ Q (.bl (if neg then !inV x xs else inV x xs)) H
theorem op_in_seq : OpR X (compareOp .In) (rIn X.K false) := by
  intro pins s σ H x y v u Q I rx ry h
  obtain ⟨p, xs, rfl, hq, fx, fs, q⟩ := h
  cases ry
  rcases hq with hq | hq
  · obtain ⟨its, r, pl, hz⟩ := I.list hq
    refine SeqAt.in_listAt (eqU x) pl.isList (fun w hw => mem_eqAt rx fx r fs w (by simpa using hw)) ⟨.bl _, H, I, rfl, ?_⟩
    rw [show its.toArray.any (eqU x) = its.any (eqU x) by simp, any_eqU r fs]
    exact q
  · obtain ⟨its, r, pl, hz⟩ := I.tuple hq
    refine SeqAt.in_tupleAt (eqU x) pl (fun w hw => mem_eqAt rx fx r fs w (by simpa using hw)) ⟨.bl _, H, I, rfl, ?_⟩
    rw [show its.toArray.any (eqU x) = its.any (eqU x) by simp, any_eqU r fs]
    exact q
theorem op_notIn_seq : OpR X (compareOp .NotIn) (rIn X.K true) := by
  intro pins s σ H x y v u Q I rx ry h
  obtain ⟨p, xs, rfl, hq, fx, fs, q⟩ := h
  cases ry
  rcases hq with hq | hq
  · obtain ⟨its, r, pl, hz⟩ := I.list hq
    refine SeqAt.notIn_listAt (eqU x) pl.isList (fun w hw => mem_eqAt rx fx r fs w (by simpa using hw)) ⟨.bl _, H, I, rfl, ?_⟩
    rw [show its.toArray.any (eqU x) = its.any (eqU x) by simp, any_eqU r fs]
    exact q
  · obtain ⟨its, r, pl, hz⟩ := I.tuple hq
    refine SeqAt.notIn_tupleAt (eqU x) pl (fun w hw => mem_eqAt rx fx r fs w (by simpa using hw)) ⟨.bl _, H, I, rfl, ?_⟩
    rw [show its.toArray.any (eqU x) = its.any (eqU x) by simp, any_eqU r fs]
    exact q
theorem op_notIn_str : OpR X (compareOp .NotIn) (fun x y H Q => ∃ i j, x = .str i ∧ y = .str j ∧ Q (.bl (!(!(Builtin.Str.occurrences j i 0 j.length 1).isEmpty))) H) := by
  intro pins s σ H x y v u Q I rx ry h
  obtain ⟨i, j, rfl, rfl, q⟩ := h
  obtain ⟨t, rfl⟩ := rx
  obtain ⟨t', rfl⟩ := ry
  exact notIn_str ⟨.bl _, H, I, rfl, q⟩

/-! ### len, list(x), tuple(x) of any list or tuple that is read -/
theorem call_len_seq : CallR X (.builtin "len") (fun xs H Q => ∃ p ys, xs = [.ref p] ∧ (SqL X.K H p ys ∨ SqT X.K H p ys) ∧ Q (.int ys.length) H) := by
  intro pins s σ H xs us Q I r h
  obtain ⟨p, ys, rfl, hq, q⟩ := h
  obtain ⟨u, rfl, rx⟩ := vals1 r
  cases rx
  have hn := line63
  rcases hq with hq | hq
  · obtain ⟨its, r', pl, hz⟩ := I.list hq
    have hlen := r'.length
    exact Calls.call_len_list pl.isList (by simp only [List.size_toArray] <;> omega) ⟨.int ys.length, H, I.tok _, ⟨s.toks + 1, by rw [List.size_toArray, hlen]⟩, q⟩
  · obtain ⟨its, r', pl, hz⟩ := I.tuple hq
    have hlen := r'.length
    exact len_tuple pl (by simp only [List.size_toArray] <;> omega) ⟨.int ys.length, H, I.tok _, ⟨s.toks + 1, by rw [List.size_toArray, hlen]⟩, q⟩
theorem call_len_str : CallR X (.builtin "len") (fun xs H Q => ∃ z, xs = [.str z] ∧ z.length ≤ sizeLine ∧ Q (.int z.length) H) := by
  intro pins s σ H xs us Q I r h
  obtain ⟨z, rfl, hz, q⟩ := h
  obtain ⟨u, rfl, t, rfl⟩ := vals1 r
  have hn := line63
  exact len_str (by omega) ⟨.int z.length, H, I.tok _, ⟨_, rfl⟩, q⟩
theorem CallR.or {f : Value} {r r' : List V → Hp → VK → Prop} (h : CallR X f r) (h' : CallR X f r') : CallR X f (fun xs H Q => r xs H Q ∨ r' xs H Q) := by
  intro pins s σ H xs us Q I rs q
  rcases q with q | q
  · exact h pins s σ H xs us Q I rs q
  · exact h' pins s σ H xs us Q I rs q
theorem call_list_of : CallR X (.type "list") (fun xs H Q => ∃ p ys, xs = [.ref p] ∧ (SqL X.K H p ys ∨ SqT X.K H p ys) ∧ ∀ l, H l = none → Q (.ref l) (upd H l (.lst ys))) := by
  intro pins s σ H xs us Q I r h
  obtain ⟨p, ys, rfl, hq, q⟩ := h
  obtain ⟨u, rfl, rx⟩ := vals1 r
  cases rx
  have fin : ∀ (its : List Value), Vals ys its → ys.length ≤ sizeLine → ∀ (h' : Heap) (c' : Nat), (∀ b o', s.heap.get? b = some o' → h'.get? b = some o') →
      h'.get? s.heap.objs.size = some { cls := .type "list", dict := none, data := .seq its.toArray c', slots := #[] } → EP X pins σ Q (.ref s.heap.objs.size) { s with heap := h' } := fun its r' hz h' c' kp e =>
    ⟨.ref s.heap.objs.size, _, I.laid (t' := s.toks) kp (Nat.le_refl _) (show ObjOk X.prog X.w _ h' _ (.lst ys) from ⟨hz, its, c', r', e⟩), rfl, q _ (I.hok.fresh (Nat.le_refl _))⟩
  rcases hq with hq | hq
  · obtain ⟨its, r', pl, hz⟩ := I.list hq
    have hlen := r'.length
    obtain ⟨o, ho, hc, n, hd⟩ := pl.isList
    exact call_list_seq p (.inl rfl) ho hc hd (fun h' c' kp e => fin its r' hz h' c' kp e) (by simp only [List.size_toArray] <;> omega)
  · obtain ⟨its, r', pl, hz⟩ := I.tuple hq
    have hlen := r'.length
    obtain ⟨o, ho, hc, n, hd⟩ := pl
    exact call_list_seq p (.inr rfl) ho hc hd (fun h' c' kp e => fin its r' hz h' c' kp e) (by simp only [List.size_toArray] <;> omega)
theorem call_tuple_of : CallR X (.type "tuple") (fun xs H Q => ∃ p ys, xs = [.ref p] ∧ ((SqL X.K H p ys ∧ ∀ l, H l = none → Q (.ref l) (upd H l (.tup ys))) ∨ (SqT X.K H p ys ∧ Q (.ref p) H))) := by
  intro pins s σ H xs us Q I r h
  obtain ⟨p, ys, rfl, h⟩ := h
  obtain ⟨u, rfl, rx⟩ := vals1 r
  cases rx
  rcases h with ⟨hq, q⟩ | ⟨hq, q⟩
  · obtain ⟨its, r', pl, hz⟩ := I.list hq
    have hlen := r'.length
    refine call_tuple_list pl.isList (fun h' kp => ?_) (by simp only [List.size_toArray] <;> omega)
    have I1 : Inv X pins σ H { s with heap := h' } := I.kept (t' := s.toks) kp
    have I2 : Inv X pins σ (upd H h'.objs.size (.tup ys)) { s with heap := h'.push { cls := .type "tuple", data := .seq its.toArray } } :=
      I1.laid (t' := s.toks) (fun b o e => Heap.get?_push_of_some _ e) (Nat.le_refl _) (show ObjOk X.prog X.w _ _ _ (.tup ys) from ⟨hz, its, r', IsTup.new _ _⟩)
    exact ⟨.ref h'.objs.size, _, I2, rfl, q _ (I1.hok.fresh (Nat.le_refl _))⟩
  · obtain ⟨its, r', pl, hz⟩ := I.tuple hq
    exact call_tuple_same pl ⟨.ref p, H, I, rfl, q⟩

/-! ### the call of a builtin's method: o.m(..) -/
/-- the value is of that builtin type -/
def tyV (K : PySem.W.Frag) (T : String) (x : V) (H : Hp) : Prop := match x with
  | .str _ => T = "str"
  | .int _ => T = "int"
  | .ref p => (T = "list" ∧ ∃ xs, SqL K H p xs) ∨ (T = "tuple" ∧ ∃ o, K.lookup p = some o ∧ o.cls = .type "tuple" ∧ o.dict = none) ∨
      (T = "dict" ∧ ((∃ kvs, H p = some (.dK kvs)) ∨ ∃ kvs, H p = some (.dT kvs))) ∨ (T = "set" ∧ ∃ S n, H p = some (.set S n))
  | _ => False
theorem tyV_is {pins : List (Addr × Obj)} {σ : St} {H : Hp} {s : Shared} {T : String} {x : V} {v : Value} (I : Inv X pins σ H s) (r : RelV x v) (ty : tyV X.K T x H) :
    s.TypeIs v T ∧ ∀ a, v = .ref a → ∃ ob, s.heap.get? a = some ob ∧ ob.dict = none := by
  cases x with
  | str z =>
    obtain ⟨t, rfl⟩ := r
    cases (show T = "str" from ty)
    exact ⟨typeIs_str s z t, fun _ e => nomatch e⟩
  | int i =>
    obtain ⟨t, rfl⟩ := r
    cases (show T = "int" from ty)
    exact ⟨typeIs_int s i t, fun _ e => nomatch e⟩
  | ref p =>
    cases r
    rcases ty with ⟨rfl, xs, hq⟩ | ⟨rfl, o, hk, hc, hd⟩ | ⟨rfl, hk⟩ | ⟨rfl, S, n, hk⟩
    · obtain ⟨its, _, pl, _⟩ := I.list hq
      refine ⟨pl.isList.typeIs, fun a e => ?_⟩
      cases e
      obtain ⟨o, n, e, c, hd, _⟩ := pl
      exact ⟨o, e, hd⟩
    · refine ⟨⟨o, I.kIn p o hk, hc⟩, fun a e => ?_⟩
      cases e
      exact ⟨o, I.kIn _ o hk, hd⟩
    · have z : ∃ o, s.heap.get? p = some o ∧ o.ExactDict := by
        rcases hk with ⟨kvs, hk⟩ | ⟨kvs, hk⟩
        · obtain ⟨_, _, _, _, o, _, _, e, ex, _⟩ := I.hok p _ hk
          exact ⟨o, e, ex⟩
        · obtain ⟨_, _, _, _, o, _, _, e, ex, _⟩ := I.hok p _ hk
          exact ⟨o, e, ex⟩
      obtain ⟨o, e, ex⟩ := z
      refine ⟨⟨o, e, ex.1⟩, fun a e2 => ?_⟩
      cases e2
      exact ⟨o, e, ex.2.1⟩
    · obtain ⟨o, _, _, _, e, ex, _⟩ := I.hok p _ hk
      refine ⟨⟨o, e, ex.1⟩, fun a e2 => ?_⟩
      cases e2
      exact ⟨o, e, ex.2.1⟩
  | _ => exact False.elim ty
def tBM0 (K : PySem.W.Frag) (T : String) (r : V → List V → Hp → VK → Prop) (to : TE) : TE := fun σ H Q => to σ H fun x H1 => tyV K T x H1 ∧ r x [] H1 Q
def tBM (K : PySem.W.Frag) (T : String) (r : V → List V → Hp → VK → Prop) (to : TE) (t : TA) : TE := fun σ H Q => to σ H fun x H1 => tyV K T x H1 ∧ t σ H1 fun xs H2 => r x xs H2 Q
variable {o e : Expr} {es : List Expr} {to : TE} {t : TA} {name : Str} {apos cpos : Pos} {T id : String} {r : V → List V → Hp → VK → Prop}
theorem pe_bm0 (pa : PlainAttrs T) (slot : Slot T name id) (hty : typeOf (.builtin id) = pure (.type "method_descriptor")) (hm : MtR X id r) (ho : PE X o to)
    (hbase : attributeBase o name X.env (eval o X.env) = eval o X.env := by rfl) (hline : (apos.endLine == cpos.line) = true := by rfl) : PE X (.Call (.Attribute o name apos) [] [] cpos) (tBM0 X.K T r to) := by
  intro pins s σ H Q I h
  refine wpAny_Call_method0_late hbase hline (thn (ho pins s σ H _ I h) fun v s1 ⟨x, H1, I1, r1, ty, q1⟩ => ?_)
  obtain ⟨h1, h2⟩ := tyV_is I1 r1 ty
  exact ⟨T, id, pa, slot, hty, h1, h2, Calls.callWith_builtin rfl (PySem.evalArgs_none (hm pins s1 σ H1 x [] v [] Q I1 r1 .nil q1))⟩
theorem pe_bm (pa : PlainAttrs T) (slot : Slot T name id) (hty : typeOf (.builtin id) = pure (.type "method_descriptor")) (hm : MtR X id r) (ho : PE X o to) (ha : PA X (e :: es) t)
    (hbase : attributeBase o name X.env (eval o X.env) = eval o X.env := by rfl)
    (hfew : ((backTo cpos (starEach (e :: es) X.env)).all (fun x => !x.1) && (backToKw cpos (keywordEach [] X.env)).all (fun x => x.1.isSome)
      && decide ((e :: es).length + ([] : List Keyword).length + (if ([] : List Keyword).isEmpty then 0 else 1) < 30)) = true := by rfl)
    (hline : (apos.endLine == cpos.line) = true := by rfl) (hs : starEach (e :: es) X.env = (false, eval e X.env) :: starEach es X.env := by rfl) (hplain : (backTo cpos (starEach es X.env)).any (·.1) = false := by rfl) :
    PE X (.Call (.Attribute o name apos) (e :: es) [] cpos) (tBM X.K T r to t) := by
  intro pins s σ H Q I h
  refine wpAny_Call_method_late hbase hfew hline rfl (thn (ho pins s σ H _ I h) fun v s1 ⟨x, H1, I1, r1, ty, q1⟩ => ?_)
  obtain ⟨h1, h2⟩ := tyV_is I1 r1 ty
  refine ⟨T, id, pa, slot, hty, h1, h2, ?_⟩
  have hA := ha cpos pins s1 σ H1 _ I1 q1
  rw [hs] at hA ⊢
  refine Calls.callWith_builtin (by show (false || (backTo cpos (starEach es X.env)).any (·.1)) = false; rw [hplain] <;> rfl) (Calls.evalArgs_plain ?_)
  exact thn hA fun us s2 ⟨vs, H2, I2, r2, q2⟩ => hm pins s2 σ H2 x vs v us Q I2 r1 r2 q2
/- xs.append(e), list.index on a module's tuple .. are MtR facts of 06m -/
end
end L2

namespace L2
open PySem PySem.Spec PyProof.Rows

def MtM (X : Cx) (id : String) (r : V → List V → Hp → VK → Prop) : Prop :=
  ∀ (pins : List (Addr × Obj)) (s : Shared) (σ : St) (H : Hp) (x : V) (xs : List V) (v : Value) (us : List Value) (Q : VK), Inv X pins σ H s → RelV x v → Vals xs us → r x xs H Q →
    wpAny (model X.prog X.w) X.A (call (.builtin id) (v :: us)) (EP X pins σ Q) X.xe s

/-! ### lists of values -/
theorem Vals.one : ∀ {x : V} {us : List Value}, Vals [x] us → ∃ u, us = [u] ∧ RelV x u
  | _, _, .cons r .nil => ⟨_, rfl, r⟩
theorem Vals.two : ∀ {x y : V} {us : List Value}, Vals [x, y] us → ∃ u v, us = [u, v] ∧ RelV x u ∧ RelV y v
  | _, _, _, .cons r (.cons q .nil) => ⟨_, _, rfl, r, q⟩
theorem Vals.zero : ∀ {us : List Value}, Vals [] us → us = []
  | _, .nil => rfl
theorem Vals.dropLast {xs : List V} {us : List Value} (h : Vals xs us) : Vals xs.dropLast us.dropLast := by
  induction h with
  | nil => exact .nil
  | cons r t ih =>
    cases t with
    | nil => exact .nil
    | cons q t' => exact .cons r ih
theorem Vals.eraseIdx : ∀ {xs : List V} {us : List Value} (i : Nat), Vals xs us → Vals (xs.eraseIdx i) (us.eraseIdx i)
  | _, _, _, .nil => .nil
  | _, _, 0, .cons _ t => t
  | _, _, i + 1, .cons r t => .cons r (Vals.eraseIdx i t)
theorem Vals.reverse {xs : List V} {us : List Value} (h : Vals xs us) : Vals xs.reverse us.reverse := by
  induction h with
  | nil => exact .nil
  | cons r t ih => rw [List.reverse_cons, List.reverse_cons]; exact Vals.append ih (.cons r .nil)
theorem Vals.rep {xs : List V} {us : List Value} (h : Vals xs us) : ∀ k : Nat, Vals (List.replicate k xs).flatten (List.replicate k us).flatten
  | 0 => .nil
  | k + 1 => by
    rw [List.replicate_succ, List.replicate_succ, List.flatten_cons, List.flatten_cons]
    exact Vals.append h (Vals.rep h k)
theorem erase_last {α : Type} (l : List α) : l.eraseIdx (l.length - 1) = l.dropLast := by
  induction l with
  | nil => rfl
  | cons a r ih =>
    cases r with
    | nil => rfl
    | cons b r =>
      have e : (a :: b :: r).length - 1 = ((b :: r).length - 1) + 1 := by
        have h1 : (a :: b :: r).length = r.length + 2 := rfl
        have h2 : (b :: r).length = r.length + 1 := rfl
        omega
      rw [e, List.eraseIdx_cons_succ, ih]
      all_goals rfl
theorem len_erase {α : Type} : ∀ (l : List α) (i : Nat), (l.eraseIdx i).length ≤ l.length
  | [], _ => Nat.le_refl _
  | _ :: _, 0 => Nat.le_succ _
  | _ :: r, i + 1 => Nat.succ_le_succ (len_erase r i)
theorem foldl_rep (its : List Value) : ∀ (k : Nat) (acc : List Value),
    List.foldl (fun x1 x2 => x1 ++ x2) acc.toArray (List.replicate k its.toArray) = (acc ++ (List.replicate k its).flatten).toArray
  | 0, acc => by simp
  | k + 1, acc => by
    have e : acc.toArray ++ its.toArray = (acc ++ its).toArray := by simp
    have e2 : (acc ++ its) ++ (List.replicate k its).flatten = acc ++ (List.replicate (k + 1) its).flatten := by
      rw [List.replicate_succ, List.flatten_cons, List.append_assoc]
    rw [← e2, ← foldl_rep its k (acc ++ its), ← e, List.replicate_succ, List.foldl_cons]

section
variable {X : Cx} {pins : List (Addr × Obj)} {σ : St} {H : Hp} {s : Shared} {l b : Addr} {xs ys zs : List V}

/-! ### the two steps: a tracked list is rewritten, a new list is laid -/
theorem Inv.lset {its its' : List Value} {n : Nat} {f : Array Value → Array Value} {t' : Nat} (I : Inv X pins σ H s) (hH : H l = some (.lst xs))
    (e : s.heap.get? l = some { cls := .type "list", data := .seq its.toArray n }) (hf : f its.toArray = its'.toArray) (hv : Vals ys its') (hz : ys.length ≤ sizeLine) :
    Inv X pins σ (upd H l (.lst ys)) { s with heap := s.heap.update l (Obj.mapSeq f), toks := t' } := by
  have q := PySem.IsL.update e f
  rw [hf] at q
  refine I.write (x := l) (e := l) (by rw [hH]; exact trivial) (.inl rfl) (fun b' u hb hu => (Heap.get?_update_other s.heap (Obj.mapSeq f) (Ne.symm hb)).trans hu) ⟨_, q⟩ ?_
  exact ⟨hz, its', _, hv, q⟩
theorem Inv.lnew {its : List Value} {t' : Nat} (I : Inv X pins σ H s) (hv : Vals ys its) (hz : ys.length ≤ sizeLine) :
    Inv X pins σ (upd H s.heap.objs.size (.lst ys)) { s with heap := s.heap.push { cls := .type "list", data := .seq its.toArray }, toks := t' } :=
  I.laid (fun _ _ q => Heap.get?_push_of_some _ q) (Nat.le_refl _) ⟨hz, its, 0, hv, Heap.get?_push_size _ rfl⟩
theorem Inv.fresh (I : Inv X pins σ H s) : H s.heap.objs.size = none := I.hok.fresh (Nat.le_refl _)
theorem Inv.lstM (I : Inv X pins σ H s) (hH : H l = some (.lst xs)) : xs.length ≤ sizeLine ∧ ∃ (its : List Value) (n : Nat), Vals xs its ∧ xs.length = its.length ∧ s.heap.get? l = some { cls := .type "list", data := .seq its.toArray n } := by
  obtain ⟨z, its, n, r, e⟩ := I.hok l _ hH
  exact ⟨z, its, n, r, r.length, e⟩

theorem notLongL {n : Nat} (h : n ≤ sizeLine) : Builtin.List.listTooLong n = false := by
  unfold Builtin.List.listTooLong
  exact decide_eq_false (by omega)
end

section
variable {X : Cx}

/-! ### methods -/
def rAppend : V → List V → Hp → VK → Prop := fun x vs H Q => ∃ l xs y, x = .ref l ∧ vs = [y] ∧ H l = some (.lst xs) ∧ xs.length < sizeLine ∧ Q .non (upd H l (.lst (xs ++ [y])))
theorem mt_append : MtM X "list.append" rAppend := by
  intro pins s σ H x vs v us Q I rx rv h
  obtain ⟨l, xs, y, rfl, rfl, hH, hz, q⟩ := h
  cases rx
  obtain ⟨u, rfl, ru⟩ := rv.one
  obtain ⟨z, its, n, r, hl, e⟩ := I.lstM hH
  refine call_meets F.slot_list_append ⟨_, e, rfl⟩ F.entry_list_append (F.args_list_append_2 _ _) (PySem.list_append l its.toArray n u (by rw [List.size_toArray]; omega)) ⟨e, ?_⟩
  refine ⟨.non, _, I.lset (its' := its ++ [u]) hH e (by simp) (r.append (.cons ru .nil)) ?_, rfl, q⟩
  rw [List.length_append, List.length_singleton]
  omega

def rExtend : V → List V → Hp → VK → Prop := fun x vs H Q => ∃ l b xs zs, x = .ref l ∧ vs = [.ref b] ∧ H l = some (.lst xs) ∧ H b = some (.lst zs) ∧ xs.length + zs.length ≤ sizeLine ∧ Q .non (upd H l (.lst (xs ++ zs)))
theorem mt_extend : MtM X "list.extend" rExtend := by
  intro pins s σ H x vs v us Q I rx rv h
  obtain ⟨l, b, xs, zs, rfl, rfl, hH, hB, hz, q⟩ := h
  cases rx
  obtain ⟨u, rfl, ru⟩ := rv.one
  cases ru
  obtain ⟨z, its, n, r, hl, e⟩ := I.lstM hH
  obtain ⟨z2, its2, n2, r2, hl2, e2⟩ := I.lstM hB
  have hsz : its.toArray.size + its2.toArray.size ≤ sizeLine := by rw [List.size_toArray, List.size_toArray]; omega
  have hlong : ¬ (!its.toArray.isEmpty && Builtin.List.listTooLong (its.toArray.size + its2.toArray.size)) = true := by
    rw [notLongL hsz, Bool.and_false]
    exact Bool.false_ne_true
  refine call_meets F.slot_list_extend ⟨_, e, rfl⟩ F.entry_list_extend (F.args_list_extend_2 _ _)
    (AutoSeq1.list_extend_list_list_0 l its.toArray n b its2.toArray n2 hlong (by rw [List.size_toArray]; omega) (by omega)) ⟨e, e2, ?_⟩
  refine ⟨.non, _, I.lset (its' := its ++ its2) hH e (by simp) (r.append r2) ?_, rfl, q⟩
  rw [List.length_append]
  omega

def rPop : V → List V → Hp → VK → Prop := fun x vs H Q => ∃ l xs y, x = .ref l ∧ vs = [] ∧ H l = some (.lst xs) ∧ xs[xs.length - 1]? = some y ∧ Q y (upd H l (.lst xs.dropLast))
theorem mt_pop : MtM X "list.pop" rPop := by
  intro pins s σ H x vs v us Q I rx rv h
  obtain ⟨l, xs, y, rfl, rfl, hH, hy, q⟩ := h
  cases rx
  have hus := rv.zero
  subst hus
  obtain ⟨z, its, n, r, hl, e⟩ := I.lstM hH
  obtain ⟨u, hu, ru⟩ := r.get hy
  have hy' : its.toArray[its.toArray.size - 1]? = some u := by
    show its.toArray[its.length - 1]? = some u
    rw [← Array.getElem?_toList, ← hl]
    exact hu
  refine call_meets F.slot_list_pop ⟨_, e, rfl⟩ F.entry_list_pop (F.args_list_pop_1 _) (MeetsSeq.list_pop_last l its.toArray n u hy' (by rw [List.size_toArray]; omega)) ⟨e, ?_⟩
  refine ⟨y, _, I.lset (its' := its.dropLast) hH e ?_ r.dropLast ?_, ru, q⟩
  · show its.toArray.eraseIdxIfInBounds (its.toArray.size - 1) = its.dropLast.toArray
    rw [List.size_toArray, List.eraseIdxIfInBounds_toArray, erase_last]
  · rw [List.length_dropLast]
    omega

def rPopAt : V → List V → Hp → VK → Prop := fun x vs H Q => ∃ l xs i k y, x = .ref l ∧ vs = [.int i] ∧ H l = some (.lst xs) ∧ -(2 ^ 63) ≤ i ∧ i < 2 ^ 63 ∧ seqIndex? i xs.length = some k ∧ xs[k]? = some y ∧ Q y (upd H l (.lst (xs.eraseIdx k)))
theorem mt_popAt : MtM X "list.pop" rPopAt := by
  intro pins s σ H x vs v us Q I rx rv h
  obtain ⟨l, xs, i, k, y, rfl, rfl, hH, h1, h2, hk, hy, q⟩ := h
  cases rx
  obtain ⟨u, rfl, ru⟩ := rv.one
  obtain ⟨t, rfl⟩ := ru
  obtain ⟨z, its, n, r, hl, e⟩ := I.lstM hH
  obtain ⟨w, hw, rw'⟩ := r.get hy
  refine call_meets F.slot_list_pop ⟨_, e, rfl⟩ F.entry_list_pop (F.args_list_pop_2 _ _)
    (MeetsSeq.list_pop_at l its.toArray n i t k w (fitsIndex_both h1 h2) (by rw [List.size_toArray, ← hl]; exact hk) (by rw [← Array.getElem?_toList]; exact hw) (by rw [List.size_toArray]; omega)) ⟨e, ?_⟩
  refine ⟨y, _, I.lset (its' := its.eraseIdx k) hH e ?_ (r.eraseIdx k) ?_, rw', q⟩
  · show its.toArray.eraseIdxIfInBounds k = (its.eraseIdx k).toArray
    rw [List.eraseIdxIfInBounds_toArray]
  · have := len_erase xs k
    omega

def rReverse : V → List V → Hp → VK → Prop := fun x vs H Q => ∃ l xs, x = .ref l ∧ vs = [] ∧ H l = some (.lst xs) ∧ Q .non (upd H l (.lst xs.reverse))
theorem mt_reverse : MtM X "list.reverse" rReverse := by
  intro pins s σ H x vs v us Q I rx rv h
  obtain ⟨l, xs, rfl, rfl, hH, q⟩ := h
  cases rx
  have hus := rv.zero
  subst hus
  obtain ⟨z, its, n, r, hl, e⟩ := I.lstM hH
  refine call_meets F.slot_list_reverse ⟨_, e, rfl⟩ F.entry_list_reverse (F.args_list_reverse_1 _) (AutoSeq1.list_reverse_list_0 l its.toArray n (by rw [List.size_toArray]; omega)) ⟨e, ?_⟩
  refine ⟨.non, _, I.lset (its' := its.reverse) hH e (by simp) r.reverse ?_, rfl, q⟩
  rw [List.length_reverse]
  omega

def rClear : V → List V → Hp → VK → Prop := fun x vs H Q => ∃ l xs, x = .ref l ∧ vs = [] ∧ H l = some (.lst xs) ∧ Q .non (upd H l (.lst []))
theorem mt_clear : MtM X "list.clear" rClear := by
  intro pins s σ H x vs v us Q I rx rv h
  obtain ⟨l, xs, rfl, rfl, hH, q⟩ := h
  cases rx
  have hus := rv.zero
  subst hus
  obtain ⟨z, its, n, r, hl, e⟩ := I.lstM hH
  refine call_meets F.slot_list_clear ⟨_, e, rfl⟩ F.entry_list_clear (F.args_list_clear_1 _) (AutoSeq1.list_clear_list_0 l its.toArray n (by rw [List.size_toArray]; omega)) ⟨e, ?_⟩
  exact ⟨.non, _, I.lset (its' := []) (ys := []) hH e rfl .nil (Nat.zero_le _), rfl, q⟩

/-! ### list + list, list += list, list * int -/
def rCat : R2 := fun x y H Q => ∃ l b xs zs, x = .ref l ∧ y = .ref b ∧ H l = some (.lst xs) ∧ H b = some (.lst zs) ∧ xs.length + zs.length ≤ sizeLine ∧ ∀ p, H p = none → Q (.ref p) (upd H p (.lst (xs ++ zs)))
theorem op_cat : OpR X (binaryOp .Add) rCat := by
  intro pins s σ H x y v u Q I rx ry h
  obtain ⟨l, b, xs, zs, rfl, rfl, hH, hB, hz, q⟩ := h
  cases rx
  cases ry
  obtain ⟨z, its, n, r, hl, e⟩ := I.lstM hH
  obtain ⟨z2, its2, n2, r2, hl2, e2⟩ := I.lstM hB
  refine PySem.P.add_list e e2 ?_ (by rw [List.size_toArray, List.size_toArray]; omega)
  have ea : its.toArray ++ its2.toArray = (its ++ its2).toArray := by simp
  rw [ea]
  exact ⟨.ref _, _, I.lnew (t' := s.toks) (r.append r2) (by rw [List.length_append]; omega), rfl, q _ I.fresh⟩
/-- a list times an int (a negative one is nothing) -/
def rRep : R2 := fun x y H Q => ∃ l k xs, x = .ref l ∧ y = .int k ∧ H l = some (.lst xs) ∧ -(2 ^ 63) ≤ k ∧ k < 2 ^ 63 ∧ xs.length * k.toNat ≤ sizeLine ∧
  ∀ p, H p = none → Q (.ref p) (upd H p (.lst (List.replicate k.toNat xs).flatten))
theorem len_rep {α : Type} (xs : List α) (k : Nat) : (List.replicate k xs).flatten.length = k * xs.length := by
  induction k with
  | zero => simp
  | succ k ih => rw [List.replicate_succ, List.flatten_cons, List.length_append, ih, Nat.succ_mul, Nat.add_comm]
theorem op_rep : OpR X (binaryOp .Mult) rRep := by
  intro pins s σ H x y v u Q I rx ry h
  obtain ⟨l, k, xs, rfl, rfl, hH, h1, h2, hz, q⟩ := h
  cases rx
  obtain ⟨t, rfl⟩ := ry
  obtain ⟨z, its, n, r, hl, e⟩ := I.lstM hH
  have hlen : its.toArray.size * k.toNat ≤ sizeLine := by rw [List.size_toArray, ← hl]; exact hz
  have hcap : ¬ its.toArray.size * k.toNat > (2 ^ 63 - 1) / 8 := by
    have : (sizeLine : Nat) ≤ (2 ^ 63 - 1) / 8 := by decide
    omega
  have hfit : ¬ (!Builtin.List.listFitsIndex k) = true := by
    rw [fitsIndex_both h1 h2]
    exact Bool.false_ne_true
  have hlong : ¬ Builtin.List.listTooLong (its.toArray.size * k.toNat) = true := by
    rw [notLongL hlen]
    exact Bool.false_ne_true
  have hnew : List.foldl (fun x1 x2 => x1 ++ x2) #[] (List.replicate (if its.toArray.isEmpty = true then 0 else k.toNat) its.toArray) = (List.replicate k.toNat its).flatten.toArray := by
    have f0 : ∀ m : Nat, List.foldl (fun x1 x2 => x1 ++ x2) #[] (List.replicate m its.toArray) = (List.replicate m its).flatten.toArray := fun m => by
      have := foldl_rep its m []
      rw [List.nil_append] at this
      exact this
    rw [f0]
    cases its with
    | nil => simp
    | cons a r' => rw [if_neg (by simp)]
  refine wpAny_binaryOp_repeat_ref (T := "list") (U := "int") (by decide) ⟨_, e, rfl⟩ (fun s' => typeIs_int s' k t) noFill_list_mul F.fills_int_mul F.slot_int_rmul repeat_list F.slot_int_index.lookup
    (call_meets F.slot_int_rmul (typeIs_int s k t) F.entry_int_rmul (F.args_int_rmul_2 _ _) (int___rmul___int_list k t l its.toArray n)
      ⟨e, rfl, ⟨_, e, rfl⟩, call_meets F.slot_list_mul ⟨_, e, rfl⟩ F.entry_list_mul (F.args_list_mul_2 _ _) (AutoListH.list___mul___list_int_3 l its.toArray n k t hfit hcap hlong) ⟨e, ?_⟩⟩)
  rw [hnew]
  exact ⟨.ref _, _, I.lnew (t' := s.toks) (r.rep k.toNat) (by rw [len_rep, Nat.mul_comm]; exact hz), rfl, q _ I.fresh⟩

/-! ### del xs[i] -/
theorem del_list {pins : List (Addr × Obj)} {s : Shared} {σ : St} {H : Hp} {l : Addr} {xs : List V} {i : Int} {t : Tok} {k : Nat} {Q : Unit → Shared → Prop} (I : Inv X pins σ H s) (hH : H l = some (.lst xs))
    (h1 : -(2 ^ 63) ≤ i) (h2 : i < 2 ^ 63) (hk : seqIndex? i xs.length = some k) (h : ∀ s', Inv X pins σ (upd H l (.lst (xs.eraseIdx k))) s' → Q () s') :
    wpAny (model X.prog X.w) X.A (delItem (.ref l) (.int i t)) Q X.xe s := by
  obtain ⟨z, its, n, r, hl, e⟩ := I.lstM hH
  refine PySem.P.delItem_list (k := k) e (fitsIndex_both h1 h2) (by rw [List.size_toArray, ← hl]; exact hk) (h _ ?_) (by rw [List.size_toArray]; omega)
  refine I.lset (its' := its.eraseIdx k) (t' := s.toks) hH e ?_ (r.eraseIdx k) ?_
  · show its.toArray.eraseIdxIfInBounds k = (its.eraseIdx k).toArray
    rw [List.eraseIdxIfInBounds_toArray]
  · have := len_erase xs k
    omega
end

/-! ### xs[a:b] = ys -/
section
variable {prog : Program} {w : World} {A : Around} {E : Value → Shared → Prop} {s : Shared}
theorem splice_eq (its its2 : List Value) (a c : Nat) : its.toArray.extract 0 a ++ its2.toArray ++ its.toArray.extract c its.toArray.size = (its.take a ++ its2 ++ its.drop c).toArray := by
  apply Array.toList_inj.mp
  first
    | (simp
       exact List.take_of_length_le (by simp))
    | simp [List.take_of_length_le]
    | simp
theorem bounds_run {a c n : Nat} (hac : a ≤ c) (hc : c ≤ n) : sliceBounds (some (a : Int)) (some (c : Int)) none n = ((a : Int), (c : Int), 1) := by
  simp only [sliceBounds, Option.getD_none]
  have h1 : ¬ ((a : Int) < 0) := by omega
  have h2 : ¬ ((c : Int) < 0) := by omega
  simp only [h1, h2, if_false, show (1 : Int) > 0 by decide, if_true]
  congr 1
  · omega
  · congr 1; omega
set_option maxRecDepth 100000 in
/-- list.__setitem__ with a slice of step one and another list -/
theorem setItem_slice {l b sl : Addr} {items new : Array Value} {n n2 : Nat} {vl vu : Value} {a c : Nat} {Q : Unit → Shared → Prop}
    (e : s.heap.get? l = some { cls := .type "list", data := .seq items n }) (e2 : s.heap.get? b = some { cls := .type "list", data := .seq new n2 }) (hne : l ≠ b)
    (hs : s.heap.IsSliceOf sl vl vu .none) (pl : IsPart vl (some (a : Int))) (pu : IsPart vu (some (c : Int))) (hac : a ≤ c) (hc : c ≤ items.size)
    (hsz : items.size + new.size ≤ sizeLine) (h : Q () { s with heap := s.heap.update l (Obj.mapSeq fun xs => xs.extract 0 a ++ new ++ xs.extract c xs.size) }) :
    wpAny (model prog w) A (setItem (.ref l) (.ref sl) (.ref b)) Q E s := by
  have hl : s.heap.IsList l items := PySem.IsL.isList e
  have hb : s.heap.IsList b new := PySem.IsL.isList e2
  obtain ⟨os, hos, hcs, hds⟩ := id hs
  have hTs : s.TypeIs (.ref sl) "slice" := ⟨os, hos, hcs⟩
  have hstep : ¬ ((rawPart none == rawInt 0) = true) := Bool.false_ne_true
  have hsame : Builtin.List.listSameRef (.ref l) (.ref b) = false := by
    unfold Builtin.List.listSameRef
    exact beq_eq_false_iff_ne.mpr hne
  have hmax : (max (a : Int) (c : Int)).toNat = c := by omega
  have hz' : ((fun xs : Array Value => xs.extract 0 a ++ new ++ xs.extract c xs.size) items).size ≤ sizeLine + 1 := by
    simp only [Array.size_append, Array.size_extract]
    omega
  unfold setItem
  try with_reducible refine wpAny_holding ?_
  first | refine wpAny_bind (wpAny_pure ?_) | skip
  refine wpAny_bind (wpAny_sequenceKey hl.typeIs (by decide) ?_)
  refine wpAny_bind (wpAny_callSpecial?_slot (name := Str.ofString "__setitem__") hl.typeIs slot_list_setitem
    (wpAny_call_entry slot_list_setitem hl.typeIs entry_list_setitem ?_ (args_list_setitem _ _ _)))
  show wpAny _ _ (Builtin.List.listSubscript? (.ref sl) >>= _) _ _ s
  refine wpAny_bind ?_
  unfold Builtin.List.listSubscript?
  refine wpAny_bind (wpAny_specialOf hTs slice_no_index ?_)
  simp only [Option.isNone_none, if_true]
  refine wpAny_pure ?_
  show wpAny _ _ (typeOf (.ref sl) >>= _) _ _ s
  refine wpAny_bind (wpAny_typeOf hTs ?_)
  first
    | rw [if_neg (by decide)]
    | refine PySem.W.KFB.if_not (by decide) ?_
  rw [listSliceParts_eq]
  refine wpAny_bind (wpAny_bind (wpAny_field hos hds (x := .none) rfl (wpAny_bind (wpAny_listPart .none ?_))))
  rw [if_neg hstep]
  refine wpAny_bind (wpAny_field hos hds (x := vl) rfl (wpAny_bind (wpAny_listPart pl ?_)))
  refine wpAny_bind (wpAny_field hos hds (x := vu) rfl (wpAny_bind (wpAny_listPart pu (wpAny_pure ?_))))
  first
    | simp only [hsame, Bool.false_eq_true, if_false]
    | refine PySem.W.KFB.if_not hsame ?_
    | (dsimp only
       rw [if_neg (by rw [hsame]; exact Bool.false_ne_true)])
  refine wpAny_bind (m := Builtin.List.listAllItems (.ref b) "must assign iterable to extended slice") ?_
  unfold Builtin.List.listAllItems
  refine wpAny_bind (wpAny_typeOf hb.typeIs ?_)
  first
    | refine PySem.W.KFB.if_so (by decide) ?_
    | rw [if_pos (by decide)]
    | simp only [beq_self_eq_true, Bool.true_or, if_true]
  unfold Builtin.List.listItems
  refine wpAny_bind (wpAny_seqItems e2 rfl (wpAny_pure ?_))
  refine wpAny_bind (wpAny_bind (wpAny_seqItems e rfl (wpAny_pure ?_)))
  refine wpAny_bind (wpAny_of_eq ((sliceIndices_raw (some (a : Int)) (some (c : Int)) none items.size (by simp)).trans (congrArg (pure : Int × Int × Int → Sem (Int × Int × Int)) (bounds_run hac hc))) ?_)
  show wpAny _ _ (if ((1 : Int) == 1) = true then _ else _) _ _ s
  rw [if_pos (by decide)]
  refine wpAny_bind (wpAny_rule ?_)
  first
    | simp only [notLongL hsz, Bool.false_eq_true, if_false]
    | refine PySem.W.KFB.if_not (notLongL hsz) ?_
  first | refine wpAny_bind (wpAny_pure ?_) | skip
  show wpAny _ _ (updateSeq l (fun xs => xs.extract 0 ((a : Int)).toNat ++ new ++ xs.extract (max (a : Int) (c : Int)).toNat xs.size) >>= _) _ _ s
  rw [hmax, Int.toNat_natCast]
  refine wpAny_bind (wpAny_updateSeq (hz := Nat.le_trans (Nat.le_add_right _ _) hsz) (_hz' := hz') e rfl ?_)
  refine wpAny_bind (wpAny_letGo ?_)
  first
    | exact wpAny_bind (wpAny_pure (wpAny_pure ⟨.none, rfl, wpAny_pure h⟩))
    | exact wpAny_pure ⟨.none, rfl, wpAny_pure h⟩
end

section
variable {X : Cx}
/-- xs[a:c] = ys of another list, at the value level: sl is the slice object that was just made -/
theorem set_slice {pins : List (Addr × Obj)} {s : Shared} {σ : St} {H : Hp} {l b sl : Addr} {xs ys : List V} {a c : Int} {vl vu : Value} {Q : Unit → Shared → Prop} (I : Inv X pins σ H s)
    (hH : H l = some (.lst xs)) (hB : H b = some (.lst ys)) (hne : l ≠ b) (hs : s.heap.IsSliceOf sl vl vu .none) (ra : RelV (.int a) vl) (rc : RelV (.int c) vu) (h0 : 0 ≤ a) (hac : a ≤ c) (hc : c ≤ xs.length)
    (hz : xs.length + ys.length ≤ sizeLine) (h : ∀ s', Inv X pins σ (upd H l (.lst (xs.take a.toNat ++ ys ++ xs.drop c.toNat))) s' → Q () s') :
    wpAny (model X.prog X.w) X.A (setItem (.ref l) (.ref sl) (.ref b)) Q X.xe s := by
  obtain ⟨ta, rfl⟩ := ra
  obtain ⟨tc, rfl⟩ := rc
  obtain ⟨z, its, n, r, hl, e⟩ := I.lstM hH
  obtain ⟨z2, its2, n2, r2, hl2, e2⟩ := I.lstM hB
  obtain ⟨a', rfl⟩ := Int.eq_ofNat_of_zero_le h0
  obtain ⟨c', rfl⟩ := Int.eq_ofNat_of_zero_le (Int.le_trans h0 hac)
  simp only [Int.toNat_natCast] at h
  refine setItem_slice (a := a') (c := c') e e2 hne hs (.int _ _) (.int _ _) (by omega) (by rw [List.size_toArray]; omega) (by rw [List.size_toArray, List.size_toArray]; omega) (h _ ?_)
  refine I.lset (its' := its.take a' ++ its2 ++ its.drop c') (t' := s.toks) hH e ?_ (Vals.append (Vals.append (r.take _) r2) (r.drop _)) ?_
  · exact splice_eq its its2 a' c'
  · rw [List.length_append, List.length_append, List.length_take, List.length_drop]
    omega
end
end L2

namespace L2
open PySem PySem.Spec PyProof.Rows

/-! ### lists of pairs as tables -/
section
variable {κ : Type} [DecidableEq κ]
def valV (kvs : List (κ × V)) (k : κ) : Option V := (kvs.find? fun kv => decide (kv.1 = k)).map (·.2)
/-- in its place, or at the end -/
def putK (kvs : List (κ × V)) (k : κ) (v : V) : List (κ × V) :=
  if (kvs.any fun kv => decide (kv.1 = k)) = true then kvs.map (fun kv => if kv.1 = k then (kv.1, v) else kv) else kvs ++ [(k, v)]
def dropK (kvs : List (κ × V)) (k : κ) : List (κ × V) := kvs.filter fun kv => decide (kv.1 ≠ k)

theorem valV_nil {k : κ} : valV ([] : List (κ × V)) k = none := rfl
theorem valV_pos {p : κ × V} {r : List (κ × V)} {k : κ} (e : p.1 = k) : valV (p :: r) k = some p.2 := by simp [valV, List.find?_cons, e]
theorem valV_neg {p : κ × V} {r : List (κ × V)} {k : κ} (e : ¬ p.1 = k) : valV (p :: r) k = valV r k := by simp [valV, List.find?_cons, e]
theorem valV_any (k : κ) : ∀ kvs : List (κ × V), (kvs.any fun kv => decide (kv.1 = k)) = (valV kvs k).isSome
  | [] => rfl
  | p :: r => by
    rw [List.any_cons]
    by_cases e : p.1 = k
    · simp only [valV_pos e, decide_eq_true e, Bool.true_or, Option.isSome_some]
    · rw [valV_neg e, decide_eq_false e, Bool.false_or]; exact valV_any k r
theorem valV_map (k j : κ) (y : V) : ∀ kvs : List (κ × V), valV (kvs.map fun kv => if kv.1 = k then (kv.1, y) else kv) j = (valV kvs j).map fun x => if j = k then y else x
  | [] => rfl
  | p :: r => by
    have ih := valV_map k j y r
    rw [List.map_cons]
    by_cases h : p.1 = k
    · rw [if_pos h]
      by_cases e : p.1 = j
      · rw [valV_pos (p := (p.1, y)) e, valV_pos e, Option.map_some, if_pos (e.symm.trans h)]
      · rw [valV_neg (p := (p.1, y)) e, valV_neg e, ih]
    · rw [if_neg h]
      by_cases e : p.1 = j
      · rw [valV_pos (p := p) e, valV_pos e, Option.map_some, if_neg (fun z => h (e.trans z))]
      · rw [valV_neg (p := p) e, valV_neg e, ih]
theorem valV_snoc (k j : κ) (y : V) : ∀ kvs : List (κ × V), valV kvs k = none → valV (kvs ++ [(k, y)]) j = if j = k then some y else valV kvs j
  | [], _ => by
    by_cases e : k = j
    · rw [if_pos e.symm]; exact valV_pos (p := (k, y)) e
    · rw [if_neg (fun z => e z.symm)]; exact valV_neg (p := (k, y)) e
  | p :: r, hn => by
    rw [List.cons_append]
    have hk : ¬ p.1 = k := fun z => by rw [valV_pos z] at hn; cases hn
    rw [valV_neg hk] at hn
    have ih := valV_snoc k j y r hn
    by_cases e : p.1 = j
    · rw [valV_pos e, valV_pos e, if_neg (fun z => hk (e.trans z))]
    · rw [valV_neg e, valV_neg e, ih]
theorem valV_put (kvs : List (κ × V)) (k j : κ) (y : V) : valV (putK kvs k y) j = if j = k then some y else valV kvs j := by
  unfold putK
  by_cases a : (kvs.any fun kv => decide (kv.1 = k)) = true
  · rw [if_pos a, valV_map]
    rw [valV_any] at a
    by_cases e : j = k
    · obtain ⟨x, hx⟩ := Option.isSome_iff_exists.mp a
      rw [if_pos e, e, hx, Option.map_some, if_pos rfl]
    · rw [if_neg e]
      cases valV kvs j with
      | none => rfl
      | some x => rw [Option.map_some, if_neg e]
  · rw [if_neg a]
    refine valV_snoc k j y kvs ?_
    rw [valV_any] at a
    cases q : valV kvs k with
    | none => rfl
    | some x => rw [q] at a; exact (a rfl).elim
theorem length_putK (kvs : List (κ × V)) (k : κ) (v : V) : (putK kvs k v).length ≤ kvs.length + 1 := by
  unfold putK
  split
  · rw [List.length_map]; omega
  · rw [List.length_append, List.length_cons, List.length_nil]; omega
theorem putK_new {kvs : List (κ × V)} {k : κ} (v : V) (h : valV kvs k = none) : putK kvs k v = kvs ++ [(k, v)] := by
  unfold putK
  rw [valV_any, h]
  exact if_neg (by decide)

theorem RelO.isSome_eq {o : Option V} {u : Option Value} (r : RelO o u) : o.isSome = u.isSome := by
  cases o with
  | none => cases u with
    | none => rfl
    | some _ => exact (show False from r).elim
  | some _ => cases u with
    | none => exact (show False from r).elim
    | some _ => rfl
theorem RelO.getD {o : Option V} {u : Option Value} {d : V} {d' : Value} (r : RelO o u) (rd : RelV d d') : RelV (o.getD d) (u.getD d') := by
  cases o with
  | none => cases u with
    | none => exact rd
    | some _ => exact (show False from r).elim
  | some _ => cases u with
    | none => exact (show False from r).elim
    | some _ => exact r

/-- raw tables of the same keys -/
theorem KV.val {kvs : List (κ × V)} {vs : List (κ × Value)} (r : KV kvs vs) (k : κ) : RelO (valV kvs k) (valueAt vs k) := by
  unfold KV at r
  induction r with
  | nil => exact True.intro
  | @cons p q ps qs h t ih =>
    obtain ⟨h1, h2⟩ := h
    by_cases e : p.1 = k
    · have e' : q.1 = k := h1.symm.trans e
      have b : valueAt (q :: qs) k = some q.2 := by simp [valueAt, List.find?_cons, e']
      rw [valV_pos e, b]; exact h2
    · have e' : ¬ q.1 = k := fun z => e (h1.trans z)
      have b : valueAt (q :: qs) k = valueAt qs k := by simp [valueAt, List.find?_cons, e']
      rw [valV_neg e, b]; exact ih
theorem KV.any {kvs : List (κ × V)} {vs : List (κ × Value)} (r : KV kvs vs) (k : κ) : (kvs.any fun kv => decide (kv.1 = k)) = vs.any fun kv => decide (kv.1 = k) := by
  unfold KV at r
  induction r with
  | nil => rfl
  | cons h t ih => rw [List.any_cons, List.any_cons, ih, h.1]
theorem KV.repl {kvs : List (κ × V)} {vs : List (κ × Value)} (r : KV kvs vs) (k : κ) {y : V} {u : Value} (ry : RelV y u) :
    KV (kvs.map fun kv => if kv.1 = k then (kv.1, y) else kv) (vs.map fun kv => if kv.1 = k then (kv.1, u) else kv) := by
  unfold KV at r ⊢
  induction r with
  | nil => exact .nil
  | @cons p q ps qs h t ih =>
    rw [List.map_cons, List.map_cons]
    refine .cons ?_ ih
    obtain ⟨h1, h2⟩ := h
    by_cases e : p.1 = k
    · rw [if_pos e, if_pos (h1.symm.trans e)]; exact ⟨h1, ry⟩
    · rw [if_neg e, if_neg (fun z => e (h1.trans z))]; exact ⟨h1, h2⟩
theorem KV.put {kvs : List (κ × V)} {vs : List (κ × Value)} (r : KV kvs vs) (k : κ) {y : V} {u : Value} (ry : RelV y u) : KV (putK kvs k y) (stored vs k u) := by
  unfold putK stored
  rw [r.any k]
  by_cases e : (vs.any fun kv => decide (kv.1 = k)) = true
  · rw [if_pos e, if_pos e]; exact r.repl k ry
  · rw [if_neg e, if_neg e]; exact Paired.snoc r ⟨rfl, ry⟩
theorem KV.drop {kvs : List (κ × V)} {vs : List (κ × Value)} (r : KV kvs vs) (k : κ) : KV (dropK kvs k) (without vs k) := by
  unfold KV at r ⊢
  unfold dropK without
  induction r with
  | nil => exact .nil
  | @cons p q ps qs h t ih =>
    obtain ⟨h1, h2⟩ := h
    rw [List.filter_cons, List.filter_cons]
    by_cases e : p.1 = k
    · have a : ¬ decide (p.1 ≠ k) = true := by simp [e]
      have b : ¬ decide (q.1 ≠ k) = true := by simp [h1.symm.trans e]
      rw [if_neg a, if_neg b]; exact ih
    · have e' : ¬ q.1 = k := fun z => e (h1.trans z)
      have a : decide (p.1 ≠ k) = true := by simp [e]
      have b : decide (q.1 ≠ k) = true := by simp [e']
      rw [if_pos a, if_pos b]; exact .cons ⟨h1, h2⟩ ih
theorem KV.keys {kvs : List (κ × V)} {vs : List (κ × Value)} (r : KV kvs vs) : kvs.map (·.1) = vs.map (·.1) := by
  unfold KV at r
  induction r with
  | nil => rfl
  | cons h t ih => rw [List.map_cons, List.map_cons, ih, h.1]
theorem KV.length {kvs : List (κ × V)} {vs : List (κ × Value)} (r : KV kvs vs) : kvs.length = vs.length := Paired.length r
theorem dropK_le (kvs : List (κ × V)) (k : κ) : (dropK kvs k).length ≤ kvs.length := List.length_filter_le _ _
end


/-! ### a tracked dict, its keys ints and texts or tuples of these -/
theorem kV_is {P : Program} {w : World} {k : Key} {u : Value} (r : RelV (kV k) u) : (mixKind P w).is k u = true := by
  cases k with
  | inl i => obtain ⟨t, e⟩ := (show ∃ t, u = Value.int i t from r); subst e; exact mixKind_int P w i t
  | inr x => obtain ⟨t, e⟩ := (show ∃ t, u = Value.str x t from r); subst e; exact mixKind_str P w x t
theorem kV_inj {a b : Key} (e : kV a = kV b) : a = b := by
  cases a with
  | inl i => cases b with
    | inl j => have e' : V.int i = V.int j := e; injection e' with e'; rw [e']
    | inr y => exact nomatch (show V.int i = V.str y from e)
  | inr x => cases b with
    | inl j => exact nomatch (show V.str x = V.int j from e)
    | inr y => have e' : V.str x = V.str y := e; injection e' with e'; rw [e']
theorem kVs_inj : ∀ {a b : List Key}, a.map kV = b.map kV → a = b
  | [], [], _ => rfl
  | [], _ :: _, e => by simp at e
  | _ :: _, [], e => by simp at e
  | x :: xs, y :: ys, e => by
    rw [List.map_cons, List.map_cons] at e
    injection e with e1 e2
    rw [kV_inj e1, kVs_inj e2]
theorem items_are {P : Program} {w : World} : ∀ {ks : List Key} {us : List Value}, Vals (ks.map kV) us → ItemsAre (mixKind P w) ks us
  | [], _, r => by rw [List.map_nil] at r; cases r; exact .nil
  | k :: ks, _, r => by
    rw [List.map_cons] at r
    cases r with
    | cons h t => exact .cons (kV_is h) (items_are t)

/-- raw entries of a dict with tuple keys -/
abbrev KT (H : Hp) : List (List Key × V) → List (List Key × Addr × Value) → Prop := Paired fun p q => p.1 = q.1 ∧ H q.2.1 = some (.tup (p.1.map kV)) ∧ RelV p.2 q.2.2
theorem KT.val {H : Hp} {kvs : List (List Key × V)} {xs : List (List Key × Addr × Value)} (r : KT H kvs xs) (k : List Key) : RelO (valV kvs k) ((atKey xs k).map (·.2)) := by
  induction r with
  | nil => exact True.intro
  | @cons p q ps qs h t ih =>
    obtain ⟨h1, _, h2⟩ := h
    by_cases e : p.1 = k
    · have e' : q.1 = k := h1.symm.trans e
      have b : atKey (q :: qs) k = some q.2 := by simp [atKey, List.find?_cons, e']
      rw [valV_pos e, b]; exact h2
    · have e' : ¬ q.1 = k := fun z => e (h1.trans z)
      have b : atKey (q :: qs) k = atKey qs k := by simp [atKey, List.find?_cons, e']
      rw [valV_neg e, b]; exact ih
theorem KT.repl {H : Hp} {kvs : List (List Key × V)} {xs : List (List Key × Addr × Value)} (r : KT H kvs xs) (k : List Key) {y : V} {u : Value} (ry : RelV y u) :
    KT H (kvs.map fun kv => if kv.1 = k then (kv.1, y) else kv) (xs.map (putAt k u)) := by
  induction r with
  | nil => exact .nil
  | @cons p q ps qs h t ih =>
    rw [List.map_cons, List.map_cons]
    refine .cons ?_ ih
    obtain ⟨h1, h2, h3⟩ := h
    unfold putAt
    by_cases e : p.1 = k
    · rw [if_pos e, if_pos (h1.symm.trans e)]; exact ⟨h1, h2, ry⟩
    · rw [if_neg e, if_neg (fun z => e (h1.trans z))]; exact ⟨h1, h2, h3⟩
theorem KT.put {H : Hp} {kvs : List (List Key × V)} {xs : List (List Key × Addr × Value)} (r : KT H kvs xs) (k : List Key) {b : Addr} {y : V} {u : Value} (hb : H b = some (.tup (k.map kV))) (ry : RelV y u) :
    KT H (putK kvs k y) (storedH xs k b u) := by
  have e : (kvs.any fun kv => decide (kv.1 = k)) = (atKey xs k).isSome := by
    rw [valV_any, (r.val k).isSome_eq, Option.isSome_map]
  unfold putK storedH
  rw [e]
  by_cases q : (atKey xs k).isSome = true
  · rw [if_pos q, if_pos q]; exact r.repl k ry
  · rw [if_neg q, if_neg q]; exact Paired.snoc r ⟨rfl, hb, ry⟩
theorem KT.keeps {H H' : Hp} {kvs : List (List Key × V)} {xs : List (List Key × Addr × Value)} (r : KT H kvs xs) (ht : ∀ b ys, H b = some (.tup ys) → H' b = some (.tup ys)) : KT H' kvs xs :=
  Paired.mapP r fun _ _ z => ⟨z.1, ht _ _ z.2.1, z.2.2⟩

section
variable {P : Program} {w : World} {H : Hp} {h : Heap} {a : Addr}
theorem rd_of {u : HO} (ok : HOk P w H h) (e : Rd H a u) : ObjOk P w H h a u := e.ok ok
theorem dk_rd {kvs : List (Key × V)} (ok : HOk P w H h) (e : Rd H a (.dK kvs)) : kvs.length ≤ sizeLine ∧ (a == sysModules) = false ∧ ∃ vs, KV kvs vs ∧ h.DictOf (mixKind P w) a vs :=
  show ObjOk P w H h a (.dK kvs) from rd_of ok e
theorem dk_of {kvs : List (Key × V)} (ok : HOk P w H h) (e : H a = some (.dK kvs)) : kvs.length ≤ sizeLine ∧ (a == sysModules) = false ∧ ∃ vs, KV kvs vs ∧ h.DictOf (mixKind P w) a vs := dk_rd ok (.inl e)
/-- a tracked tuple of ints and texts is a key -/
theorem key_of {ks : List Key} (ok : HOk P w H h) (e : H a = some (.tup (ks.map kV))) : (tupleKind (mixKind P w)).is h ks a := by
  obtain ⟨_, its, r, o, h1, h2, n, h3⟩ := (show ObjOk P w H h a (.tup (ks.map kV)) from ok a _ e)
  exact ⟨o, its.toArray, n, h1, h2, h3, by simpa using items_are r⟩
theorem dt_rd {kvs : List (List Key × V)} (ok : HOk P w H h) (e : Rd H a (.dT kvs)) : kvs.length ≤ sizeLine ∧ (a == sysModules) = false ∧
    ∃ xs, KT H kvs xs ∧ h.DictOfH (tupleKind (mixKind P w)) a xs := by
  obtain ⟨z, y, xs, r, o, es, ep, h1, h2, h3, h4, h5⟩ := (show ObjOk P w H h a (.dT kvs) from rd_of ok e)
  refine ⟨z, y, xs, r, o, es, ep, h1, h2, h3, h4, fun x hx => ?_, h5⟩
  have all : ∀ {l : List (List Key × V)} {m : List (List Key × Addr × Value)}, KT H l m → ∀ x ∈ m, (tupleKind (mixKind P w)).is h x.1 x.2.1 := by
    intro l m q
    induction q with
    | nil => intro x hx; exact nomatch hx
    | @cons p q ps qs hq t ih =>
      intro x hx
      rcases List.mem_cons.mp hx with e | hx
      · subst e
        exact key_of ok (by rw [← hq.1]; exact hq.2.1)
      · exact ih x hx
  exact all r x hx
theorem dt_of {kvs : List (List Key × V)} (ok : HOk P w H h) (e : H a = some (.dT kvs)) : kvs.length ≤ sizeLine ∧ (a == sysModules) = false ∧
    ∃ xs, KT H kvs xs ∧ h.DictOfH (tupleKind (mixKind P w)) a xs := dt_rd ok (.inl e)
end

/-- what the dict at a holds at the key y -/
def DGet (H : Hp) (a : Addr) (y : V) (r : Option V) : Prop :=
  (∃ kvs k, Rd H a (.dK kvs) ∧ y = kV k ∧ r = valV kvs k) ∨ ∃ kvs k b, Rd H a (.dT kvs) ∧ y = .ref b ∧ H b = some (.tup (k.map kV)) ∧ r = valV kvs k
/-- the heap behind a[y] = v -/
def DPut (H : Hp) (a : Addr) (y v : V) (H' : Hp) : Prop :=
  (∃ kvs k, H a = some (.dK kvs) ∧ y = kV k ∧ kvs.length < sizeLine ∧ H' = upd H a (.dK (putK kvs k v))) ∨
  ∃ kvs k b, H a = some (.dT kvs) ∧ y = .ref b ∧ H b = some (.tup (k.map kV)) ∧ kvs.length < sizeLine ∧ H' = upd H a (.dT (putK kvs k v))
theorem DGet.k {H : Hp} {a : Addr} {kvs : List (Key × V)} {k : Key} (e : H a = some (.dK kvs)) : DGet H a (kV k) (valV kvs k) := .inl ⟨kvs, k, .inl e, rfl, rfl⟩
theorem DGet.t {H : Hp} {a b : Addr} {kvs : List (List Key × V)} {k : List Key} (e : H a = some (.dT kvs)) (eb : H b = some (.tup (k.map kV))) : DGet H a (.ref b) (valV kvs k) := .inr ⟨kvs, k, b, .inl e, rfl, eb, rfl⟩
theorem DPut.k {H : Hp} {a : Addr} {kvs : List (Key × V)} {k : Key} {v : V} (e : H a = some (.dK kvs)) (hl : kvs.length < sizeLine) : DPut H a (kV k) v (upd H a (.dK (putK kvs k v))) := .inl ⟨kvs, k, e, rfl, hl, rfl⟩
theorem DPut.t {H : Hp} {a b : Addr} {kvs : List (List Key × V)} {k : List Key} {v : V} (e : H a = some (.dT kvs)) (eb : H b = some (.tup (k.map kV))) (hl : kvs.length < sizeLine) :
    DPut H a (.ref b) v (upd H a (.dT (putK kvs k v))) := .inr ⟨kvs, k, b, e, rfl, eb, hl, rfl⟩


section
variable {X : Cx} {pins : List (Addr × Obj)} {σ : St} {H : Hp} {s : Shared} {a : Addr} {y v : V} {u r : Value} {o : Option V} {A : Around} {E : Value → Shared → Prop}

theorem Inv.big (I : Inv X pins σ H s) : sysModules < s.heap.objs.size := by
  have h : mainGlobals < s.heap.objs.size := (I.mod.glob.keeps I.bk).lt
  exact Nat.lt_trans (by decide) h

/-- d[y], there -/
theorem d_getItem {Q : Value → Shared → Prop} (hu : A.units + 1 < cLine) (I : Inv X pins σ H s) (g : DGet H a y (some v)) (ry : RelV y u) (h : ∀ w' s', Inv X pins σ H s' → RelV v w' → Q w' s') :
    wpAny (model X.prog X.w) A (getItem (.ref a) u) Q E s := by
  rcases g with ⟨kvs, k, e, ey, l⟩ | ⟨kvs, k, b, e, ey, eb, l⟩
  · subst ey
    obtain ⟨z, hd, vs, rel, dd⟩ := dk_rd I.hok e
    obtain ⟨w', hw, rw'⟩ := RelO.some_of (v := v) (o := valueAt vs k) (by rw [l]; exact rel.val k)
    exact wpAny_getItem_of (kV_is ry) dd.mapOf hw (h w' _ (I.tok _) rw')
  · subst ey
    cases (show u = Value.ref b from ry)
    obtain ⟨z, hd, xs, rel, dd⟩ := dt_rd I.hok e
    obtain ⟨w', hw, rw'⟩ := RelO.some_of (v := v) (o := (atKey xs k).map (·.2)) (by rw [l]; exact rel.val k)
    obtain ⟨p, hp, hp2⟩ := Option.map_eq_some_iff.mp hw
    refine wpAny_getItem_heap (tupleKind_room_in1 hu) (key_of I.hok eb) dd hp ?_
    rw [hp2]
    exact h w' _ (I.tok _) rw'
/-- y in d -/
theorem d_in {Q : Value → Shared → Prop} (hu : A.units + 1 < cLine) (I : Inv X pins σ H s) (g : DGet H a y o) (ry : RelV y u) (h : ∀ s', Inv X pins σ H s' → Q (.bool o.isSome) s') :
    wpAny (model X.prog X.w) A (compareOp .In u (.ref a)) Q E s := by
  rcases g with ⟨kvs, k, e, ey, l⟩ | ⟨kvs, k, b, e, ey, eb, l⟩
  · subst ey
    obtain ⟨z, hd, vs, rel, dd⟩ := dk_rd I.hok e
    refine wpAny_in_of (kV_is ry) hd dd.mapOf ?_
    rw [← (rel.val k).isSome_eq, ← l]
    exact h _ (I.tok _)
  · subst ey
    cases (show u = Value.ref b from ry)
    obtain ⟨z, hd, xs, rel, dd⟩ := dt_rd I.hok e
    refine wpAny_in_heap (tupleKind_room_in1 hu) (key_of I.hok eb) hd dd ?_
    have q := (rel.val k).isSome_eq
    rw [Option.isSome_map] at q
    rw [← q, ← l]
    exact h _ (I.tok _)
theorem d_notIn {Q : Value → Shared → Prop} (hu : A.units + 1 < cLine) (I : Inv X pins σ H s) (g : DGet H a y o) (ry : RelV y u) (h : ∀ s', Inv X pins σ H s' → Q (.bool (!o.isSome)) s') :
    wpAny (model X.prog X.w) A (compareOp .NotIn u (.ref a)) Q E s := by
  rcases g with ⟨kvs, k, e, ey, l⟩ | ⟨kvs, k, b, e, ey, eb, l⟩
  · subst ey
    obtain ⟨z, hd, vs, rel, dd⟩ := dk_rd I.hok e
    refine wpAny_notIn_of (kV_is ry) hd dd.mapOf ?_
    rw [← (rel.val k).isSome_eq, ← l]
    exact h _ (I.tok _)
  · subst ey
    cases (show u = Value.ref b from ry)
    obtain ⟨z, hd, xs, rel, dd⟩ := dt_rd I.hok e
    refine wpAny_notIn_heap (tupleKind_room_in1 hu) (key_of I.hok eb) hd dd ?_
    have q := (rel.val k).isSome_eq
    rw [Option.isSome_map] at q
    rw [← q, ← l]
    exact h _ (I.tok _)
/-- a dict's object is replaced -/
theorem d_write {h' : Heap} {t' : Nat} {ob : HO} (I : Inv X pins σ H s) (mu : Mut (H a)) (hs : Heap.SameBut a s.heap h') (he : ∃ q, h'.get? a = some q) (new : ObjOk X.prog X.w (upd H a ob) h' a ob) :
    Inv X pins σ (upd H a ob) { s with heap := h', toks := t' } :=
  I.write (x := a) (e := a) mu (.inl rfl) (fun b q hb z => (hs.2 b hb).trans z) he new
theorem dk_new {P : Program} {w : World} {H' : Hp} {h' : Heap} {kvs : List (Key × V)} {vs : List (Key × Value)} (z : kvs.length ≤ sizeLine) (hd : (a == sysModules) = false) (rel : KV kvs vs) (dd : h'.DictOf (mixKind P w) a vs) :
    ObjOk P w H' h' a (.dK kvs) := ⟨z, hd, vs, rel, dd⟩
/-- d[y] = v -/
theorem d_setItem {H' : Hp} {Q : Unit → Shared → Prop} (hu : A.units + 1 < cLine) (I : Inv X pins σ H s) (g : DPut H a y v H') (ry : RelV y u) (rv : RelV v r) (h : ∀ s', Inv X pins σ H' s' → Q () s') :
    wpAny (model X.prog X.w) A (setItem (.ref a) u r) Q E s := by
  rcases g with ⟨kvs, k, e, ey, l, eH⟩ | ⟨kvs, k, b, e, ey, eb, l, eH⟩
  · subst ey eH
    obtain ⟨z, hd, vs, rel, dd⟩ := dk_of I.hok e
    have hz : vs.length ≤ sizeLine := by rw [← rel.length]; exact z
    have hl : (putK kvs k v).length ≤ sizeLine := by have := length_putK kvs k v; omega
    refine wpAny_setItem_pairs (hsz := hz) (kV_is ry) dd fun h' dd' hs => h _ ?_
    have he : ∃ q, h'.get? a = some q := let ⟨q, _, _, hq, _⟩ := dd'; ⟨q, hq⟩
    exact d_write I (by rw [e]; exact True.intro) hs he (dk_new hl hd (rel.put k rv) dd')
  · subst ey eH
    cases (show u = Value.ref b from ry)
    obtain ⟨z, hd, xs, rel, dd⟩ := dt_of I.hok e
    have hz : xs.length ≤ sizeLine := by rw [← Paired.length rel]; exact z
    have hl : (putK kvs k v).length ≤ sizeLine := by have := length_putK kvs k v; omega
    refine wpAny_setItem_heap (hsz := hz) (tupleKind_room_in1 hu) (key_of I.hok eb) dd fun h' dd' hs => h _ ?_
    obtain ⟨q, es, ep, hq, h2, h3, h4, _, h5⟩ := dd'
    refine d_write I (by rw [e]; exact True.intro) hs ⟨q, hq⟩ ⟨hl, hd, _, (rel.put k eb rv).keeps fun c ys ec => ?_, q, es, ep, hq, h2, h3, h4, h5⟩
    rw [upd_ne (ne_of ec e (fun z => nomatch z))]
    exact ec
end

section
variable {X : Cx} {pins : List (Addr × Obj)} {σ : St} {H : Hp} {s : Shared} {a : Addr} {kvs : List (Key × V)} {k : Key} {u : Value} {A : Around} {E : Value → Shared → Prop}
/-- del d[k] -/
theorem d_delItem {Q : Unit → Shared → Prop} (I : Inv X pins σ H s) (e : H a = some (.dK kvs)) (ry : RelV (kV k) u) (l : (valV kvs k).isSome = true) (h : ∀ s', Inv X pins σ (upd H a (.dK (dropK kvs k))) s' → Q () s') :
    wpAny (model X.prog X.w) A (delItem (.ref a) u) Q E s := by
  obtain ⟨z, hd, vs, rel, dd⟩ := dk_of I.hok e
  refine wpAny_delItem_slot dd.typeIs (by decide) PySem.F.slot_dict_delitem
    (call_meetsIn PySem.F.slot_dict_delitem dd.typeIs PySem.F.entry_dict_delitem (PySem.F.args_dict_delitem_2 _ _) (meets_dict_delitem_pairs (mixKind X.prog X.w) a (kV_is ry)) ⟨vs, dd, by rw [← rel.length]; exact z, by rw [← (rel.val k).isSome_eq]; exact l, fun h' dd' hs => h _ ?_⟩)
  have he : ∃ q, h'.get? a = some q := let ⟨q, _, _, hq, _⟩ := dd'; ⟨q, hq⟩
  exact d_write I (by rw [e]; exact True.intro) hs he (dk_new (Nat.le_trans (dropK_le kvs k) z) hd (rel.drop k) dd')
/-- d.pop(k[, x]), there -/
theorem d_pop {v : V} {more : List Value} {Q : Value → Shared → Prop} (I : Inv X pins σ H s) (e : H a = some (.dK kvs)) (ry : RelV (kV k) u) (l : valV kvs k = some v) (hm : more = [] ∨ ∃ x, more = [x])
    (h : ∀ w' s', Inv X pins σ (upd H a (.dK (dropK kvs k))) s' → RelV v w' → Q w' s') : wpAny (model X.prog X.w) A (call (.builtin "dict.pop") (.ref a :: u :: more)) Q E s := by
  obtain ⟨z, hd, vs, rel, dd⟩ := dk_of I.hok e
  obtain ⟨w', hw, rw'⟩ := RelO.some_of (v := v) (o := valueAt vs k) (by rw [← l]; exact rel.val k)
  have hp : (keyPart u).isSome = true := by
    cases k with
    | inl i => obtain ⟨t, q⟩ := (show ∃ t, u = Value.int i t from ry); subst q; rfl
    | inr x => obtain ⟨t, q⟩ := (show ∃ t, u = Value.str x t from ry); subst q; rfl
  have ha : argsOk "dict.pop" ⟨.ref a :: u :: more, []⟩ := by
    rcases hm with q | ⟨x, q⟩
    · subst q; exact PySem.F.args_dict_pop_2 _ _
    · subst q; exact PySem.F.args_dict_pop_3 _ _ _
  refine call_meetsIn PySem.F.slot_dict_pop dd.typeIs PySem.F.entry_dict_pop ha (meets_dict_pop_there (mixKind X.prog X.w) a (kV_is ry) more hm hp)
    ⟨vs, w', dd, by rw [← rel.length]; exact z, hw, fun h' dd' hs => h w' _ ?_ rw'⟩
  have he : ∃ q, h'.get? a = some q := let ⟨q, _, _, hq, _⟩ := dd'; ⟨q, hq⟩
  exact d_write I (by rw [e]; exact True.intro) hs he (dk_new (Nat.le_trans (dropK_le kvs k) z) hd (rel.drop k) dd')
/-- d.pop(k, x), not there -/
theorem d_popD {r : Value} {Q : Value → Shared → Prop} (I : Inv X pins σ H s) (e : H a = some (.dK kvs)) (ry : RelV (kV k) u) (l : valV kvs k = none) (h : ∀ s', Inv X pins σ H s' → Q r s') :
    wpAny (model X.prog X.w) A (call (.builtin "dict.pop") [.ref a, u, r]) Q E s := by
  obtain ⟨z, hd, vs, rel, dd⟩ := dk_of I.hok e
  have hn : valueAt vs k = none := RelO.none_of (by rw [← l]; exact rel.val k)
  have hp : (keyPart u).isSome = true := by
    cases k with
    | inl i => obtain ⟨t, q⟩ := (show ∃ t, u = Value.int i t from ry); subst q; rfl
    | inr x => obtain ⟨t, q⟩ := (show ∃ t, u = Value.str x t from ry); subst q; rfl
  exact call_meetsIn PySem.F.slot_dict_pop dd.typeIs PySem.F.entry_dict_pop (PySem.F.args_dict_pop_3 _ _ _) (meets_dict_pop_default (mixKind X.prog X.w) a (kV_is ry) hd hp r) ⟨vs, dd, hn, h _ (I.tok _)⟩
/-- d.clear() -/
theorem d_clear {Q : Value → Shared → Prop} (I : Inv X pins σ H s) (e : H a = some (.dK kvs)) (h : ∀ s', Inv X pins σ (upd H a (.dK [])) s' → Q .none s') : wpAny (model X.prog X.w) A (call (.builtin "dict.clear") [.ref a]) Q E s := by
  obtain ⟨z, hd, vs, rel, dd⟩ := dk_of I.hok e
  refine call_meetsIn PySem.F.slot_dict_clear dd.typeIs PySem.F.entry_dict_clear (PySem.F.args_dict_clear_1 _) (meets_dict_clear (mixKind X.prog X.w) a) ⟨vs, dd, by rw [← rel.length]; exact z, fun h' dd' hs => h _ ?_⟩
  have he : ∃ q, h'.get? a = some q := let ⟨q, _, _, hq, _⟩ := dd'; ⟨q, hq⟩
  exact d_write (t' := s.toks) I (by rw [e]; exact True.intro) hs he (dk_new (Nat.zero_le _) hd .nil dd')
/-- len(d) -/
theorem d_len {Q : Value → Shared → Prop} (I : Inv X pins σ H s) (e : Rd H a (.dK kvs)) (h : ∀ t s', Inv X pins σ H s' → Q (.int kvs.length t) s') : wpAny (model X.prog X.w) A (call (.builtin "len") [.ref a]) Q E s := by
  obtain ⟨z, hd, vs, rel, dd⟩ := dk_rd I.hok e
  refine call_len_dict hd dd (by rw [← rel.length]; rw [sizeLine_eq] at z; omega) ?_
  rw [← rel.length]
  exact h _ _ (I.tok _)
/-- if d -/
theorem d_truth {Q : Bool → Shared → Prop} (I : Inv X pins σ H s) (e : Rd H a (.dK kvs)) (h : ∀ s', Inv X pins σ H s' → Q (!kvs.isEmpty) s') : wpAny (model X.prog X.w) A (truthy (.ref a)) Q E s := by
  obtain ⟨z, hd, vs, rel, dd⟩ := dk_rd I.hok e
  refine wpAny_truthy_dict hd dd (by rw [← rel.length]; rw [sizeLine_eq] at z; omega) ?_
  have q : kvs.isEmpty = vs.isEmpty := by cases rel <;> rfl
  rw [← q]
  exact h _ (I.tok _)
end


/-! ### readings and rules -/
/-- the element of a subscription, not a slice -/
def NoSl (i : Expr) : Prop := ∀ ov iv, subscripted i false ov iv = operate [ov, iv] (getItem ov iv)
theorem subD_of {prog : Program} {w : World} {A : Around} {E : Value → Shared → Prop} {s : Shared} {env : Env} {value slice : Expr} {pos : Pos} {T id : String} {Q : Value → Shared → Prop}
    (hl : typeLookup (.type T) "__getitem__" = pure (some (.builtin id))) (hs : NoSl slice)
    (h : wpAny (model prog w) A (eval value env) (fun o s₁ => wpAny (model prog w) A (eval slice env) (fun i s₂ => s₂.TypeIs o T ∧ wpAny (model prog w) A (getItem o i) Q E s₂) E s₁) E s) :
    wpAny (model prog w) A (eval (.Subscript value slice pos) env) Q E s := by
  refine Subscript_ (wpAny_mono h (fun o s₁ h₁ => wpAny_mono h₁ (fun i s₂ h₂ => ?_) fun _ _ x => x) fun _ _ x => x)
  obtain ⟨hT, h₂⟩ := h₂
  unfold subscriptTail
  refine wpAny_bind ?_
  rw [getitemInPython_of_ne hT.not_modules]
  refine wpAny_bind (wpAny_specialOf hT hl ?_)
  have fin : wpAny (model prog w) A (subscripted slice false o i) (fun r s₃ => wpAny (model prog w) A (letTemporaryGo value o r >>= fun _ => pure r) Q E s₃) E s₂ := by
    rw [hs o i]
    exact wpAny_operating (wpAny_mono h₂ (fun r s₃ h₃ => wpAny_bind (wpAny_letTemporaryGo (wpAny_pure h₃))) fun _ _ x => x)
  first
    | exact wpAny_pure (wpAny_bind fin)
    | exact wpAny_bind (wpAny_pure (wpAny_bind fin))
    | exact wpAny_bind fin

theorem dict_typeIs {X : Cx} {pins : List (Addr × Obj)} {σ : St} {H : Hp} {s : Shared} {a : Addr} {y : V} {o : Option V} (I : Inv X pins σ H s) (g : DGet H a y o) : s.TypeIs (.ref a) "dict" := by
  rcases g with ⟨kvs, k, e, _, _⟩ | ⟨kvs, k, b, e, _, _, _⟩
  · obtain ⟨_, _, vs, _, dd⟩ := dk_rd I.hok e
    exact dd.typeIs
  · obtain ⟨_, _, xs, _, dd⟩ := dt_rd I.hok e
    exact dd.typeIs
theorem dict_noDict {X : Cx} {pins : List (Addr × Obj)} {σ : St} {H : Hp} {s : Shared} {a : Addr} {y : V} {o : Option V} (I : Inv X pins σ H s) (g : DGet H a y o) :
    ∀ b, Value.ref a = .ref b → ∃ ob, s.heap.get? b = some ob ∧ ob.dict = none := fun b q => by
  cases q
  rcases g with ⟨kvs, k, e, _, _⟩ | ⟨kvs, k, b, e, _, _, _⟩
  · obtain ⟨_, _, vs, _, ob, _, _, h1, h2, _⟩ := dk_rd I.hok e
    exact ⟨ob, h1, h2.2.1⟩
  · obtain ⟨_, _, xs, _, ob, _, _, h1, h2, _⟩ := dt_rd I.hok e
    exact ⟨ob, h1, h2.2.1⟩

/-- d[y] -/
def tDGet (td ty : TE) : TE := fun σ H Q => td σ H fun x H1 => ty σ H1 fun y H2 => ∃ a v, x = .ref a ∧ DGet H2 a y (some v) ∧ Q v H2
/-- y in d, y not in d -/
def tDIn (ty td : TE) : TE := fun σ H Q => ty σ H fun y H1 => td σ H1 fun x H2 => ∃ a o, x = .ref a ∧ DGet H2 a y o ∧ Q (.bl o.isSome) H2
def tDNotIn (ty td : TE) : TE := fun σ H Q => ty σ H fun y H1 => td σ H1 fun x H2 => ∃ a o, x = .ref a ∧ DGet H2 a y o ∧ Q (.bl (!o.isSome)) H2
/-- d[y] = v -/
def sDPut (td ty tv : TE) : TS := fun D σ H => tv σ H fun v H1 => td σ H1 fun x H2 => ty σ H2 fun y H3 => ∃ a H4, x = .ref a ∧ DPut H3 a y v H4 ∧ D.nx σ H4
/-- d[y] op= v -/
def sDAug (td ty tv : TE) (rd : V → V → Hp → VK → Prop) : TS := fun D σ H => td σ H fun x H1 => ty σ H1 fun y H2 => ∃ a v, x = .ref a ∧ DGet H2 a y (some v) ∧
  tv σ H2 fun y2 H3 => rd v y2 H3 fun z H4 => ∃ H5, DPut H4 a y z H5 ∧ D.nx σ H5
/-- del d[y] -/
def sDDel (td ty : TE) : TS := fun D σ H => td σ H fun x H1 => ty σ H1 fun y H2 => ∃ a kvs k, x = .ref a ∧ H2 a = some (.dK kvs) ∧ y = kV k ∧ (valV kvs k).isSome = true ∧ D.nx σ (upd H2 a (.dK (dropK kvs k)))

section
variable {X : Cx} {o i e value : Expr} {pos pos' tpos : Pos} {td ty tv : TE}
theorem pe_dget (hu : X.A.units + 1 < cLine) (ho : PE X o td) (hi : PE X i ty) (hs : NoSl i) : PE X (.Subscript o i pos) (tDGet td ty) := by
  intro pins s σ H Q I h
  refine subD_of PySem.F.slot_dict_getitem.lookup hs (thn (ho pins s σ H _ I h) fun u s1 ⟨x, H1, I1, rx, q1⟩ => thn (hi pins s1 σ H1 _ I1 q1) fun iv s2 ⟨y, H2, I2, ry, a, v, ex, g, q2⟩ => ?_)
  subst ex
  obtain rfl : u = Value.ref a := rx
  exact ⟨dict_typeIs I2 g, d_getItem hu I2 g ry fun w' s3 I3 rw' => ⟨v, H2, I3, rw', q2⟩⟩
theorem pc_din (hu : X.A.units + 1 < cLine) (hi : PE X i ty) (ho : PE X o td) : PC X .In i o (tDIn ty td) := by
  intro pins s σ H Q I h
  refine thn (hi pins s σ H _ I h) fun iv s1 ⟨y, H1, I1, ry, q1⟩ => thn (ho pins s1 σ H1 _ I1 q1) fun u s2 ⟨x, H2, I2, rx, a, ov, ex, g, q2⟩ => ?_
  subst ex
  obtain rfl : u = Value.ref a := rx
  exact d_in hu I2 g ry fun s3 I3 => ⟨.bl ov.isSome, H2, I3, rfl, q2⟩
theorem pc_dnotin (hu : X.A.units + 1 < cLine) (hi : PE X i ty) (ho : PE X o td) : PC X .NotIn i o (tDNotIn ty td) := by
  intro pins s σ H Q I h
  refine thn (hi pins s σ H _ I h) fun iv s1 ⟨y, H1, I1, ry, q1⟩ => thn (ho pins s1 σ H1 _ I1 q1) fun u s2 ⟨x, H2, I2, rx, a, ov, ex, g, q2⟩ => ?_
  subst ex
  obtain rfl : u = Value.ref a := rx
  exact d_notIn hu I2 g ry fun s3 I3 => ⟨.bl (!ov.isSome), H2, I3, rfl, q2⟩
theorem ps_dput (hu : X.A.units + 1 < cLine) (ho : PE X o td) (hi : PE X i ty) (hv : PE X value tv) (hs : swapsWith value (some (.Subscript o i pos')) pos.line X.env = pure false) :
    PS X (.Assign [.Subscript o i pos'] value pos) (sDPut td ty tv) := by
  intro pins s σ H D I h
  refine wpAny_Assign_Subscript (thn (hv pins s σ H _ I h) fun r s1 ⟨v, H1, I1, rv, q1⟩ => thn (ho pins s1 σ H1 _ I1 q1) fun u s2 ⟨x, H2, I2, rx, q2⟩ => thn (hi pins s2 σ H2 _ I2 q2) fun iv s3 ⟨y, H3, I3, ry, a, H4, ex, g, q3⟩ => ?_) hs
  subst ex
  obtain rfl : u = Value.ref a := rx
  exact d_setItem hu I3 g ry rv fun s4 I4 => ⟨σ, H4, I4, q3⟩
theorem ps_daug {op : Operator} {rd : V → V → Hp → VK → Prop} (hu : X.A.units + 1 < cLine) (ho : PE X o td) (hi : PE X i ty) (hv : PE X value tv) (hop : InOp X op rd)
    (ha : ∀ ov iv new, augStore i ov iv new = (do holding [new, ov, iv] (setItem ov iv new); release [new, ov, iv] []; pure .next)) : PS X (.AugAssign (.Subscript o i tpos) op value pos) (sDAug td ty tv rd) := by
  intro pins s σ H D I h
  refine wpAny_AugAssign_SubscriptAny (thn (ho pins s σ H _ I h) fun u s1 ⟨x, H1, I1, rx, q1⟩ => thn (hi pins s1 σ H1 _ I1 q1) fun iv s2 ⟨y, H2, I2, ry, a, v, ex, g, q2⟩ => ?_) ha
  subst ex
  obtain rfl : u = Value.ref a := rx
  refine d_getItem hu I2 g ry fun w' s3 I3 rw' => thn (hv pins s3 σ H2 _ I3 q2) fun w2 s4 ⟨y2, H3, I4, ry2, q3⟩ => thn (hop pins s4 σ H3 v y2 w' w2 _ I4 rw' ry2 q3) fun w3 s5 ⟨z, H4, I5, rz, H5, g5, q4⟩ => ?_
  exact d_setItem hu I5 g5 ry rz fun s6 I6 => ⟨σ, H5, I6, q4⟩
theorem ps_ddel (ho : PE X o td) (hi : PE X i ty) : PS X (.Delete [.Subscript o i tpos] pos) (sDDel td ty) := by
  intro pins s σ H D I h
  refine wpAny_Delete (wpAny_deleteEach_cons (wpAny_delete_Subscript (thn (ho pins s σ H _ I h) fun u s1 ⟨x, H1, I1, rx, q1⟩ => thn (hi pins s1 σ H1 _ I1 q1) fun iv s2 ⟨y, H2, I2, ry, a, kvs, k, ex, e, ey, l, q2⟩ => ?_)))
  subst ex ey
  obtain rfl : u = Value.ref a := rx
  exact d_delItem I2 e ry l fun s3 I3 => wpAny_deleteEach_nil ⟨σ, _, I3, q2⟩
end


/-! ### displays -/
theorem dk_empty {P : Program} {w : World} {H : Hp} (h : Heap) (hb : sysModules < h.objs.size) : ObjOk P w H (h.push { cls := .type "dict", data := .dict #[] }) h.objs.size (.dK []) :=
  ⟨Nat.zero_le _, beq_eq_false_iff_ne.mpr (Ne.symm (Nat.ne_of_lt hb)), [], .nil, Heap.DictOf.new h⟩
theorem dt_empty {P : Program} {w : World} {H : Hp} (h : Heap) (hb : sysModules < h.objs.size) : ObjOk P w H (h.push { cls := .type "dict", data := .dict #[] }) h.objs.size (.dT []) :=
  ⟨Nat.zero_le _, beq_eq_false_iff_ne.mpr (Ne.symm (Nat.ne_of_lt hb)), [], .nil, _, #[], 0, Heap.get?_push_size _ rfl, ⟨rfl, rfl, rfl⟩, rfl, rfl, List.nodup_nil⟩
/-- {}, to be a dict of the kind that is wanted -/
def tDNewK : TE := fun _ H Q => ∀ p, H p = none → Q (.ref p) (upd H p (.dK []))
def tDNewT : TE := fun _ H Q => ∀ p, H p = none → Q (.ref p) (upd H p (.dT []))
section
variable {X : Cx} {pos : Pos}
theorem pe_dnewK : PE X (.Dict [] [] pos) tDNewK := fun pins s σ H Q I h =>
  wpAny_Dict_empty ⟨.ref s.heap.objs.size, _, I.laid (a := s.heap.objs.size) (o := .dK []) (t' := s.toks) (fun _ _ q => Heap.get?_push_of_some _ q) (Nat.le_refl _) (dk_empty s.heap I.big), rfl, h _ (I.hok.fresh (Nat.le_refl _))⟩
theorem pe_dnewT : PE X (.Dict [] [] pos) tDNewT := fun pins s σ H Q I h =>
  wpAny_Dict_empty ⟨.ref s.heap.objs.size, _, I.laid (a := s.heap.objs.size) (o := .dT []) (t' := s.toks) (fun _ _ q => Heap.get?_push_of_some _ q) (Nat.le_refl _) (dt_empty s.heap I.big), rfl, h _ (I.hok.fresh (Nat.le_refl _))⟩
end

/-- the pairs of a display, from the left -/
def tPairs : List (TE × TE) → St → Hp → (List (V × V) → Hp → Prop) → Prop
  | [], _, H, Q => Q [] H
  | (tk, tv) :: r, σ, H, Q => tk σ H fun x H1 => tv σ H1 fun y H2 => tPairs r σ H2 fun ps H3 => Q ((x, y) :: ps) H3
abbrev VV : List (V × V) → List (Value × Value) → Prop := Paired fun p q => RelV p.1 q.1 ∧ RelV p.2 q.2
def PPs (X : Cx) (pos : Pos) (keys : List (Option Expr)) (values : List Expr) (trs : List (TE × TE)) : Prop :=
  ∀ (pins : List (Addr × Obj)) (s : Shared) (σ : St) (H : Hp) (Q : List (V × V) → Hp → Prop), Inv X pins σ H s → tPairs trs σ H Q →
    wpAny (model X.prog X.w) X.A (evalPairs (pairTrees keys values X.env pos)) (fun vs s' => ∃ ps H', Inv X pins σ H' s' ∧ VV ps vs ∧ Q ps H') X.xe s
theorem pps_nil {X : Cx} {pos : Pos} : PPs X pos [] [] [] := fun pins s σ H Q I h => pairTrees_nil_walk ⟨[], H, I, .nil, h⟩
theorem pps_cons {X : Cx} {pos : Pos} {k v : Expr} {ks : List (Option Expr)} {vs : List Expr} {tk tv : TE} {trs : List (TE × TE)} (hk : PE X k tk) (hv : PE X v tv) (hr : PPs X pos ks vs trs) :
    PPs X pos (some k :: ks) (v :: vs) ((tk, tv) :: trs) := fun pins s σ H Q I h =>
  pairTrees_cons_walk (thn (hk pins s σ H _ I h) fun u s1 ⟨x, H1, I1, rx, q1⟩ => thn (hv pins s1 σ H1 _ I1 q1) fun w2 s2 ⟨y, H2, I2, ry, q2⟩ =>
    thn (hr pins s2 σ H2 _ I2 q2) fun ws s3 ⟨ps, H3, I3, rel, q3⟩ => ⟨(x, y) :: ps, H3, I3, .cons ⟨rx, ry⟩ rel, q3⟩)

def mergeK (kvs more : List (Key × V)) : List (Key × V) := more.foldl (fun acc kv => putK acc kv.1 kv.2) kvs
theorem KV.merge : ∀ {more : List (Key × V)} {rs : List (Key × Value)} {kvs : List (Key × V)} {vs : List (Key × Value)}, KV more rs → KV kvs vs → KV (mergeK kvs more) (merged vs rs) := by
  intro more rs kvs vs r
  unfold KV at r
  induction r generalizing kvs vs with
  | nil => intro q; exact q
  | @cons p q ps qs h t ih =>
    intro r0
    have e : KV (putK kvs p.1 p.2) (stored vs q.1 q.2) := by
      have := r0.put p.1 h.2
      rw [← h.1]; exact this
    exact ih e
theorem length_mergeK : ∀ (more kvs : List (Key × V)), (mergeK kvs more).length ≤ kvs.length + more.length
  | [], kvs => by show kvs.length ≤ kvs.length + 0; omega
  | p :: r, kvs => by
    have h1 := length_mergeK r (putK kvs p.1 p.2)
    have h2 := length_putK kvs p.1 p.2
    show (mergeK (putK kvs p.1 p.2) r).length ≤ _
    rw [List.length_cons]; omega
theorem carries_of {P : Program} {w : World} : ∀ {kvs : List (Key × V)} {ws : List (Value × Value)}, VV (kvs.map fun kv => (kV kv.1, kv.2)) ws → ∃ rs, Carries (mixKind P w) ws rs ∧ KV kvs rs
  | [], _, r => by rw [List.map_nil] at r; cases r; exact ⟨[], True.intro, .nil⟩
  | p :: kvs, _, r => by
    rw [List.map_cons] at r
    cases r with
    | @cons a b as bs h t =>
      obtain ⟨rs, c, q⟩ := carries_of (P := P) (w := w) t
      obtain ⟨b1, b2⟩ := b
      exact ⟨(p.1, b2) :: rs, ⟨kV_is h.1, rfl, c⟩, .cons ⟨rfl, h.2⟩ q⟩
/-- {k: v, ..} with keys ints and texts; the new dict stands empty while the pairs are made -/
def tDisp (trs : List (TE × TE)) : TE := fun σ H Q => ∀ p, H p = none → tPairs trs σ (upd H p (.dK [])) fun ps H2 => H2 p = some (.dK []) ∧ ∃ kvs : List (Key × V), ps = kvs.map (fun kv => (kV kv.1, kv.2)) ∧ kvs.length ≤ 15 ∧ Q (.ref p) (upd H2 p (.dK (mergeK [] kvs)))
theorem pe_disp {X : Cx} {pos : Pos} {keys : List (Option Expr)} {values : List Expr} {trs : List (TE × TE)} (h : PPs X pos keys values trs) (hall : keys.all (·.isSome) = true) (hl : keys.length = values.length) (h0 : keys ≠ [])
    (h15 : keys.length ≤ 15) : PE X (.Dict keys values pos) (tDisp trs) := by
  intro pins s σ H Q I q
  have hn := I.hok.fresh (Nat.le_refl s.heap.objs.size)
  have I1 := I.laid (a := s.heap.objs.size) (o := .dK []) (h' := s.heap.push { cls := .type "dict", data := .dict #[] }) (t' := s.toks) (fun _ _ q => Heap.get?_push_of_some _ q) (Nat.le_refl _) (dk_empty s.heap I.big)
  refine wpAny_Dict_walk (knd := mixKind X.prog X.w) hall hl h0 h15 (thn (h pins _ σ _ _ I1 (q _ hn)) fun ws s2 ⟨ps, H2, I2, rel, e, kvs, ep, lk, q2⟩ => ?_)
  subst ep
  obtain ⟨rs, c, rk⟩ := carries_of (P := X.prog) (w := X.w) rel
  obtain ⟨z, hd, vs0, r0, dd⟩ := dk_of I2.hok e
  cases r0
  refine ⟨rs, c, dd, fun h' dd' hs => ⟨.ref s.heap.objs.size, _, ?_, rfl, q2⟩⟩
  have hz : (mergeK [] kvs).length ≤ sizeLine := by
    have h1 := length_mergeK kvs []
    rw [List.length_nil] at h1
    rw [sizeLine_eq]; omega
  have he : ∃ q, h'.get? s.heap.objs.size = some q := let ⟨q, _, _, hq, _⟩ := dd'; ⟨q, hq⟩
  exact d_write I2 (by rw [e]; exact True.intro) hs he (dk_new hz hd (rk.merge .nil) dd')


/-! ### methods -/
/-- a method call o.m(e) of a built-in, with one argument: what must be seen of the text -/
structure M1 (X : Cx) (o : Expr) (m : Str) (apos : Pos) (e : Expr) (cpos : Pos) : Prop where
  base : attributeBase o m X.env (eval o X.env) = eval o X.env
  few : ((backTo cpos (starEach [e] X.env)).all (fun x => !x.1) && (backToKw cpos (keywordEach [] X.env)).all (fun x => x.1.isSome)
    && decide (([e] : List Expr).length + ([] : List Keyword).length + (if ([] : List Keyword).isEmpty then 0 else 1) < 30)) = true
  line : (apos.endLine == cpos.line) = true
  trees : backTo cpos (starEach [e] X.env) = [(false, eval e X.env)]
structure M2 (X : Cx) (o : Expr) (m : Str) (apos : Pos) (e f : Expr) (cpos : Pos) : Prop where
  base : attributeBase o m X.env (eval o X.env) = eval o X.env
  few : ((backTo cpos (starEach [e, f] X.env)).all (fun x => !x.1) && (backToKw cpos (keywordEach [] X.env)).all (fun x => x.1.isSome)
    && decide (([e, f] : List Expr).length + ([] : List Keyword).length + (if ([] : List Keyword).isEmpty then 0 else 1) < 30)) = true
  line : (apos.endLine == cpos.line) = true
  trees : backTo cpos (starEach [e, f] X.env) = [(false, eval e X.env), (false, eval f X.env)]

/-- a is a dict, whatever its keys -/
def IsD (H : Hp) (a : Addr) : Prop := (∃ kvs, Rd H a (.dK kvs)) ∨ ∃ kvs, Rd H a (.dT kvs)
theorem isD_at {X : Cx} {pins : List (Addr × Obj)} {σ : St} {H : Hp} {s : Shared} {a : Addr} (I : Inv X pins σ H s) (d : IsD H a) :
    s.TypeIs (.ref a) "dict" ∧ (∀ b, Value.ref a = .ref b → ∃ ob, s.heap.get? b = some ob ∧ ob.dict = none) ∧ (a == sysModules) = false := by
  rcases d with ⟨kvs, e⟩ | ⟨kvs, e⟩
  · obtain ⟨_, hd, vs, _, dd⟩ := dk_rd I.hok e
    refine ⟨dd.typeIs, fun b q => ?_, hd⟩
    cases q
    obtain ⟨ob, _, _, h1, h2, _⟩ := dd
    exact ⟨ob, h1, h2.2.1⟩
  · obtain ⟨_, hd, xs, _, dd⟩ := dt_rd I.hok e
    refine ⟨dd.typeIs, fun b q => ?_, hd⟩
    cases q
    obtain ⟨ob, _, _, h1, h2, _⟩ := dd
    exact ⟨ob, h1, h2.2.1⟩

section
variable {X : Cx} {pins : List (Addr × Obj)} {σ : St} {H : Hp} {s : Shared} {a : Addr} {y d : V} {u r : Value} {o : Option V} {A : Around} {E : Value → Shared → Prop}
/-- d.get(y) -/
theorem d_get1 {Q : Value → Shared → Prop} (hu : A.units + 1 < cLine) (I : Inv X pins σ H s) (g : DGet H a y o) (ry : RelV y u) (h : ∀ w' s', Inv X pins σ H s' → RelV (o.getD .non) w' → Q w' s') :
    wpAny (model X.prog X.w) A (call (.builtin "dict.get") [.ref a, u]) Q E s := by
  rcases g with ⟨kvs, k, e, ey, l⟩ | ⟨kvs, k, b, e, ey, eb, l⟩
  · subst ey
    obtain ⟨z, hd, vs, rel, dd⟩ := dk_rd I.hok e
    refine call_meetsIn PySem.F.slot_dict_get dd.typeIs PySem.F.entry_dict_get (PySem.F.args_dict_get_2 _ _) (meets_dict_get (mixKind X.prog X.w) a (kV_is ry) hd) ⟨_, dd.mapOf, h _ _ (I.tok _) ?_⟩
    rw [l]
    exact (rel.val k).getD rfl
  · subst ey
    cases (show u = Value.ref b from ry)
    obtain ⟨z, hd, xs, rel, dd⟩ := dt_rd I.hok e
    refine call_meetsIn PySem.F.slot_dict_get dd.typeIs PySem.F.entry_dict_get (PySem.F.args_dict_get_2 _ _) (meetsH_dict_get (tupleKind (mixKind X.prog X.w)) a b hd) ⟨tupleKind_room_in1 hu, k, xs, key_of I.hok eb, dd, h _ _ (I.tok _) ?_⟩
    rw [l]
    exact (rel.val k).getD rfl
/-- d.get(y, x) -/
theorem d_get2 {Q : Value → Shared → Prop} (hu : A.units + 1 < cLine) (I : Inv X pins σ H s) (g : DGet H a y o) (ry : RelV y u) (rd : RelV d r) (h : ∀ w' s', Inv X pins σ H s' → RelV (o.getD d) w' → Q w' s') :
    wpAny (model X.prog X.w) A (call (.builtin "dict.get") [.ref a, u, r]) Q E s := by
  rcases g with ⟨kvs, k, e, ey, l⟩ | ⟨kvs, k, b, e, ey, eb, l⟩
  · subst ey
    obtain ⟨z, hd, vs, rel, dd⟩ := dk_rd I.hok e
    refine call_meetsIn PySem.F.slot_dict_get dd.typeIs PySem.F.entry_dict_get (PySem.F.args_dict_get_3 _ _ _) (meets_dict_get_default (mixKind X.prog X.w) a (kV_is ry) hd r) ⟨_, dd.mapOf, h _ _ (I.tok _) ?_⟩
    rw [l]
    exact (rel.val k).getD rd
  · subst ey
    cases (show u = Value.ref b from ry)
    obtain ⟨z, hd, xs, rel, dd⟩ := dt_rd I.hok e
    refine call_meetsIn PySem.F.slot_dict_get dd.typeIs PySem.F.entry_dict_get (PySem.F.args_dict_get_3 _ _ _) (meetsH_dict_get_default (tupleKind (mixKind X.prog X.w)) a b hd r) ⟨tupleKind_room_in1 hu, k, xs, key_of I.hok eb, dd, h _ _ (I.tok _) ?_⟩
    rw [l]
    exact (rel.val k).getD rd
end

def tDGet1 (td ty : TE) : TE := fun σ H Q => td σ H fun x H1 => ∃ a, x = .ref a ∧ IsD H1 a ∧ ty σ H1 fun y H2 => ∃ o, DGet H2 a y o ∧ Q (o.getD .non) H2
def tDGet2 (td ty tx : TE) : TE := fun σ H Q => td σ H fun x H1 => ∃ a, x = .ref a ∧ IsD H1 a ∧ ty σ H1 fun y H2 => tx σ H2 fun z H3 => ∃ o, DGet H3 a y o ∧ Q (o.getD z) H3
/-- d.pop(k): there; d.pop(k, x): there or not -/
def tDPop1 (td ty : TE) : TE := fun σ H Q => td σ H fun x H1 => ∃ a, x = .ref a ∧ IsD H1 a ∧ ty σ H1 fun y H2 => ∃ kvs k v, H2 a = some (.dK kvs) ∧ y = kV k ∧ valV kvs k = some v ∧ Q v (upd H2 a (.dK (dropK kvs k)))
def tDPop2 (td ty tx : TE) : TE := fun σ H Q => td σ H fun x H1 => ∃ a, x = .ref a ∧ IsD H1 a ∧ ty σ H1 fun y H2 => tx σ H2 fun z H3 => ∃ kvs k, H3 a = some (.dK kvs) ∧ y = kV k ∧
  (∀ v, valV kvs k = some v → Q v (upd H3 a (.dK (dropK kvs k)))) ∧ (valV kvs k = none → Q z H3)
section
variable {X : Cx} {o e f : Expr} {apos cpos : Pos} {td ty tx : TE}
theorem pe_dget1 (hu : X.A.units + 1 < cLine) (ho : PE X o td) (he : PE X e ty) (m : M1 X o "get" apos e cpos) : PE X (.Call (.Attribute o "get" apos) [e] [] cpos) (tDGet1 td ty) := by
  intro pins s σ H Q I h
  refine wpAny_Call_method m.base m.few m.line PySem.F.plainAttrs_dict PySem.F.slot_dict_get PySem.F.type_dict_get (thn (ho pins s σ H _ I h) fun u s1 ⟨x, H1, I1, rx, a, ex, d, q1⟩ => ?_)
  subst ex
  obtain rfl : u = Value.ref a := rx
  obtain ⟨t1, t2, _⟩ := isD_at I1 d
  refine ⟨t1, t2, ?_⟩
  rw [m.trees]
  refine Calls.callWith_builtin rfl (Calls.evalArgs_plain (Calls.spliced_cons (thn (he pins s1 σ H1 _ I1 q1) fun iv s2 ⟨y, H2, I2, ry, ov, g, q2⟩ => Calls.spliced_nil ?_)))
  exact d_get1 hu I2 g ry fun w' s3 I3 rw' => ⟨_, H2, I3, rw', q2⟩
theorem pe_dget2 (hu : X.A.units + 1 < cLine) (ho : PE X o td) (he : PE X e ty) (hf : PE X f tx) (m : M2 X o "get" apos e f cpos) : PE X (.Call (.Attribute o "get" apos) [e, f] [] cpos) (tDGet2 td ty tx) := by
  intro pins s σ H Q I h
  refine wpAny_Call_method m.base m.few m.line PySem.F.plainAttrs_dict PySem.F.slot_dict_get PySem.F.type_dict_get (thn (ho pins s σ H _ I h) fun u s1 ⟨x, H1, I1, rx, a, ex, d, q1⟩ => ?_)
  subst ex
  obtain rfl : u = Value.ref a := rx
  obtain ⟨t1, t2, _⟩ := isD_at I1 d
  refine ⟨t1, t2, ?_⟩
  rw [m.trees]
  refine Calls.callWith_builtin rfl (Calls.evalArgs_plain (Calls.spliced_cons (thn (he pins s1 σ H1 _ I1 q1) fun iv s2 ⟨y, H2, I2, ry, q2⟩ =>
    Calls.spliced_cons (thn (hf pins s2 σ H2 _ I2 q2) fun fv s3 ⟨z, H3, I3, rz, ov, g, q3⟩ => Calls.spliced_nil ?_))))
  exact d_get2 hu I3 g ry rz fun w' s4 I4 rw' => ⟨_, H3, I4, rw', q3⟩
theorem pe_dpop1 (ho : PE X o td) (he : PE X e ty) (m : M1 X o "pop" apos e cpos) : PE X (.Call (.Attribute o "pop" apos) [e] [] cpos) (tDPop1 td ty) := by
  intro pins s σ H Q I h
  refine wpAny_Call_method m.base m.few m.line PySem.F.plainAttrs_dict PySem.F.slot_dict_pop PySem.F.type_dict_pop (thn (ho pins s σ H _ I h) fun u s1 ⟨x, H1, I1, rx, a, ex, d, q1⟩ => ?_)
  subst ex
  obtain rfl : u = Value.ref a := rx
  obtain ⟨t1, t2, _⟩ := isD_at I1 d
  refine ⟨t1, t2, ?_⟩
  rw [m.trees]
  refine Calls.callWith_builtin rfl (Calls.evalArgs_plain (Calls.spliced_cons (thn (he pins s1 σ H1 _ I1 q1) fun iv s2 ⟨y, H2, I2, ry, kvs, k, v, ea, ey, l, q2⟩ => Calls.spliced_nil ?_)))
  subst ey
  exact d_pop I2 ea ry l (.inl rfl) fun w' s3 I3 rw' => ⟨v, _, I3, rw', q2⟩
theorem pe_dpop2 (ho : PE X o td) (he : PE X e ty) (hf : PE X f tx) (m : M2 X o "pop" apos e f cpos) : PE X (.Call (.Attribute o "pop" apos) [e, f] [] cpos) (tDPop2 td ty tx) := by
  intro pins s σ H Q I h
  refine wpAny_Call_method m.base m.few m.line PySem.F.plainAttrs_dict PySem.F.slot_dict_pop PySem.F.type_dict_pop (thn (ho pins s σ H _ I h) fun u s1 ⟨x, H1, I1, rx, a, ex, d, q1⟩ => ?_)
  subst ex
  obtain rfl : u = Value.ref a := rx
  obtain ⟨t1, t2, _⟩ := isD_at I1 d
  refine ⟨t1, t2, ?_⟩
  rw [m.trees]
  refine Calls.callWith_builtin rfl (Calls.evalArgs_plain (Calls.spliced_cons (thn (he pins s1 σ H1 _ I1 q1) fun iv s2 ⟨y, H2, I2, ry, q2⟩ =>
    Calls.spliced_cons (thn (hf pins s2 σ H2 _ I2 q2) fun fv s3 ⟨z, H3, I3, rz, kvs, k, ea, ey, q3, q4⟩ => Calls.spliced_nil ?_))))
  subst ey
  cases l : valV kvs k with
  | some v => exact d_pop I3 ea ry l (.inr ⟨fv, rfl⟩) fun w' s4 I4 rw' => ⟨v, _, I4, rw', q3 v l⟩
  | none => exact d_popD I3 ea ry l fun s4 I4 => ⟨z, H3, I4, rz, q4 l⟩
end

/-! ### dict(d): a copy -/
section
variable {X : Cx} {pins : List (Addr × Obj)} {σ : St} {H : Hp} {s : Shared} {a : Addr} {kvs : List (Key × V)} {A : Around} {E : Value → Shared → Prop}
theorem d_copyOf {Q : Value → Shared → Prop} (I : Inv X pins σ H s) (e : Rd H a (.dK kvs)) (h : ∀ p s', H p = none → Inv X pins σ (upd H p (.dK kvs)) s' → Q (.ref p) s') : wpAny (model X.prog X.w) A (call (.type "dict") [.ref a]) Q E s := by
  obtain ⟨z, hd, vs, rel, dd⟩ := dk_rd I.hok e
  refine kt_call_dict hd dd (by rw [← rel.length]; exact z) fun h' dd' hs => ?_
  refine h _ _ (I.hok.fresh (Nat.le_refl _)) (I.laid (a := s.heap.objs.size) (o := .dK kvs) (t' := s.toks) (fun b q hq => ?_) (Nat.le_refl _) (dk_new z (beq_eq_false_iff_ne.mpr (Ne.symm (Nat.ne_of_lt I.big))) rel dd'))
  exact (hs.2 b (Nat.ne_of_lt (Heap.lt_size hq))).trans (Heap.get?_push_of_some _ hq)
end


section
variable {X : Cx} {pins : List (Addr × Obj)} {σ : St} {H : Hp} {s : Shared} {a : Addr} {y : V} {u : Value} {A : Around} {E : Value → Shared → Prop}
/-- d[y], not there: a KeyError -/
theorem d_missing {Q : Value → Shared → Prop} (hu : A.units + 1 < cLine) (hh : A.handled = none) (I : Inv X pins σ H s) (g : DGet H a y none) (ry : RelV y u)
    (h : ∀ h' e t', Heap.NewExc s.heap h' e "KeyError" → E (.ref e) { s with heap := h', toks := t' }) : wpAny (model X.prog X.w) A (getItem (.ref a) u) Q E s := by
  rcases g with ⟨kvs, k, e, ey, l⟩ | ⟨kvs, k, b, e, ey, eb, l⟩
  · subst ey
    obtain ⟨z, hd, vs, rel, dd⟩ := dk_rd I.hok e
    have hn : valueAt vs k = none := RelO.none_of (by rw [l]; exact rel.val k)
    exact wpAny_getItem_missing_of (kV_is ry) hd hh dd.mapOf hn fun h' ex ne => h h' ex _ ne
  · subst ey
    cases (show u = Value.ref b from ry)
    obtain ⟨z, hd, xs, rel, dd⟩ := dt_rd I.hok e
    have hn : (atKey xs k).map (·.2) = none := RelO.none_of (by rw [l]; exact rel.val k)
    exact wpAny_getItem_missing_heap (tupleKind_room_in1 hu) (key_of I.hok eb) hd hh dd (Option.map_eq_none_iff.mp hn) fun h' ex ne => h h' ex _ ne
end
end L2

namespace Att
open PySem PySem.W PySem.Calls PyProof.Rows

/-! ### the script -/
theorem ints_of_wellAll {P : Params} {h : Heap} : ∀ (ns : List Int) (vs : List Value), WellAll P h vs (ns.map WData.int) → IntsAre vs ns := by
  intro ns
  induction ns with
  | nil =>
    intro vs w
    rw [List.map_nil] at w
    cases w
    exact .nil
  | cons n ns ih =>
    intro vs w
    rw [List.map_cons] at w
    cases w with
    | cons a b =>
      cases a
      exact .cons _ _ (ih _ b)

theorem script_of {l : OpenLaw} {n : Nat} (hn : l.most = some n) {P : Params} {h : Heap} {args : List WData} {vals : List Value}
    (hpre : l.row.toRowW.claim.pre args = true) (hwl : WellAll P h vals args) :
    ∃ a vs ns, vals = [Value.ref a] ∧ args = [WData.list (ns.map WData.int)] ∧ h.get? a = some { cls := .type "list", data := .seq vs.toArray } ∧ IntsAre vs ns ∧ ns.length ≤ n := by
  have hsh : WShape.hasAll [] args [.list .int] = true := (pre_splitW hpre).1
  have hc : l.pre.holds [] { args := args } = true := (pre_splitW hpre).2
  obtain ⟨d, r, rfl, h1, h2⟩ := hasAllW_cons hsh
  obtain rfl := hasAllW_nil h2
  obtain ⟨xs, rfl, h3⟩ := hasW_list h1
  obtain ⟨ns, rfl⟩ := items_int h3
  have hlen : ns.length ≤ n := by
    unfold OpenLaw.pre at hc
    have h4 : (WTm.not (.lt (.lit (.int (n : Int))) (.len (.arg 0)))).holds [] { args := [.list (ns.map .int)] } = true := by
      have h4 := (holds_andW hc).1
      rw [hn] at h4
      exact h4
    have h5 := condW_of h4 (w_not (w_lt w_lit (w_len_list (w_arg rfl))))
    rw [List.length_map] at h5
    refine Nat.le_of_not_lt fun q => ?_
    have q' : (n : Int) < ((ns.length : Nat) : Int) := by omega
    first
      | (rw [decide_eq_true q'] at h5; exact absurd h5 (by decide))
      | (simp at h5; omega)
  cases hwl with
  | cons w1 w2 =>
    cases w2
    cases w1 with
    | list ho hall => exact ⟨_, _, ns, rfl, rfl, ho, ints_of_wellAll ns _ hall, hlen⟩

theorem post_true (l : OpenLaw) (args : List WData) : l.row.toRowW.claim.post args (.bool true) args = true :=
  postW_of (r := l.row.toRowW) (X := (true == true))
    (show WShape.has [] (.bool true) .bool = true by first | rfl | decide | simp [WShape.has, WShape.arms, WShape.armsAll])
    (show (WTm.eq .res (.lit (.bool true))).value [] { args := args, res := some (.bool true), after := args } = some (.bool (true == true)) from w_eq_bool (w_res rfl) w_lit) rfl

/-! ### the attachment: holds_open's last premise (the goal 'hc' behind k_head) from a wpAny of the law's body -/
theorem attach {l : OpenLaw} {n : Nat} {q : Program} {loose : List Str} {XP : (Str → Option Value) → Heap → Prop} {YP : World → Heap → Prop} {d : DefRec} {x : Str}
    (hn : l.most = some n) (hdf : d.params.defaults = [])
    (hbind : ∀ pm cd doc v : Value, bindArgs (docDef d.name d.params d.body d.scope pm cd doc) ⟨[v], []⟩ = pure [(x, v)])
    (hx : d.scope.names.lookup x = some .local ∨ d.scope.names.lookup x = some .cell)
    (hk : d.scope.kind = .function) (hco : d.scope.isCoroutine = false) (hgen : d.scope.isGenerator = false)
    (body : ∀ (w : World) (s₀ s₁ s : Shared) (mg mb : Str → Option Value) (fa : Addr) (o : Obj) (pm cd doc : Value) (a : Addr) (vs : List Value) (ns : List Int),
      Ground q loose [] XP w s₀ mg mb s₁.heap → YP w s₁.heap →
      s₁.heap.get? fa = some o → o.data = .func (docDef d.name d.params d.body d.scope pm cd doc) → s₁.heap.CodeRec cd d.name → mg d.name = some (.ref fa) →
      s₁.heap.get? a = some { cls := .type "list", data := .seq vs.toArray } → IntsAre vs ns → ns.length ≤ n →
      s.gens = #[] → s.os = s₁.os →
      Fr s₁.heap s₁.heap.objs.size s.heap (bindL (envOfC d.name d.scope s₁.heap.objs.size fa cd).kindOf [(x, .ref a)] fun _ => none) →
      Cl s₁.heap.objs.size (cellsFrom (s₁.heap.objs.size + 1) d.scope.names []) s.heap (bindC (envOfC d.name d.scope s₁.heap.objs.size fa cd).kindOf [(x, .ref a)] fun _ => none) →
      wpAny (model l.prog w) (callerA.deeper (envOfC d.name d.scope s₁.heap.objs.size fa cd)) (execs d.body (envOfC d.name d.scope s₁.heap.objs.size fa cd))
        (fun f s' => f = .ret (.bool true) ∧ OldK s₁.heap s'.heap ∧ s'.os = s₁.os ∧ AllBare s'.gens) (fun _ _ => False) s) :
    WalkO q loose XP YP l.row.toRowW d [] (fun f vs => PySem.call f vs) := by
  intro w s₀ s₁ mg mb G Y fa o pm cd doc dV kV ho hd hcd hD hmg hg args vals as hpre hlay hrd hwl hlo
  obtain rfl : dV = .none := Dflts.none hD hdf
  obtain rfl : kV = .none := Dflts.noKw hD
  obtain ⟨a, vs, ns, rfl, rfl, hobj, hints, hlen⟩ := script_of hn hpre hwl
  refine enter_call ?_
  refine call_cells_ret (o := o) (by rw [depth_caller]; decide) ho (fd_plain hd) G.T.nolimit hcd (hbind pm cd doc (.ref a)) (fun y hy => ?_) (fun h₁ tk F X => ?_) hco hgen hk
  · obtain rfl : y = (x, Value.ref a) := List.mem_singleton.mp hy
    rcases hx with e | e
    · exact .inl e
    · exact .inr ⟨e, cellsFrom_some _ _ _ (.inl e)⟩
  · refine wpAny_mono (body w s₀ s₁ { s₁ with heap := h₁, toks := tk } mg mb fa o pm cd doc a vs ns G Y ho (fd_plain hd) hcd hmg hobj hints hlen hg rfl F X) (fun f s' hq => ?_) (fun _ _ hq => hq)
    obtain ⟨rfl, h2, h3, h4⟩ := hq
    exact ⟨.inl ⟨.bool true, .bool true, [], rfl, fun _ => rfl, .bool true, post_true l _, fun _ => ⟨List.Pairwise.nil, fun _ hm => (nomatch hm)⟩⟩, h2, h3, h4⟩

/-- the same from a codeAny of the CALL (for a layer whose function contracts speak of calls) -/
theorem attach_call {l : OpenLaw} {n : Nat} {q : Program} {loose : List Str} {XP : (Str → Option Value) → Heap → Prop} {YP : World → Heap → Prop} {d : DefRec}
    (hn : l.most = some n) (hdf : d.params.defaults = [])
    (call : ∀ (w : World) (s₀ s₁ : Shared) (mg mb : Str → Option Value) (fa : Addr) (o : Obj) (pm cd doc : Value) (a : Addr) (vs : List Value) (ns : List Int),
      Ground q loose [] XP w s₀ mg mb s₁.heap → YP w s₁.heap →
      s₁.heap.get? fa = some o → o.data = .func (docDef d.name d.params d.body d.scope pm cd doc) → s₁.heap.CodeRec cd d.name → mg d.name = some (.ref fa) →
      s₁.heap.get? a = some { cls := .type "list", data := .seq vs.toArray } → IntsAre vs ns → ns.length ≤ n → s₁.gens = #[] →
      codeAny (model l.prog w) callerA (.call (.ref fa) ⟨[.ref a], []⟩) (fun r s' => r = .ok (.ret (.bool true)) ∧ OldK s₁.heap s'.heap ∧ s'.os = s₁.os ∧ AllBare s'.gens) s₁) :
    WalkO q loose XP YP l.row.toRowW d [] (fun f vs => PySem.call f vs) := by
  intro w s₀ s₁ mg mb G Y fa o pm cd doc dV kV ho hd hcd hD hmg hg args vals as hpre hlay hrd hwl hlo
  obtain rfl : dV = .none := Dflts.none hD hdf
  obtain rfl : kV = .none := Dflts.noKw hD
  obtain ⟨a, vs, ns, rfl, rfl, hobj, hints, hlen⟩ := script_of hn hpre hwl
  refine enter_call (codeAny_mono (call w s₀ s₁ mg mb fa o pm cd doc a vs ns G Y ho (fd_plain hd) hcd hmg hobj hints hlen hg) fun r s' hq => ?_)
  obtain ⟨rfl, h2, h3, h4⟩ := hq
  exact ⟨.inl ⟨.bool true, .bool true, [], rfl, fun _ => rfl, .bool true, post_true l _, fun _ => ⟨List.Pairwise.nil, fun _ hm => (nomatch hm)⟩⟩, h2, h3, h4⟩

/-- the same where the top left finished generators (o_head chose holds_openN): nothing may have changed at all and no generator may be left -/
theorem attachN {l : OpenLaw} {n : Nat} {q : Program} {loose : List Str} {XP : (Str → Option Value) → Heap → Prop} {YP : World → Heap → Prop} {d : DefRec} {x : Str}
    (hn : l.most = some n) (hdf : d.params.defaults = [])
    (hbind : ∀ pm cd doc v : Value, bindArgs (docDef d.name d.params d.body d.scope pm cd doc) ⟨[v], []⟩ = pure [(x, v)])
    (hx : d.scope.names.lookup x = some .local ∨ d.scope.names.lookup x = some .cell)
    (hk : d.scope.kind = .function) (hco : d.scope.isCoroutine = false) (hgen : d.scope.isGenerator = false)
    (body : ∀ (w : World) (s₀ s₁ s : Shared) (mg mb : Str → Option Value) (fa : Addr) (o : Obj) (pm cd doc : Value) (a : Addr) (vs : List Value) (ns : List Int),
      Ground q loose [] XP w s₀ mg mb s₁.heap → YP w s₁.heap →
      s₁.heap.get? fa = some o → o.data = .func (docDef d.name d.params d.body d.scope pm cd doc) → s₁.heap.CodeRec cd d.name → mg d.name = some (.ref fa) →
      s₁.heap.get? a = some { cls := .type "list", data := .seq vs.toArray } → IntsAre vs ns → ns.length ≤ n →
      s.gens = #[] → s.os = s₁.os →
      Fr s₁.heap s₁.heap.objs.size s.heap (bindL (envOfC d.name d.scope s₁.heap.objs.size fa cd).kindOf [(x, .ref a)] fun _ => none) →
      Cl s₁.heap.objs.size (cellsFrom (s₁.heap.objs.size + 1) d.scope.names []) s.heap (bindC (envOfC d.name d.scope s₁.heap.objs.size fa cd).kindOf [(x, .ref a)] fun _ => none) →
      wpAny (model l.prog w) (callerA.deeper (envOfC d.name d.scope s₁.heap.objs.size fa cd)) (execs d.body (envOfC d.name d.scope s₁.heap.objs.size fa cd))
        (fun f s' => f = .ret (.bool true) ∧ (∀ b o, s₁.heap.get? b = some o → s'.heap.get? b = some o) ∧ s'.os = s₁.os ∧ s'.gens = #[]) (fun _ _ => False) s) :
    WalkN q loose XP YP l.row.toRowW d [] (fun f vs => PySem.call f vs) := by
  intro w s₀ s₁ mg mb G Y fa o pm cd doc dV kV ho hd hcd hD hmg hg args vals as hpre hlay hrd hwl hlo
  obtain rfl : dV = .none := Dflts.none hD hdf
  obtain rfl : kV = .none := Dflts.noKw hD
  obtain ⟨a, vs, ns, rfl, rfl, hobj, hints, hlen⟩ := script_of hn hpre hwl
  refine enter_callW ?_
  refine call_cells_ret (o := o) (by rw [depth_caller]; decide) ho (fd_plain hd) G.T.nolimit hcd (hbind pm cd doc (.ref a)) (fun y hy => ?_) (fun h₁ tk F X => ?_) hco hgen hk
  · obtain rfl : y = (x, Value.ref a) := List.mem_singleton.mp hy
    rcases hx with e | e
    · exact .inl e
    · exact .inr ⟨e, cellsFrom_some _ _ _ (.inl e)⟩
  · refine wpAny_mono (body w s₀ s₁ { s₁ with heap := h₁, toks := tk } mg mb fa o pm cd doc a vs ns G Y ho (fd_plain hd) hcd hmg hobj hints hlen hg rfl F X) (fun f s' hq => ?_) (fun _ _ hq => hq)
    obtain ⟨rfl, h2, h3, h4⟩ := hq
    exact ⟨.inl ⟨.bool true, .bool true, [], rfl, fun _ => rfl, .bool true, post_true l _, fun _ => ⟨List.Pairwise.nil, fun _ hm => (nomatch hm)⟩⟩, h2, h3, h4⟩

/-! ### rules over ANY heap (no ledger) from facts about the written part K: the library's own take a ledger (News) for what they write -/
section
variable {prog : Program} {w : World} {A : Around} {E : Value → Shared → Prop} {s : Shared} {K : Frag}

/-- a def of the module, or a method (qual 'C.m'), entered: the frame is the next address; cells behind it -/
theorem call_fn {R : Result → Shared → Prop} {name qual : Str} {params : Arguments} {body : List Stmt} {scope : Scope} {dV kV doc pm cdv ct oc : Value} {an od : Option Addr} {osl : Array (Option Value)} {f : Addr} {args : Args} {binds : List (Str × Value)}
    (X : K.In s.heap) (hlim : s.heap.NoLimit) (ho : K.lookup f = some ⟨oc, od, .func (fnOf name qual params body scope dV kV doc pm an cdv ct), osl⟩) (hcd : codeIn K cdv qual = true) (hroom : A.depth < recursionLimit)
    (hbind : BindsTo s (fnOf name qual params body scope dV kV doc pm an cdv ct) args binds)
    (hkind : (binds.all fun y => scope.names.lookup y.1 == some .local || scope.names.lookup y.1 == some .cell) = true)
    (h : ∀ s₁, InCallC s s.heap.objs.size (bindL (envOfC qual scope s.heap.objs.size f cdv).kindOf binds fun _ => none) (cellsFrom (s.heap.objs.size + 1) scope.names [])
        (bindC (envOfC qual scope s.heap.objs.size f cdv).kindOf binds fun _ => none) s₁ →
      wpAny (model prog w) (A.deeper (envOfC qual scope s.heap.objs.size f cdv)) (execs body (envOfC qual scope s.heap.objs.size f cdv))
        (fun fl s' => R (.ok (.ret (match fl with | .ret v => v | _ => .none))) s')
        (fun e s' => wpAny (model prog w) (A.deeper (envOfC qual scope s.heap.objs.size f cdv)) (leaving (envOfC qual scope s.heap.objs.size f cdv) e) (fun _ s'' => R (.error e) s'') (fun e' s'' => R (.error e') s'') s') s₁)
    (hco : scope.isCoroutine = false) (hgen : scope.isGenerator = false) (hk : scope.kind = .function) : codeAny (model prog w) A (.call (.ref f) args) R s := by
  refine codeAny_call_function hroom (X _ _ ho) rfl hco hgen rfl (codeRec_of X hcd) (hbind _ _ _ _ ?_)
  refine wpAny_newFunctionEnv_cells hk (kindsX hkind _) fun env he s₁ x => ?_
  subst he
  exact ⟨hlim.keeps x.toInCall.keep, codeAny_func (h s₁ x)⟩

/-- C(..): dict at size, instance at size + 1, then __init__ -/
theorem make_obj {R : Result → Shared → Prop} {C fI : Addr} {rest : List Value} {kw : List (Str × Value)}
    (X : K.In s.heap) (hm : makesIn K C = true) (hi : findIn K (.ref C) "__init__" = some (some (.ref fI))) (hf : isFn K (.ref fI) = true)
    (h : codeAny (model prog w) (A.under (.builtin "type.__call__" ⟨.ref C :: rest, kw⟩)) (.call (.ref fI) ⟨.ref (s.heap.objs.size + 1) :: rest, kw⟩) (InitBack (s.heap.objs.size + 1) R)
      { s with heap := (s.heap.push emptyDict).push (instObj C s.heap.objs.size) }) : codeAny (model prog w) A (.call (.ref C) ⟨rest, kw⟩) R s := by
  obtain ⟨hh, g, d, t, os⟩ := s
  exact make_core (makes_of X hm) (looks_findIn X hi) (fun self => bind_fn X self (beq_iff_eq.mp hf)) (.inl rfl) h

/-- x.name where the instance's dict holds the name and the class does not -/
theorem get_field {x C : Addr} {ox : Obj} {es : List DictEntry} {n : Nat} {name : Str} {expr : Bool} {v : Value} {Q : Value → Shared → Prop}
    (X : K.In s.heap) (I : PySem.W.InstAt s.heap x ox C (some (dictOf es n))) (hg : plainGet K C name = true) (hh : hasDictIn K C = true) (ha : findIn K (.ref C) name = some none)
    (hl : getL name es = some (some v)) (hv : handedIn v = true) (h : Q v { s with toks := s.toks + 1 }) : wpAny (model prog w) A (getAttr (.ref x) name expr) Q E s :=
  get_value X I (plainGet_of hg).1 (findObj_own hh ha rfl hl) hv h

/-- x.m(..): the method found in the class -/
theorem get_method {x C f : Addr} {ox : Obj} {es : List DictEntry} {n : Nat} {name : Str} {pl : Sem Bool} {Q : Value × List Value → Shared → Prop}
    (X : K.In s.heap) (I : PySem.W.InstAt s.heap x ox C (some (dictOf es n))) (hg : plainGet K C name = true) (hf : findIn K (.ref C) name = some (some (.ref f))) (ht : isFn K (.ref f) = true)
    (hl : getL name es = some none) (h : Q (.ref f, [.ref x]) s) : wpAny (model prog w) A (getMethod (.ref x) name pl) Q E s :=
  method_fn X I (plainGet_of hg).1 (plainGet_of hg).2 hf (beq_iff_eq.mp ht) (by show (lookIn name (dictOf es n)).map _ = _; rw [lookIn_dict, hl]; rfl) h

/-! the whole heap as the ledger: makes every rule that writes through a ledger a rule over any heap -/
def noObjs (h : Heap) : Heap := { h with objs := #[] }
theorem noObjs_get (h : Heap) (b : Addr) : (noObjs h).get? b = none := by
  cases e : (noObjs h).get? b with
  | none => rfl
  | some o => exact absurd (Heap.lt_size e) (Nat.not_lt_zero _)
def ledger (h : Heap) (L d : Addr) : List (Addr × Obj) := (List.range h.objs.size).filterMap fun a => if a = L ∨ a = d then none else (h.get? a).map fun o => (a, o)
theorem mem_ledger {h : Heap} {L d a : Addr} {o : Obj} : (a, o) ∈ ledger h L d ↔ a ≠ L ∧ a ≠ d ∧ h.get? a = some o := by
  unfold ledger
  rw [List.mem_filterMap]
  constructor
  · rintro ⟨b, _, e⟩
    split at e
    · cases e
    · rename_i hb
      obtain ⟨o', ho, e'⟩ := Option.map_eq_some_iff.mp e
      cases e'
      exact ⟨fun q => hb (.inl q), fun q => hb (.inr q), ho⟩
  · rintro ⟨n1, n2, ho⟩
    refine ⟨a, List.mem_range.mpr (Heap.lt_size ho), ?_⟩
    rw [if_neg (show ¬ (a = L ∨ a = d) from fun q => q.elim n1 n2), ho] <;> rfl
theorem news_ledger {h : Heap} {L d : Addr} {od : Obj} (hne : d ≠ L) (ho : h.get? d = some od) : News (noObjs h) L h ([] ++ (d, od) :: ledger h L d) := by
  rintro ⟨a, o⟩ hp
  rcases List.mem_cons.mp hp with e | hp
  · cases e
    exact ⟨ho, hne, noObjs_get _ _⟩
  · obtain ⟨n1, n2, e⟩ := mem_ledger.mp hp
    exact ⟨e, n1, noObjs_get _ _⟩
theorem fr_all {h : Heap} {L : Addr} {m : Str → Option Value} (n : h.Ns L m) : Fr (noObjs h) L h m :=
  ⟨n, fun b o e => (by rw [noObjs_get] at e; cases e), Nat.zero_le _⟩
/-- Upd of the head entry (for append_K, setItem_K ..) -/
theorem upd_ledger {h : Heap} {L d : Addr} {o o' : Obj} : Upd d o o' ((d, o) :: ledger h L d) ((d, o') :: ledger h L d) :=
  .head fun ⟨_, _⟩ hp => (mem_ledger.mp hp).2.1

/-- x.name = v over any heap: L is any namespace of the heap (the frame's, say): its map stays, its object is not told; all else but the dict stays -/
theorem set_field {x C dx L : Addr} {ox : Obj} {m : Str → Option Value} {es es' : List DictEntry} {n n' : Nat} {name : Str} {v : Value} {Q : Unit → Shared → Prop}
    (X : K.In s.heap) (I : PySem.W.InstAt s.heap x ox C (some (dictOf es n))) (hd : ox.dict = some dx) (hL : s.heap.Ns L m) (hne : dx ≠ L)
    (hs : findIn K (.ref C) "__setattr__" = some (some (.builtin "object.__setattr__"))) (hp : plainOver K C = true) (ht : takerIn K C name = some none) (hh : hasDictIn K C = true) (hl : (getL name es).isSome = true)
    (e : (putL name (PyData.keyHash w.params name) (.str name (s.toks + 1)) v es, putN name es n) = (es', n')) (hz : es'.length ≤ 1000)
    (h : ∀ h' : Heap, h'.Ns L m → h'.get? dx = some (dictOf es' n') → (∀ b o, b ≠ dx → b ≠ L → s.heap.get? b = some o → h'.get? b = some o) → Q () { s with heap := h', toks := s.toks + 2 }) :
    wpAny (model prog w) A (setAttr (.ref x) name v) Q E s := by
  obtain ⟨e1, e2⟩ := Prod.mk.inj e
  have hdx : s.heap.get? dx = some (dictOf es n) := by
    have := I.dict
    rw [hd] at this
    exact this
  refine set_plain X I hs (osa_dict (s := { s with toks := s.toks + 1 }) (h₀ := noObjs s.heap) (L := L) (m := m) (od := dictOf es n) (od' := dictOf es' n') (es := es') (n := n') (pre := []) (post := ledger s.heap L dx)
    (fr_all hL) (news_ledger hne hdx) X I hd hp ht hh hl (fun _ q => nomatch q) (fun ⟨_, _⟩ q => (mem_ledger.mp q).2.1) (by rw [putName_dict, e1, e2]) rfl hz fun h' F' N' => ?_)
  exact h h' F'.ns (N'.get (List.Mem.head _)) fun b o n1 n2 ho => N'.get (List.Mem.tail _ (mem_ledger.mpr ⟨n2, n1, ho⟩))
end
end Att

namespace L2
open PySem PySem.Spec PyProof.Rows

theorem vals_ints : ∀ {vs : List Value} {ns : List Int}, IntsAre vs ns → Vals (ns.map V.int) vs
  | _, _, .nil => .nil
  | _, _, .cons n t h => .cons ⟨t, rfl⟩ (vals_ints h)

/-- nothing is tracked but the script, known to the object (or it is an object of the module) -/
def Only (H : Hp) : Prop := ∀ b, H b = none ∨ ∃ o xs, H b = some (.frz o (.lst xs))

/-- THE HEAD: the law's promise, at the heap behind the top. F, the promise of the law's def, may use that base is part of the heap (so K.In base, base.Ns mainGlobals mg stand in Mod) -/
theorem law_call {P : Program} {w : World} {K : PySem.W.Frag} {mg mb : Str → Option Value} {CX : CXT} {k : Nat} {fa a : Addr} {fd : FuncData} {x : Str} {sp : Sp} {s₁ : Shared} {vs : List Value} {ns : List Int}
    (KX : K.In s₁.heap) (hns : s₁.heap.Ns mainGlobals mg) (hb : s₁.heap.Ns builtinsNs mb) (hbb : ∀ x : Str, x ≠ "__name__" → mb x = bootBuiltins x) (hlim : s₁.heap.NoLimit) (hg : s₁.gens = #[])
    (ha : s₁.heap.get? a = some { cls := .type "list", data := .seq vs.toArray }) (hi : IntsAre vs ns) (hl : ns.length ≤ sizeLine) (hr : Room k callerA)
    (F : ∀ base : Heap, K.In base → base.Ns mainGlobals mg → FnOk P w K mg base CX k fa fd [x] sp) (hbind : ∀ (s : Shared) (u : Value), BindsTo s fd ⟨[u], []⟩ [(x, u)])
    (hsp : ∀ H : Hp, Only H → SqL K H a (ns.map V.int) → sp [.ref a] H (fun v _ => v = .bl true) fun _ _ _ => False)
    (hCX : ∀ H e s', CX [] H s₁ (fun _ _ _ => False) e s' → False) :
    codeAny (model P w) callerA (.call (.ref fa) ⟨[.ref a], []⟩) (fun r s' => r = .ok (.ret (.bool true)) ∧ OldK s₁.heap s'.heap ∧ s'.os = s₁.os ∧ AllBare s'.gens) s₁ := by
  have rv := vals_ints hi
  have lenV := hi.length
  -- from an abstract heap in which nothing but the script may be tracked
  have core : ∀ H : Hp, Only H → SqL K H a (ns.map V.int) → HOk P w H s₁.heap → (∀ b, H b ≠ none → b = a) → (H a ≠ none → K.lookup a = none) →
      codeAny (model P w) callerA (.call (.ref fa) ⟨[.ref a], []⟩) (fun r s' => r = .ok (.ret (.bool true)) ∧ OldK s₁.heap s'.heap ∧ s'.os = s₁.os ∧ AllBare s'.gens) s₁ := by
    intro H hO hS hok hA hK
    have base_of : ∀ {b : Addr} {o : Obj}, s₁.heap.get? b = some o → H b = none → (hidT s₁.heap H).get? b = some o := fun e n => hidT_get e n
    have noA : ∀ {b : Addr} {o : Obj} {es : Array DictEntry} {ep : Nat}, s₁.heap.get? b = some o → o.data = .dict es ep → H b = none := fun {b o es ep} e d => by
      cases q : H b with
      | none => rfl
      | some u =>
        have e' : b = a := hA b (by rw [q]; simp)
        subst e'
        rw [ha] at e; cases e
        have d' : Data.seq vs.toArray _ = Data.dict es ep := d
        cases d'
    have nsK : ∀ {b : Addr} {m : Str → Option Value}, s₁.heap.Ns b m → (hidT s₁.heap H).Ns b m := fun {b m} ⟨o, es, ep, e, d, r⟩ => ⟨o, es, ep, base_of e (noA e d), d, r⟩
    have hKb : K.In (hidT s₁.heap H) := fun b o e => base_of (KX b o e) (by
      cases q : H b with
      | none => rfl
      | some u =>
        have e' : b = a := hA b (by rw [q]; simp)
        subst e'
        rw [hK (by rw [q]; simp)] at e; cases e)
    have hM : Mod K mg (hidT s₁.heap H) := ⟨hKb, nsK hns, ⟨mb, nsK hb, hbb⟩, let ⟨mc, h1, h2⟩ := hlim; ⟨mc, nsK h1, h2⟩⟩
    have e0 : Env0 P w K mg (hidT s₁.heap H) callerA [] s₁ H := ⟨rfl, hM, fun b o e => of_hidT e, Nat.le_of_eq (hidT_size _ _), trivial, fun b hb => absurd (show b ∈ ([] : List Addr) from hb) (by simp), hok, .of_eq hg⟩
    refine codeAny_mono ((F _ hKb (nsK hns)).run callerA [] s₁ H ⟨[.ref a], []⟩ [.ref a] [.ref a] _ _ hr e0 (hbind s₁ (.ref a)) (.cons rfl .nil) (hsp H hO hS)) fun r s' h => ?_
    cases r with
    | error e => exact (hCX H e s' h).elim
    | ok fl =>
      cases fl with
      | next => exact False.elim h
      | brk => exact False.elim h
      | cont => exact False.elim h
      | ret u =>
        obtain ⟨v, H', os, bare, un, hok', r', q⟩ := h
        have q' : v = .bl true := q
        subst q'
        obtain rfl : u = Value.bool true := r'
        refine ⟨rfl, OldK.of_keep fun b o e => ?_, os, bare⟩
        cases q : H b with
        | none => exact un.keep b o e q (by intro z; exact absurd (show b ∈ ([] : List Addr) from z) (by simp)) (by simp)
        | some u =>
          rcases hO b with z | ⟨ob, xs, z⟩
          · rw [q] at z; cases z
          · have z2 := un.frzs b ob _ z
            obtain ⟨e1, _⟩ := hok b _ z
            obtain ⟨e2, _⟩ := hok' b _ z2
            rw [e] at e1; cases e1
            exact e2
  cases hk : K.lookup a with
  | some o =>
    -- the script is one of the module's own objects
    have e := KX a o hk
    rw [ha] at e
    cases e
    refine core (fun _ => none) (fun _ => .inl rfl) (.inr ⟨_, vs.toArray, _, hk, rfl, rfl, rfl, by rw [List.size_toArray, lenV]; exact hl, by simpa using rv⟩) (fun b u z => by have z' : (none : Option HO) = some u := z; cases z') (fun b z => absurd rfl z) fun z => absurd rfl z
  | none =>
    refine core (fun b => if b = a then some (.frz { cls := .type "list", data := .seq vs.toArray } (.lst (ns.map V.int))) else none) (fun b => ?_) (.inl (.inr ⟨{ cls := .type "list", data := .seq vs.toArray }, if_pos rfl⟩)) (fun b u z => ?_) (fun b z => ?_) fun _ => hk
    · by_cases hb : b = a
      · exact .inr ⟨_, _, if_pos hb⟩
      · exact .inl (if_neg hb)
    · by_cases hb : b = a
      · have z' := (if_pos hb).symm.trans z
        cases z'
        subst hb
        exact ⟨ha, by rw [List.length_map]; exact hl, vs, _, rv, ha⟩
      · have z' := (if_neg hb).symm.trans z
        cases z'
    · by_cases hb : b = a
      · exact hb
      · exact absurd (if_neg hb) z
end L2

namespace L2
open PySem PySem.Spec PyProof.Rows

abbrev KOf {K : PySem.W.Frag} {h : Heap} (_ : K.In h) : PySem.W.Frag := K

/-- the goal that k_head leaves (case hc), from the law's promise. F gives the function object fd (K's own) once, then the promise over every base -/
theorem walk_of {l : PySem.W.OpenLaw} {n k : Nat} {q : Program} {loose : List Str} {XP : (Str → Option Value) → Heap → Prop} {YP : World → Heap → Prop} {d : DefRec} {K : Params → PySem.W.Frag} {CX : World → CXT} {sp : World → Sp} {x : Str}
    (hn : l.most = some n) (hn2 : n ≤ sizeLine) (hdf : d.params.defaults = []) (hr : Room k callerA)
    (hY : ∀ (w : World) (h : Heap), YP w h → (K w.params).In h)
    (F : ∀ (w : World) (mg : Str → Option Value) (fa : Addr) (h : Heap), (K w.params).In h → h.Ns mainGlobals mg → mg d.name = some (.ref fa) →
      ∃ fd : FuncData, (∀ (s : Shared) (u : Value), BindsTo s fd ⟨[u], []⟩ [(x, u)]) ∧
        ∀ base : Heap, (K w.params).In base → base.Ns mainGlobals mg → FnOk l.prog w (K w.params) mg base (CX w) k fa fd [x] (sp w))
    (hsp : ∀ (w : World) (H : Hp) (a : Addr) (ns : List Int), ns.length ≤ n → Only H → SqL (K w.params) H a (ns.map V.int) → sp w [.ref a] H (fun v _ => v = .bl true) fun _ _ _ => False)
    (hCX : ∀ (w : World) (H : Hp) (s : Shared) (e : Value) (s' : Shared), CX w [] H s (fun _ _ _ => False) e s' → False) :
    PySem.W.WalkO q loose XP YP l.row.toRowW d [] (fun f vs => PySem.call f vs) := by
  refine Att.attach_call hn hdf fun w s₀ s₁ mg mb fa o pm cd doc a vs ns G Y ho hd hcd hmg hobj hints hlen hg => ?_
  have KX := hY w _ Y
  obtain ⟨fd, hb, hF⟩ := F w mg fa _ KX G.T.g hmg
  exact law_call KX G.T.g G.T.b G.T.builtins G.T.nolimit hg hobj hints (Nat.le_trans hlen hn2) hr hF hb (fun H hO hS => hsp w H a ns hlen hO hS) fun H e s' => hCX w H s₁ e s'
/-- the same where the promise hangs on the written part alone: (sp := My.sp_law), no hole under a binder -/
theorem walk_ofK {l : PySem.W.OpenLaw} {n k : Nat} {q : Program} {loose : List Str} {XP : (Str → Option Value) → Heap → Prop} {YP : World → Heap → Prop} {d : DefRec} {K : Params → PySem.W.Frag} {CX : CXT} {sp : PySem.W.Frag → Sp} {x : Str}
    (hn : l.most = some n) (hn2 : n ≤ sizeLine) (hdf : d.params.defaults = []) (hr : Room k callerA)
    (hY : ∀ (w : World) (h : Heap), YP w h → (K w.params).In h)
    (F : ∀ (w : World) (mg : Str → Option Value) (fa : Addr) (h : Heap), (K w.params).In h → h.Ns mainGlobals mg → mg d.name = some (.ref fa) →
      ∃ fd : FuncData, (∀ (s : Shared) (u : Value), BindsTo s fd ⟨[u], []⟩ [(x, u)]) ∧
        ∀ base : Heap, (K w.params).In base → base.Ns mainGlobals mg → FnOk l.prog w (K w.params) mg base CX k fa fd [x] (sp (K w.params)))
    (hsp : ∀ (K : PySem.W.Frag) (H : Hp) (a : Addr) (ns : List Int), ns.length ≤ n → Only H → SqL K H a (ns.map V.int) → sp K [.ref a] H (fun v _ => v = .bl true) fun _ _ _ => False)
    (hCX : ∀ (H : Hp) (s : Shared) (e : Value) (s' : Shared), CX [] H s (fun _ _ _ => False) e s' → False) :
    PySem.W.WalkO q loose XP YP l.row.toRowW d [] (fun f vs => PySem.call f vs) :=
  walk_of (K := K) (CX := fun _ => CX) (sp := fun w => sp (K w.params)) hn hn2 hdf hr hY F (fun w H a ns h1 h2 h3 => hsp (K w.params) H a ns h1 h2 h3) fun _ H s e s' => hCX H s e s'
end L2

/- THE LAST THEOREM (shape; LID, My.* are yours):
   My.Adr: a structure of the addresses that your layer names (classes, functions); My.Txt K t: a structure (Prop) of the equations over K;
   My.txt_mk : {K} {implicit addresses ..} (e1 : nsIn K mainGlobals "law" = some (some (.ref f))) (e2 : K.lookup f = some ⟨oc, od, .func (fnOf "law" "law" params body scope dV kV doc pm an cdv ct), sl⟩) (e3 : codeIn K cdv "law" = true) .. : ∃ t, My.Txt K t

set_option maxRecDepth 100000 in
set_option maxHeartbeats 0 in
theorem PySem.Challenge.cw_LID_holds : PySem.Challenge.rw_LID.Holds := by
  w_on; o_law; k_head; (case hw => w_witness2)
  k_fill
  refine L2.walk_of (l := PySem.Challenge.rw_LID) (n := 63) (k := 40) (x := "script") (CX := fun w => ..) (sp := fun _ => My.sp_law) rfl (by decide) rfl ⟨rfl, by decide, by decide⟩ (fun w h Y => PySem.W.kIn_of Y) ?F ?S ?C
  case F =>
    intro w mg fa h KX G hmg
    have T : ∃ t, My.Txt (L2.KOf KX) t := by
      dsimp only [L2.KOf]                          -- K must stand as «<heap const> w.params» for k_is
      refine' My.txt_mk ?e1 ?e2 ?e3 ..
      (case e1 => PySem.W.k_is)                    -- in the order: a name -> its address -> its object -> its parts
      (case e2 => PySem.W.k_is)
      ..
    obtain ⟨t, T⟩ := T
    have e0 := hmg.symm.trans (PySem.W.mg_of KX G T.law)
    cases e0                                       -- fa is the law's own address
    exact ⟨_, fun s u => .of_eq rfl, fun base kb nb => My.law_fn T kb nb⟩     -- if «.of_eq rfl» comes too early: refine' ⟨_, ?b, fun base kb nb => My.law_fn T kb nb⟩; exact fun s u => .of_eq rfl
  case S => exact fun w H a ns hl hO hS => ..
  case C => exact ..
(the tactic k_is has no namespace: write k_is) -/

/-! SHORT WORDS over the layer: a def of the text, its body, what a loop and a test want. -/
namespace L2
open PySem PySem.Spec PyProof.Rows

/-! ### the text by places -/
/-- the j-th statement of a class's body -/
def inClass (s : Stmt) (j : Nat) : Stmt := match s with
  | .ClassDef _ _ _ body _ _ _ _ _ _ _ => body.getD j (.Pass ⟨0, 0, 0, 0⟩)
  | _ => .Pass ⟨0, 0, 0, 0⟩
def defArgs (s : Stmt) : Arguments := match s with
  | .FunctionDef _ a _ _ _ _ _ _ _ _ => a
  | _ => { posonlyargs := [], args := [], vararg := none, kwonlyargs := [], kw_defaults := [], kwarg := none, defaults := [] }
def defBody (s : Stmt) : List Stmt := match s with
  | .FunctionDef _ _ b _ _ _ _ _ _ _ => b
  | _ => []
def defScope (s : Stmt) : Scope := match s with
  | .FunctionDef _ _ _ _ _ _ sc _ _ _ => sc
  | _ => { kind := .function, names := [], isGenerator := false, isCoroutine := false }

/-! ### no exception leaves a def -/
abbrev CX0 : CXT := fun _ _ _ _ _ _ => False
abbrev E0 : XK := fun _ _ _ => False
theorem pass0 {X : Cx} : Passes CX0 X E0 := fun _ _ _ _ _ _ _ h => h.elim

/-! ### a def (or method) of the text as it stands behind the top -/
structure Fun (K : PySem.W.Frag) (x qual : Str) (st : Stmt) (f : Addr) (fd : FuncData) : Prop where
  ex : ∃ (oc : Value) (od : Option Addr) (kV doc pm : Value) (an : Option Addr) (cdv ct : Value) (osl : Array (Option Value)),
    fd = PySem.W.fnOf x qual (defArgs st) (defBody st) (defScope st) .none kV doc pm an cdv ct ∧ K.lookup f = some ⟨oc, od, .func fd, osl⟩ ∧ PySem.W.codeIn K cdv qual = true
  kp : PySem.W.keepIn K (.ref f) = true
section
variable {P : Program} {w : World} {K : PySem.W.Frag} {mg : Str → Option Value} {base : Heap}
/-- THE RULE for a def: its body as a term of rules, and the reading of that term -/
theorem Fun.ok {x qual : Str} {st : Stmt} {f : Addr} {fd : FuncData} {N ps : List Str} {k : Nat} {sp : Sp} (F : Fun K x qual st f fd) (S : FnScope N ps (defScope st)) (len : ∀ vs H Q E, sp vs H Q E → vs.length = ps.length)
    (hbody : ∀ (cdv : Value) (A : Around) (outer : List Env) (s : Shared) (H : Hp) (vs : List V) (Q : VK) (E : XK), Room k (A.deeper (envOfC qual (defScope st) s.heap.objs.size f cdv)) → sp vs H Q E →
      ∃ t, PSs (cxOf CX0 P w K mg base N qual (defScope st) f cdv A outer s H E).nox (defBody st) t ∧ t { nx := fun _ H' => Q .non H', rt := Q } (start N vs) H) : FnOk P w K mg base CX0 (k + 1) f fd ps sp := by
  obtain ⟨oc, od, kV, doc, pm, an, cdv, ct, osl, rfl, lk, hcd⟩ := F.ex
  refine fn_of lk hcd S len fun A outer s H vs Q E hr hsp => ?_
  obtain ⟨t, h, q⟩ := hbody cdv A outer s H vs Q E hr hsp
  exact ⟨t, h.nox, q⟩
/-- how its arguments bind (no defaults): h is «fun _ _ _ _ _ _ us hl => match us, hl with | [_, _], _ => rfl», one _ a parameter -/
theorem Fun.binds {x qual : Str} {st : Stmt} {f : Addr} {fd : FuncData} {ps : List Str} (F : Fun K x qual st f fd)
    (h : ∀ (kV doc pm : Value) (an : Option Addr) (cdv ct : Value) (us : List Value), us.length = ps.length → bindArgs (PySem.W.fnOf x qual (defArgs st) (defBody st) (defScope st) .none kV doc pm an cdv ct) ⟨us, []⟩ = pure (ps.zip us)) : Binds K fd ps [] := by
  obtain ⟨oc, od, kV, doc, pm, an, cdv, ct, osl, rfl, lk, hcd⟩ := F.ex
  exact .all (h kV doc pm an cdv ct)
theorem fun_mk {x qual : Str} {st : Stmt} {f : Addr} {oc : Value} {od an : Option Addr} {osl : Array (Option Value)} {kV doc pm cdv ct : Value} (l : K.lookup f = some ⟨oc, od, .func (PySem.W.fnOf x qual (defArgs st) (defBody st) (defScope st) .none kV doc pm an cdv ct), osl⟩)
    (c : PySem.W.codeIn K cdv qual = true) (k : PySem.W.keepIn K (.ref f) = true) : Fun K x qual st f (PySem.W.fnOf x qual (defArgs st) (defBody st) (defScope st) .none kV doc pm an cdv ct) := ⟨⟨oc, od, kV, doc, pm, an, cdv, ct, osl, rfl, l, c⟩, k⟩
end
theorem hu_of {A : Around} {k : Nat} (hr : Room k A) : A.units + 1 < cLine := Nat.lt_of_le_of_lt (Nat.add_le_add_left (by decide : 1 ≤ 64) _) hr.units
theorem small1000 {n : Nat} (h : n ≤ 1000) : n < sizeLine := Nat.lt_of_le_of_lt h (by decide)

/-! ### expressions in short: the name that stands in the i-th slot -/
section
variable {X : Cx}
theorem pv (i : Nat) {x : Str} {pos : Pos} (hN : X.N[i]? = some x := by rfl) (hv : Vis X.env.scope x := by first | exact Or.inl rfl | exact Or.inr (Or.inl rfl) | exact Or.inr (Or.inr rfl)) (hd : (x == ("__debug__" : Str)) = false := by decide)
    (hcd : (x == ("__classdict__" : Str)) = false := by decide) : PE X (.Name x pos) (tVar i) := pe_var hN hv hd hcd
/-- len of a dict -/
theorem call_lenD : CallR X (.builtin "len") (fun xs H Q => ∃ a kvs, xs = [V.ref a] ∧ H a = some (.dK kvs) ∧ Q (.int kvs.length) H) := by
  intro pins s σ H xs us Q I r h
  obtain ⟨a, kvs, rfl, ha, q⟩ := h
  obtain ⟨u, rfl, ru⟩ := vals1 r
  cases ru
  exact d_len I (.inl ha) fun t s' I' => ⟨.int kvs.length, H, I', ⟨t, rfl⟩, q⟩
end

/-! ### tests -/
theorem iteF {A B : Prop} (h : B) : if false = true then A else B := by
  rw [if_neg Bool.false_ne_true]
  exact h
theorem iteT {A B : Prop} (h : A) : if true = true then A else B := by
  rw [if_pos rfl]
  exact h
theorem ite2 {c A B : Prop} [Decidable c] (h1 : c → A) (h2 : ¬ c → B) : if c then A else B := by
  by_cases h : c
  · rw [if_pos h]
    exact h1 h
  · rw [if_neg h]
    exact h2 h
theorem iteNS {c A B : Prop} [Decidable c] (hc : c) (h : B) : if (!decide c) = true then A else B := by
  rw [decide_eq_true hc]
  exact iteF h

/-! ### heaps -/
/-- all that was tracked is as it was -/
def Same (H H' : Hp) : Prop := ∀ b o, H b = some o → H' b = some o
theorem Same.refl (H : Hp) : Same H H := fun _ _ h => h
theorem Same.trans {H H1 H2 : Hp} (a : Same H H1) (b : Same H1 H2) : Same H H2 := fun c o h => b c o (a c o h)
theorem Same.free {H H' : Hp} (e : Same H H') {l : Addr} (h : H' l = Option.none) : H l = Option.none := by
  cases q : H l with
  | none => rfl
  | some o =>
    rw [e l o q] at h
    cases h
theorem Same.seq {K : PySem.W.Frag} {H H' : Hp} {a : Addr} {xs : List V} (e : Same H H') (h : SqL K H a xs) : SqL K H' a xs := by
  rcases h with (h | ⟨o, h⟩) | h
  · exact .inl (.inl (e _ _ h))
  · exact .inl (.inr ⟨o, e _ _ h⟩)
  · exact .inr h

/-! ### a dict's pairs: keys that differ -/
section
variable {κ : Type} [DecidableEq κ]
theorem valV_not {kvs : List (κ × V)} {k : κ} (h : valV kvs k = none) : ¬ k ∈ kvs.map (·.1) := by
  intro m
  obtain ⟨p, hp, e⟩ := List.mem_map.mp m
  have q : (kvs.any fun kv => decide (kv.1 = k)) = true := List.any_eq_true.mpr ⟨p, hp, decide_eq_true e⟩
  rw [valV_any, h] at q
  exact absurd q (by simp)
theorem valV_in {kvs : List (κ × V)} {k : κ} {v : V} (h : valV kvs k = some v) : k ∈ kvs.map (·.1) := by
  have q : (kvs.any fun kv => decide (kv.1 = k)) = true := by
    rw [valV_any, h]
    all_goals rfl
  obtain ⟨p, hp, e⟩ := List.any_eq_true.mp q
  exact List.mem_map.mpr ⟨p, hp, of_decide_eq_true e⟩
theorem nd_snoc : ∀ {l : List κ} {k : κ}, l.Nodup → ¬ k ∈ l → (l ++ [k]).Nodup
  | [], k, _, _ => by simp
  | a :: r, k, h, hk => by
    obtain ⟨h1, h2⟩ := List.nodup_cons.mp h
    show (a :: (r ++ [k])).Nodup
    refine List.nodup_cons.mpr ⟨fun m => ?_, nd_snoc h2 fun m => hk (List.mem_cons.mpr (Or.inr m))⟩
    rcases List.mem_append.mp m with q | q
    · exact h1 q
    · exact hk (List.mem_cons.mpr (Or.inl (List.mem_singleton.mp q).symm))
theorem nd_putK {kvs : List (κ × V)} {k : κ} (v : V) (hn : (kvs.map (·.1)).Nodup) (h : valV kvs k = none) : ((putK kvs k v).map (·.1)).Nodup := by
  rw [putK_new v h, List.map_append]
  exact nd_snoc hn (valV_not h)
theorem dropK_pos {p : κ × V} {r : List (κ × V)} {k : κ} (e : p.1 = k) : dropK (p :: r) k = dropK r k := by
  unfold dropK
  rw [List.filter_cons, if_neg (by simp [e])]
theorem dropK_neg {p : κ × V} {r : List (κ × V)} {k : κ} (e : ¬ p.1 = k) : dropK (p :: r) k = p :: dropK r k := by
  unfold dropK
  rw [List.filter_cons, if_pos (by simp [e])]
theorem dropK_no : ∀ {kvs : List (κ × V)} {k : κ}, ¬ k ∈ kvs.map (·.1) → dropK kvs k = kvs
  | [], _, _ => rfl
  | p :: r, k, h => by
    have h' : ¬ k ∈ r.map (·.1) := fun m => by
      obtain ⟨q, hq, e⟩ := List.mem_map.mp m
      exact h (List.mem_map.mpr ⟨q, List.mem_cons.mpr (Or.inr hq), e⟩)
    rw [dropK_neg fun e => h (List.mem_map.mpr ⟨p, List.mem_cons.mpr (Or.inl rfl), e⟩), dropK_no h']
theorem dropK_mem {kvs : List (κ × V)} {k : κ} {p : κ × V} (h : p ∈ dropK kvs k) : p ∈ kvs := (List.mem_filter.mp h).1
theorem nd_dropK : ∀ {kvs : List (κ × V)} {k : κ}, (kvs.map (·.1)).Nodup → ((dropK kvs k).map (·.1)).Nodup
  | [], _, _ => List.nodup_nil
  | p :: r, k, h => by
    have h : (p.1 :: r.map (·.1)).Nodup := h
    obtain ⟨h1, h2⟩ := List.nodup_cons.mp h
    by_cases e : p.1 = k
    · rw [dropK_pos e]
      exact nd_dropK h2
    · rw [dropK_neg e]
      show (p.1 :: (dropK r k).map (·.1)).Nodup
      refine List.nodup_cons.mpr ⟨fun m => h1 ?_, nd_dropK h2⟩
      obtain ⟨q, hq, eq⟩ := List.mem_map.mp m
      exact List.mem_map.mpr ⟨q, dropK_mem hq, eq⟩
theorem dropK_len : ∀ {kvs : List (κ × V)} {k : κ}, (kvs.map (·.1)).Nodup → k ∈ kvs.map (·.1) → (dropK kvs k).length + 1 = kvs.length
  | [], _, _, m => by simp at m
  | p :: r, k, h, m => by
    have h : (p.1 :: r.map (·.1)).Nodup := h
    have m : k = p.1 ∨ k ∈ r.map (·.1) := List.mem_cons.mp m
    obtain ⟨h1, h2⟩ := List.nodup_cons.mp h
    by_cases e : p.1 = k
    · subst e
      rw [dropK_pos rfl, dropK_no h1]
      all_goals rfl
    · have m' : k ∈ r.map (·.1) := m.resolve_left fun z => e z.symm
      have q := dropK_len h2 m'
      rw [dropK_neg e, List.length_cons, List.length_cons]
      omega
end
end L2
namespace L2
open PySem PySem.Spec PyProof.Rows
section
variable {X : Cx}
/-- text[lo:hi] -/
def rSlS : V → Option Int → Option Int → Hp → VK → Prop := fun x lo hi H Q => ∃ z, x = .str z ∧ z.length ≤ sizeLine ∧ Q (.str (Txt.slice z lo hi)) H
theorem part_val {v : Value} {o : Option Int} (p : IsPart v o) : ∃ q : Option (Int × Tok), v = partValue q ∧ o = q.map (·.1) := by
  cases p with
  | none => exact ⟨none, rfl, rfl⟩
  | int i t => exact ⟨some (i, t), rfl, rfl⟩
theorem sl_str : SlR X rSlS := by
  intro pins s σ H x v vl vu lo hi sl Q I rx hs pl pu h
  obtain ⟨z, rfl, hz, q⟩ := h
  obtain ⟨t, rfl⟩ := rx
  obtain ⟨l, rfl, rfl⟩ := part_val pl
  obtain ⟨u, rfl, rfl⟩ := part_val pu
  refine ⟨"str", _, PySem.F.slot_str_getitem.lookup, typeIs_str _ _ _, ?_⟩
  have hq : ∀ t' k, EP X pins σ Q (.str (Txt.slice z (l.map (·.1)) (u.map (·.1))) t') { s with toks := k } := fun t' k => ⟨.str _, H, I.tok k, ⟨t', rfl⟩, q⟩
  have hl := Nat.le_trans (Txt.slice_le z (l.map (·.1)) (u.map (·.1))) hz
  cases l <;> cases u <;> exact wpAny_getItem_str_slice (st := none) hs rfl (post_val_or_str ⟨hl, fun t' k => hq t' k⟩)
/-- sorted of ints -/
theorem call_sorted_ints : CallR X (.builtin "sorted") (fun xs H Q => ∃ (p : Addr) (ns : List Int), xs = [.ref p] ∧ SqL X.K H p (ns.map V.int) ∧ ns.length < 64 ∧
    ∀ (l : Addr) (ns' : List Int), H l = none → ns'.Perm ns → ns'.Pairwise (· ≤ ·) → Q (.ref l) (upd H l (.lst (ns'.map V.int)))) := by
  intro pins s σ H xs us Q I r h
  obtain ⟨p, ns, rfl, hq, hl, q⟩ := h
  obtain ⟨u, rfl, rx⟩ := vals1 r
  cases rx
  obtain ⟨its, r', pl, hz⟩ := I.list hq
  have hlen := r'.length
  rw [List.length_map] at hlen
  refine sorted_ints pl.isList (intsAre_of r') (by omega) fun out ns' a1 a2 a3 => ?_
  obtain ⟨e, he⟩ := sortedAll_at s.heap its out
  have hf : H (s.heap.objs.size + 1) = none := I.hok.fresh (Nat.le_succ _)
  have hz' : (ns'.map V.int).length ≤ sizeLine := by
    rw [List.length_map, a2.length_eq]
    exact Nat.le_of_lt (small1000 (by omega))
  exact ⟨.ref (s.heap.objs.size + 1), _, I.laid (t' := s.toks) (o := .lst (ns'.map V.int)) (fun b ob z => sortedAll_old z) (Nat.le_succ _) ⟨hz', out.toList, e, vals_ints a1, he⟩, rfl, q _ _ hf a2 a3⟩
/-- dict of a dict: a copy -/
theorem call_dict_of : CallR X (.type "dict") (fun xs H Q => ∃ a kvs, xs = [.ref a] ∧ H a = some (.dK kvs) ∧ ∀ p, H p = none → Q (.ref p) (upd H p (.dK kvs))) := by
  intro pins s σ H xs us Q I r h
  obtain ⟨a, kvs, rfl, ha, q⟩ := h
  obtain ⟨u, rfl, rx⟩ := vals1 r
  cases rx
  exact d_copyOf I (.inl ha) fun p s' hp I' => ⟨.ref p, _, I', rfl, q p hp⟩
/-- isinstance of a bool -/
theorem call_isi_bool : CallR X (.builtin "isinstance") (fun xs H Q => ∃ b, xs = [.bl b, .ty "bool"] ∧ Q (.bl true) H) := by
  intro pins s σ H xs us Q I r h
  obtain ⟨b, rfl, q⟩ := h
  obtain ⟨u, w', rfl, r1, r2⟩ := vals2 r
  cases r1
  cases r2
  exact call_isinstance_yes (Tx := "bool") (T := "bool") rfl (by kernel_rfl) (by kernel_rfl) ⟨.bl true, H, I, rfl, q⟩
/-- is not, of two bools -/
theorem op_isnot_bl : OpR X (compareOp .IsNot) (fun x y H Q => ∃ a b, x = .bl a ∧ y = .bl b ∧ Q (.bl (a != b)) H) := by
  intro pins s σ H x y v u Q I r1 r2 h
  obtain ⟨a, b, rfl, rfl, q⟩ := h
  cases r1
  cases r2
  exact isnot_bool ⟨.bl _, H, I, rfl, q⟩
end

/-! ### two lists that hold the same, lists and dicts within -/
/-- the two are equal here -/
def EqW (P : Program) (w : World) (A : Around) (s : Shared) (y x : Value) : Prop := ∀ (E : Value → Shared → Prop) (Q : Bool → Shared → Prop), Q true s → wpAny (model P w) A (eqBool y x) Q E s
section
variable {P : Program} {w : World} {A : Around} {s : Shared}
theorem EqW.of {y x : Value} (h : SeqAt.EqAt A s y x true) : EqW P w A s y x := fun E Q q => h P w E Q q
theorem EqW.refs {l b : Addr} (hne : l ≠ b) (h : ∀ (E : Value → Shared → Prop) (Q : Value → Shared → Prop), Q (.bool true) s → wpAny (model P w) A (richCompare .Eq (.ref l) (.ref b)) Q E s) : EqW P w A s (.ref l) (.ref b) := by
  intro E Q q
  unfold eqBool
  refine wpAny_holding ?_
  refine wpAny_ite_split (fun z => absurd (by have := eq_of_beq z; injection this) hne) (fun _ => ?_)
  exact wpAny_bind (h E _ (wpAny_truthy_bool q))
end
section
open AutoSeq1 (wpAny_loadPart')
open MeetsSeq MeetsSeq2 MeetsSeq3
theorem ne_loopW (P : Program) (w : World) (a b : Addr) (us vs : Array Value) (n1 n2 : Nat) (d1 d2 : Option Addr) (s1 s2 : Array (Option Value)) (hz : us.size = vs.size) (m : Nat) :
    ∀ i : Nat, us.size - i = m → MeetsIn P w (Builtin.«list.__eq__.loop» ⟨[.ref a, .ref b, rawInt i, rawInt 3], []⟩)
      (fun A R s => s.heap.get? a = some { cls := .type "list", dict := d1, data := .seq us n1, slots := s1 } ∧ s.heap.get? b = some { cls := .type "list", dict := d2, data := .seq vs n2, slots := s2 } ∧
        (∀ j (h1 : j < us.size) (h2 : j < vs.size), EqW P w A.in1 s us[j] vs[j]) ∧ R (.ok (.ret (.bool false))) s) := by
  induction m with
  | zero =>
    intro i hm A R st hh
    obtain ⟨k0, k1, k2, k3, k4⟩ := st
    obtain ⟨hA, hB, hE, hR⟩ := hh
    wp_walk using wpAny_loadPart' hA, wpAny_loadPart' hB
    have e1 : us[((i : Nat) : Int).toNat]? = none := by simp; omega
    have e2 : vs[((i : Nat) : Int).toNat]? = none := by simp; omega
    rw [e1, e2]
    wp_walk using wpAny_loadPart' hA, wpAny_loadPart' hB
    show R (.ok (.ret (.bool (us.size != vs.size)))) _
    rw [hz]
    simpa using hR
  | succ m ih =>
    intro i hm A R st hh
    obtain ⟨k0, k1, k2, k3, k4⟩ := st
    obtain ⟨hA, hB, hE, hR⟩ := hh
    wp_walk using wpAny_loadPart' hA, wpAny_loadPart' hB
    have l1 : i < us.size := by omega
    have l2 : i < vs.size := by omega
    have e1 : us[((i : Nat) : Int).toNat]? = some us[i] := by simp [l1]
    have e2 : vs[((i : Nat) : Int).toNat]? = some vs[i] := by simp [l2]
    have e3 : ((i : Int) + 1) = ((i + 1 : Nat) : Int) := by push_cast; rfl
    rw [e1, e2]
    refine wpAny_bind (hE i l1 l2 _ _ ?_)
    wp_walk
    rw [e3]
    exact ⟨plainId_quiet plain_eq_loop _, codeAny_builtin entry_eq_loop (by
      rw [Around.under_plainId plain_eq_loop _]
      exact ih (i + 1) (by omega) A R _ ⟨hA, hB, hE, hR⟩)⟩
theorem list_neW (P : Program) (w : World) (a b : Addr) (us vs : Array Value) (n1 n2 : Nat) (d1 d2 : Option Addr) (s1 s2 : Array (Option Value)) (hz : us.size = vs.size) :
    MeetsIn P w (Builtin.«list.__ne__» ⟨[.ref a, .ref b], []⟩)
      (fun A R s => s.heap.get? a = some { cls := .type "list", dict := d1, data := .seq us n1, slots := s1 } ∧ s.heap.get? b = some { cls := .type "list", dict := d2, data := .seq vs n2, slots := s2 } ∧
        (∀ j (h1 : j < us.size) (h2 : j < vs.size), EqW P w A.in1 s us[j] vs[j]) ∧ R (.ok (.ret (.bool false))) s) := by
  intro A R st hh
  obtain ⟨k0, k1, k2, k3, k4⟩ := st
  obtain ⟨hA, hB, hE, hR⟩ := hh
  have fs := AutoSeq1.sub_list_list
  have hn : ¬ (us.size != vs.size) = true := by simp [hz]
  wp_walk using wpAny_loadPart' hA, wpAny_loadPart' hB
  exact ⟨plainId_quiet plain_eq_loop _, codeAny_builtin entry_eq_loop (by
    rw [Around.under_plainId plain_eq_loop _]
    exact ne_loopW P w a b us vs n1 n2 d1 d2 s1 s2 hz _ 0 rfl A R _ ⟨hA, hB, hE, hR⟩)⟩
end
/-- equal, down to lists and dicts of flat things -/
inductive EqT (K : PySem.W.Frag) (H : Hp) : V → V → Prop
  | flat {x : V} : flatV x = true → EqT K H x x
  | lst {a b : Addr} {xs : List V} : SqL K H a xs → SqL K H b xs → (∀ x ∈ xs, flatV x = true) → EqT K H (.ref a) (.ref b)
  | dk {a b : Addr} {kvs : List (Key × V)} : H a = some (.dK kvs) → H b = some (.dK kvs) → (kvs.map (·.1)).Nodup → (∀ p ∈ kvs, flatV p.2 = true) → EqT K H (.ref a) (.ref b)
theorem eqV_self {x : V} (h : flatV x = true) : eqV x x = true := by
  cases x <;> first | (simp [eqV]; done) | (simp [flatV] at h; done) | (simp [eqV, flatV] at *)
theorem valV_mem {κ : Type} [DecidableEq κ] {k : κ} {v : V} : ∀ {kvs : List (κ × V)}, (kvs.map (·.1)).Nodup → (k, v) ∈ kvs → valV kvs k = some v
  | [], _, h => by cases h
  | p :: r, hn, h => by
    have hn : (p.1 :: r.map (·.1)).Nodup := hn
    obtain ⟨h1, h2⟩ := List.nodup_cons.mp hn
    rcases List.mem_cons.mp h with e | h
    · subst e; exact valV_pos rfl
    · rw [valV_neg fun e => h1 (e ▸ List.mem_map.mpr ⟨_, h, rfl⟩)]
      exact valV_mem h2 h
section
variable {X : Cx} {pins : List (Addr × Obj)} {σ : St} {H : Hp} {s : Shared} {A : Around}
theorem hits_all {A : Around} {s : Shared} {kb : List (Key × Value)} : ∀ (ka : List (Key × Value)), (∀ p ∈ ka, ∃ y, valueAt kb p.1 = some y ∧ SeqAt.EqAt A s p.2 y true) → PySem.W.KeqHits A s kb ka true
  | [], _ => .nil
  | (k, v) :: r, h => by
    obtain ⟨y, e1, e2⟩ := h (k, v) List.mem_cons_self
    exact .hit (e := true) (b := true) e1 e2 (hits_all r fun p hp => h p (List.mem_cons_of_mem _ hp))
theorem kv_mem {κ : Type} : ∀ {kvs : List (κ × V)} {vs : List (κ × Value)}, KV kvs vs → ∀ q ∈ vs, ∃ p ∈ kvs, p.1 = q.1 ∧ RelV p.2 q.2
  | _, _, .nil, q, h => by cases h
  | _, _, .cons r t, q, h => by
    rcases List.mem_cons.mp h with e | h
    · subst e; exact ⟨_, List.mem_cons_self, r⟩
    · obtain ⟨p, hp, z⟩ := kv_mem t q h
      exact ⟨p, List.mem_cons_of_mem _ hp, z⟩
theorem eqT_w {x y : V} {u v : Value} (I : Inv X pins σ H s) (e : EqT X.K H x y) (ru : RelV x u) (rv : RelV y v) (hu : A.units + 4 < cLine) : EqW X.prog X.w A s u v := by
  cases e with
  | flat f =>
    have z := eqAt_V (A := A) (s := s) ru rv f f
    rw [eqV_self f] at z
    exact .of z
  | @lst a b xs h1 h2 hf =>
    cases ru
    cases rv
    by_cases hab : a = b
    · subst hab
      exact .of (SeqAt.EqAt.same _)
    · obtain ⟨i1, r1, p1, z1⟩ := I.list h1
      obtain ⟨i2, r2, p2, z2⟩ := I.list h2
      have l1 := r1.length
      have l2 := r2.length
      have q := SeqAt.RcAt.lists (A := A) (e := fun _ => true) p1.isList p2.isList (by simp; omega) (by omega) (fun j j1 j2 => by
        have j1' : j < i1.length := by simpa using j1
        have j2' : j < i2.length := by simpa using j2
        have jx : j < xs.length := by omega
        obtain ⟨u1, e1, w1⟩ := r1.get (i := j) (x := xs[j]) (List.getElem?_eq_getElem jx)
        obtain ⟨u2, e2, w2⟩ := r2.get (i := j) (x := xs[j]) (List.getElem?_eq_getElem jx)
        rw [List.getElem?_eq_getElem j1'] at e1
        rw [List.getElem?_eq_getElem j2'] at e2
        have f := hf _ (List.getElem_mem jx)
        have z := eqAt_V (A := A.in1) (s := s) w1 w2 f f
        rw [eqV_self f] at z
        have g1 : i1.toArray[j] = u1 := by simpa using Option.some.inj e1
        have g2 : i2.toArray[j] = u2 := by simpa using Option.some.inj e2
        rw [g1, g2]
        exact z)
      have qt : ((List.range i1.toArray.size).all fun _ => true) = true := by simp
      rw [qt] at q
      exact .of (SeqAt.EqAt.of_refs hab q)
  | @dk a b kvs h1 h2 hn hf =>
    cases ru
    cases rv
    by_cases hab : a = b
    · subst hab
      exact .of (SeqAt.EqAt.same _)
    · obtain ⟨z1, y1, v1, k1, d1⟩ := dk_of I.hok h1
      obtain ⟨z2, y2, v2, k2, d2⟩ := dk_of I.hok h2
      refine EqW.refs hab fun E Q q => ?_
      refine PySem.W.keq_eq (r := true) y1 y2 d1 d2 (by omega) (fun _ => hits_all _ fun p hp => ?_) ?_
      · obtain ⟨p', hp', e1, e2⟩ := kv_mem k1 p hp
        have hv : valV kvs p.1 = some p'.2 := valV_mem hn (by rw [← e1]; exact hp')
        have hr := k2.val p.1
        rw [hv] at hr
        obtain ⟨y, ey, ry⟩ := RelO.some_of hr
        have f := hf p' hp'
        have z := eqAt_V (A := A.in1) (s := s) e2 ry f f
        rw [eqV_self f] at z
        exact ⟨y, ey, z⟩
      · have e : (v1.length == v2.length) = true := by
          rw [← k1.length, ← k2.length]
          exact beq_self_eq_true _
        rw [e]
        exact q
/-- xs != ys, which hold the same -/
theorem op_ne_deep (hu : X.A.units + 8 < cLine) : OpR X (compareOp .NotEq) (fun x y H Q => ∃ a b xs ys, x = .ref a ∧ y = .ref b ∧ SqL X.K H a xs ∧ SqL X.K H b ys ∧ Paired (EqT X.K H) xs ys ∧ Q (.bl false) H) := by
  intro pins s σ H x y v u Q I r1 r2 h
  obtain ⟨a, b, xs, ys, rfl, rfl, h1, h2, hp, q⟩ := h
  cases r1
  cases r2
  obtain ⟨i1, w1, p1, z1⟩ := I.list h1
  obtain ⟨i2, w2, p2, z2⟩ := I.list h2
  have l1 := w1.length
  have l2 := w2.length
  have l3 := Paired.length hp
  obtain ⟨⟨c1, g1, t1, o1⟩, e1, f1, n1, m1⟩ := id p1.isList
  obtain ⟨⟨c2, g2, t2, o2⟩, e2, f2, n2, m2⟩ := id p2.isList
  simp only at f1 m1 f2 m2
  subst f1 m1 f2 m2
  have pg : ∀ {xs ys : List V}, Paired (EqT X.K H) xs ys → ∀ (j : Nat) (x y : V), xs[j]? = some x → ys[j]? = some y → EqT X.K H x y := by
    intro xs ys h
    induction h with
    | nil => intro j x y e; simp at e
    | cons r _ ih =>
      intro j x y e e'
      cases j with
      | zero => simp at e e'; subst e; subst e'; exact r
      | succ j => exact ih j x y (by simpa using e) (by simpa using e')
  refine wpAny_richCompare_same_room (op := .NotEq) ⟨_, e1, rfl⟩ ⟨_, e2, rfl⟩ PySem.F.slot_list_ne (call_meetsIn PySem.F.slot_list_ne ⟨_, e1, rfl⟩ PySem.F.entry_list_ne (PySem.F.args_list_ne_2 _ _)
    (list_neW X.prog X.w a b i1.toArray i2.toArray _ _ _ _ _ _ (by simp; omega)) ⟨e1, e2, fun j j1 j2 => ?_, ?_⟩) (by omega)
  · have j1' : j < i1.length := by simpa using j1
    have j2' : j < i2.length := by simpa using j2
    have jx : j < xs.length := by omega
    have jy : j < ys.length := by omega
    obtain ⟨u1, q1, t1⟩ := w1.get (i := j) (x := xs[j]) (List.getElem?_eq_getElem jx)
    obtain ⟨u2, q2, t2⟩ := w2.get (i := j) (x := ys[j]) (List.getElem?_eq_getElem jy)
    rw [List.getElem?_eq_getElem j1'] at q1
    rw [List.getElem?_eq_getElem j2'] at q2
    have g1 : i1.toArray[j] = u1 := by simpa using Option.some.inj q1
    have g2 : i2.toArray[j] = u2 := by simpa using Option.some.inj q2
    rw [g1, g2]
    exact eqT_w I (pg hp j _ _ (List.getElem?_eq_getElem jx) (List.getElem?_eq_getElem jy)) t1 t2 (by show X.A.units + 1 + 4 < cLine; omega)
  · show Value.bool false ≠ Value.notImplemented ∧ _
    exact ⟨(fun z => nomatch z), ⟨.bl false, H, I, rfl, q⟩⟩
/-- xs != [] -/
theorem op_ne_nil (hu : X.A.units + 8 < cLine) : OpR X (compareOp .NotEq) (fun x y H Q => ∃ a b xs, x = .ref a ∧ y = .ref b ∧ SqL X.K H a xs ∧ SqL X.K H b [] ∧ Q (.bl (!xs.isEmpty)) H) := by
  intro pins s σ H x y v u Q I r1 r2 h
  obtain ⟨a, b, xs, rfl, rfl, h1, h2, q⟩ := h
  cases r1
  cases r2
  obtain ⟨i1, w1, p1, z1⟩ := I.list h1
  obtain ⟨i2, w2, p2, z2⟩ := I.list h2
  cases w2
  cases xs with
  | nil =>
    cases w1
    exact SeqAt.RcNeAt.lists (A := X.A) (e := fun _ => true) p1.isList p2.isList rfl (by omega) (fun j j1 => absurd j1 (Nat.not_lt_zero _)) _ _ _ _ ⟨.bl false, H, I, rfl, q⟩
  | cons x r =>
    have l1 := w1.length
    refine SeqAt.RcNeAt.lists_lengths (A := X.A) p1.isList p2.isList ?_ (by omega) _ _ _ _ ⟨.bl true, H, I, rfl, q⟩
    simp only [List.size_toArray, ← l1]
    rfl
end

/-! ### [elt for target in iter], no name of the def around within -/
section
variable {X : Cx}
def cxLC (X : Cx) (N' : List Str) (scope : Scope) (s : Shared) (H : Hp) (ex : List Addr) : Cx where
  prog := X.prog
  w := X.w
  K := X.K
  mg := X.mg
  base := X.base
  A := X.A
  N := N'
  s₀ := s
  H₀ := H
  env := { scope := scope, locals := s.heap.objs.size, globals := X.env.globals, cells := [], qual := X.env.qual, func := none, code := X.env.code, frame := X.env.frame, builtins := X.env.builtins }
  outer := X.stack
  stack := X.stack
  ex := ex
  calm := true
  fn := fun _ => true
  pn := []
  xe := fun _ _ => False
def tLC (n : Nat) (wi : TI) (g : TG) (te : TE) : TE := fun σ H Q => wi σ H fun J H1 => ∀ D, H1 D = none →
  ∃ W : Nat → Nat → St → Hp → Prop, (∃ m, W 0 m (List.replicate n none) (upd H1 D (.lst []))) ∧ ∀ i m σ' H', W i m σ' H' →
    (J.stop i H' ∧ Q (.ref D) H') ∨ (J.go i H' ∧ ∃ N : St → Hp → Prop, (∀ σ2 H2, N σ2 H2 → ∃ m', m' < m ∧ W (i + 1) m' σ2 H2) ∧
      ∀ x H2, J.yld i H' x H2 → g x σ' H2 fun σ3 H3 => te σ3 H3 fun y H4 => ∃ xs, H4 D = some (.lst xs) ∧ xs.length < sizeLine ∧ N σ3 (upd H4 D (.lst (xs ++ [y]))))
theorem lc_start {pins : List (Addr × Obj)} {σ : St} {H : Hp} {s : Shared} {h4 : Heap} {m : Str → Option Value} {tk : Nat} {N' : List Str} {scope : Scope} {fp : List Addr} (hc : X.calm = true) (I : Inv X pins σ H s)
    (f : ∀ b ∈ fp, FpOk X pins H b) (fo : ∀ b ∈ fp, ∃ o, s.heap.get? b = some o) (hk : scope.kind = .function) (hfree : ∀ x ∈ scope.names, x.2 ≠ .free) (hcell : ∀ x ∈ scope.names, x.2 ≠ .cell)
    (hn : h4.Ns s.heap.objs.size m) (kp : ∀ b o, s.heap.get? b = some o → h4.get? b = some o) : Inv (cxLC X N' scope s H fp) [] (List.replicate N'.length none) H { s with heap := h4, toks := tk } := by
  have nope : ∀ x, ¬ (scope.names.lookup x = some .cell ∨ scope.names.lookup x = some .free) := fun x z => by
    rcases z with z | z
    · exact hcell _ (PySem.mem_of_lookup z) rfl
    · exact hfree _ (PySem.mem_of_lookup z) rfl
  refine ⟨⟨I.ok.mod, hk, I.ok.glob, I.ok.blt, Nat.le_refl _, (fun x y c e => nomatch e), fun x z => absurd z (nope x), (fun x c _ e => nomatch e), fun _ => I.ok.hd hc, I.ok.frames, .inl rfl, fun b hb => ⟨?_, (fun x c e => nomatch e)⟩, I.bs,
    Nat.le_trans I.ok.bsz I.sz, fun b o e hb => ?_, fun b hb hm => ?_, I.stack, I.stkFree⟩, rfl, I.bare, Un.kept kp, ⟨m, hn, fun i x v _ e2 _ => ?_⟩, (fun x c e => nomatch e), I.hok.fresh (Nat.le_refl _), (fun x c e => nomatch e), (fun p hp => nomatch hp), I.hok.kept kp, ?_⟩
  · obtain ⟨o, e⟩ := fo b hb
    exact Nat.ne_of_lt (Heap.lt_size e)
  · obtain ⟨_, _, _, z, _⟩ := f b hb
    rcases z with z | z
    · exact I.ok.noex b o e z
    · exact absurd (Nat.lt_of_lt_of_le (Heap.lt_size e) (Nat.le_trans I.ok.bsz z)) (Nat.lt_irrefl _)
  · obtain ⟨_, z1, z2, _⟩ := f b hb
    rcases List.mem_cons.mp (I.stkSub b hm) with z | z
    · exact z1 z
    · exact z2 z
  · rw [List.getElem?_replicate] at e2
    split at e2 <;> cases e2
  · exact List.length_replicate
theorem lc_end {pins : List (Addr × Obj)} {σ σ' : St} {H H' : Hp} {s s' : Shared} {h' : Heap} {N' : List Str} {scope : Scope} {fp : List Addr} (I : Inv X pins σ H s) (f : ∀ b ∈ fp, FpOk X pins H b)
    (J : Inv (cxLC X N' scope s H fp) [] σ' H' s') (sb : Heap.SameBut s.heap.objs.size s'.heap h') : Inv X pins σ H' { s' with heap := h' } := by
  have U : Un (frs X.stack) fp H H' s.heap s'.heap := J.base
  have ne : ∀ b o, s.heap.get? b = some o → b ≠ s.heap.objs.size := fun b o e => Nat.ne_of_lt (Heap.lt_size e)
  have nH : ∀ b o, H' b = some o → b ≠ s.heap.objs.size := fun b o e z => by
    have q : H' s.heap.objs.size = none := J.free
    rw [z, q] at e
    cases e
  have U' : Un (frs X.stack) fp H H' s.heap h' := ⟨fun b o e n hb hx => (sb.2 b (ne b o e)).trans (U.keep b o e n hb hx), fun b o e n hb hx => by
      obtain ⟨sl, z⟩ := U.slot b o e n hb hx
      exact ⟨sl, (sb.2 b (ne b o e)).trans z⟩, U.free, fun b o e hx => by
      obtain ⟨o', z⟩ := U.there b o e hx
      exact ⟨o', (sb.2 b (ne b o e)).trans z⟩, U.tups, U.frzs, U.tbls⟩
  have hok : HOk X.prog X.w H' h' := fun a o e => (J.hok a o e).stay (fun b u hb q => (sb.2 b (by
      rcases hb with hb | hb
      · rw [hb]; exact nH a o e
      · exact nH b _ hb)).trans q) (fun _ q => q) fun _ _ q => q
  refine I.call' (s' := { s' with heap := h' }) (ch := fp) J.os U' hok J.bare fun b hb => ?_
  obtain ⟨_, z1, z2, z3, z4, z5⟩ := f b hb
  exact ⟨z3, z1, z4, z5⟩
theorem pe_lc {elt target iter : Expr} {scope : Scope} {pos : Pos} {N' : List Str} {wi : TI} {g : TG} {te : TE} (hc : X.calm = true) (hi : PI X target iter wi) (hk : scope.kind = .function) (hfree : ∀ x ∈ scope.names, x.2 ≠ .free)
    (hcell : ∀ x ∈ scope.names, x.2 ≠ .cell) (hnames : ∀ x ∈ scope.names, x.2 = .local → scope.names.lookup x.1 = some .local) (hg : ∀ s H ex, PG (cxLC X N' scope s H ex) target g) (he : ∀ s H ex, PE (cxLC X N' scope s H ex) elt te)
    (hs : ∀ x, foldedSetIterable iter X.env x = pure x := by intro _; rfl) : PE X (.ListComp elt [⟨target, iter, [], 0⟩] scope pos) (tLC N'.length wi g te) := by
  intro pins s σ H Q I h
  refine wpAny_ListComp hfree hk hnames (thn (hi pins s σ H _ I h) fun v s1 h1 => thn h1 fun itv s2 h2 => ?_) hs
  obtain ⟨it, fp, tn, J, H2, rfl, I2, T, st2, f2, R⟩ := h2
  have hD : H2 s2.heap.objs.size = none := I2.hok.fresh (Nat.le_refl _)
  obtain ⟨W, ⟨m0, w0⟩, turn⟩ := R _ hD
  refine wpAny_newList ?_ (Nat.zero_le _)
  have I3 : Inv X pins σ (upd H2 s2.heap.objs.size (.lst [])) { s2 with heap := s2.heap.push { cls := .type "list", data := .seq ([] : List Value).toArray } } := I2.lnew (t' := s2.toks) .nil (Nat.zero_le _)
  have o2 := T.obj 0 _ st2
  have lt2 : ∀ b ∈ fp, b < s2.heap.objs.size := fun b hb => by
    obtain ⟨o, e, _⟩ := o2 b hb
    exact Heap.lt_size e
  have f3 : ∀ b ∈ fp, FpOk X pins (upd H2 s2.heap.objs.size (.lst [])) b := fun b hb => ⟨by rw [upd_ne (Nat.ne_of_lt (lt2 b hb))]; exact (f2 b hb).1, (f2 b hb).2⟩
  have st3 : tn 0 (s2.heap.push { cls := .type "list", data := .seq ([] : List Value).toArray }) := T.keep 0 _ _ st2 fun b hb o e => Heap.get?_push_of_some _ e
  generalize hs3 : ({ s2 with heap := s2.heap.push { cls := .type "list", data := .seq ([] : List Value).toArray } } : Shared) = s3 at I3 ⊢
  have st3' : tn 0 s3.heap := by rw [← hs3]; exact st3
  generalize hH3 : upd H2 s2.heap.objs.size (.lst []) = H3 at I3 f3 w0
  generalize hDD : s2.heap.objs.size = D at *
  have o3 : ∀ b ∈ fp, ∃ o, s3.heap.get? b = some o := fun b hb => by
    obtain ⟨o, e, _⟩ := T.obj 0 _ st3' b hb
    exact ⟨o, e⟩
  refine wpAny_newFunctionEnv hcell (fun x hx => nomatch hx) (fun h4 hn4 sb4 => ?_) hk
  have kp4 : ∀ b o, s3.heap.get? b = some o → h4.get? b = some o := fun b o e => (sb4.2 b (Nat.ne_of_lt (Heap.lt_size e))).trans (Heap.get?_push_of_some _ e)
  have I4 : Inv (cxLC X N' scope s3 H3 fp) [] (List.replicate N'.length none) H3 { s3 with heap := h4, toks := s3.toks + ([] : List (Str × Value)).length } := lc_start hc I3 f3 o3 hk hfree hcell hn4 kp4
  have stat : ∀ {H' : Hp}, (∀ b ∈ fp, H' b = none) → ∀ b ∈ fp, FpOk (cxLC X N' scope s3 H3 fp) [] H' b := fun hn b hb => by
    obtain ⟨o, e⟩ := o3 b hb
    obtain ⟨_, z1, z2, _⟩ := f3 b hb
    refine ⟨hn b hb, Nat.ne_of_lt (Heap.lt_size e), fun hm => ?_, .inl hb, (fun x c e => nomatch e), (fun p hp => nomatch hp)⟩
    rcases List.mem_cons.mp (I3.stkSub b hm) with z | z
    · exact z1 z
    · exact z2 z
  have L : ∀ Rr : Result → Shared → Prop, (∀ s' H' σ', Inv (cxLC X N' scope s3 H3 fp) [] σ' H' s' → Q (.ref D) H' → Rr (.ok .next) s') →
      codeAny (model X.prog X.w) X.A (.compLoop (.ListComp elt [⟨target, iter, [], 0⟩] scope pos) 0 (.ref it) (.ref D) (cxLC X N' scope s3 H3 fp).env) Rr { s3 with heap := h4, toks := s3.toks + ([] : List (Str × Value)).length } := by
    intro Rr hR
    refine codeAny_loop rfl (fun n s' => ∃ i σ' H', Inv (cxLC X N' scope s3 H3 fp) [] σ' H' s' ∧ tn i s'.heap ∧ (∀ b ∈ fp, H' b = none) ∧ W i n σ' H') ?_ m0
      ⟨0, _, H3, I4, T.keep 0 _ _ st3' fun b _ o e => kp4 b o e, fun b hb => (f3 b hb).1, w0⟩
    rintro n s5 ⟨i, σ5, H5, I5, st5, fr5, w5⟩
    show wpAny _ X.A ((compTurn (.ListComp elt [⟨target, iter, [], 0⟩] scope pos) 0 (.ref it) (.ref D) (cxLC X N' scope s3 H3 fp).env).onRaise (fun x => do noteFrame x (cxLC X N' scope s3 H3 fp).env; theTreesLotGoes x)) _ _ s5
    refine wpAny_noted ?_
    rw [compTurn_list1]
    refine wpAny_bind (wpAny_standAt ?_)
    rcases turn i n σ5 H5 w5 with ⟨stop, qn⟩ | ⟨go, N, hN, stp⟩
    · refine wpAny_bind (thn (T.done (cxLC X N' scope s3 H3 fp) rfl rfl rfl rfl i [] s5 σ5 H5 _ I5 (stat fr5) st5 stop) fun r s6 ⟨hr, I6⟩ => ?_)
      subst hr
      exact wpAny_pure (hR s6 H5 σ5 I6 qn)
    · refine wpAny_bind (thn (T.item (cxLC X N' scope s3 H3 fp) rfl rfl rfl rfl i [] s5 σ5 H5 _ I5 (stat fr5) st5 go) fun r s6 ⟨u, hr, h6⟩ => ?_)
      subst hr
      refine wpAny_bind (thn h6 fun _ s7 ⟨x, H7, I7, r7, y7, st7, fr7⟩ => ?_)
      have I7' := I7.pinned (stat fr7) (T.obj _ _ st7)
      refine wpAny_bind (wpAny_mono (hg s3 H3 fp _ s7 σ5 H7 x u _ I7' r7 (stp x H7 y7)) (fun _ s8 ⟨σ8, H8, I8, q8⟩ => ?_) fun _ _ z => False.elim z)
      refine wpAny_bind (wpAny_bind (wpAny_mono (he s3 H3 fp _ s8 σ8 H8 _ I8 q8) (fun y s9 ⟨yv, H9, I9, r9, q9⟩ => ?_) fun _ _ z => False.elim z))
      obtain ⟨xs, hx, hz, q9⟩ := q9
      refine wpAny_bind (wpAny_mono (mt_append (X := cxLC X N' scope s3 H3 fp) _ s9 σ8 H9 (.ref D) [yv] (.ref D) [y] (fun v H' => N σ8 H') I9 rfl (.cons r9 .nil) ⟨D, xs, yv, rfl, rfl, hx, hz, q9⟩) (fun _ s10 ⟨_, H10, I10, _, n10⟩ => ?_) fun _ _ z => False.elim z)
      refine wpAny_pure (wpAny_pure ⟨rfl, ?_⟩)
      obtain ⟨m', hm, w10⟩ := hN σ8 H10 n10
      refine ⟨m', hm, i + 1, σ8, H10, I10.unpinned, T.keep _ _ _ st7 fun b hb o e => (I10.pin (b, o) (List.mem_append_right _ (List.mem_append_right _ (mem_pinsAt hb e)))).1, fun b hb => ?_, w10⟩
      obtain ⟨o, e, d⟩ := T.obj _ _ st7 b hb
      exact (I10.pin (b, o) (List.mem_append_right _ (List.mem_append_right _ (mem_pinsAt hb e)))).2.1
  have fin : ∀ s' H' σ', Inv (cxLC X N' scope s3 H3 fp) [] σ' H' s' → Q (.ref D) H' → ∃ m, s'.heap.Ns s3.heap.objs.size m ∧ ∀ h', Heap.SameBut s3.heap.objs.size s'.heap h' → EP X pins σ Q (.ref D) { s' with heap := h' } := by
    intro s' H' σ' I' q
    obtain ⟨m, hn, _⟩ := I'.loc
    exact ⟨m, hn, fun h' sb => ⟨.ref D, H', lc_end I3 f3 I' sb, rfl, q⟩⟩
  refine codeAny_compStart_list (L _ fin) ?_
  exact T.self _ 0 _ _ _ (T.keep 0 _ _ st3' fun b _ o e => kp4 b o e) (L _ fin)
/-- a comprehension over a list -/
theorem lc_list {K : PySem.W.Frag} {a D : Addr} {xs : List V} {g : TG} {te : TE} {Q : VK} {n : Nat} {H1 : Hp} (Pv : Nat → St → Hp → Prop) (h0 : Pv 0 (List.replicate n none) (upd H1 D (.lst []))) (hl : ∀ i σ H, i ≤ xs.length → Pv i σ H → SqL K H a xs)
    (hs : ∀ i x σ H, xs[i]? = some x → Pv i σ H → g x σ H fun σ3 H3 => te σ3 H3 fun y H4 => ∃ zs, H4 D = some (.lst zs) ∧ zs.length < sizeLine ∧ Pv (i + 1) σ3 (upd H4 D (.lst (zs ++ [y])))) (hd : ∀ σ H, Pv xs.length σ H → Q (.ref D) H) :
    ∃ W : Nat → Nat → St → Hp → Prop, (∃ m, W 0 m (List.replicate n none) (upd H1 D (.lst []))) ∧ ∀ i m σ' H', W i m σ' H' →
      ((Itl K a).stop i H' ∧ Q (.ref D) H') ∨ ((Itl K a).go i H' ∧ ∃ N : St → Hp → Prop, (∀ σ2 H2, N σ2 H2 → ∃ m', m' < m ∧ W (i + 1) m' σ2 H2) ∧
        ∀ x H2, (Itl K a).yld i H' x H2 → g x σ' H2 fun σ3 H3 => te σ3 H3 fun y H4 => ∃ zs, H4 D = some (.lst zs) ∧ zs.length < sizeLine ∧ N σ3 (upd H4 D (.lst (zs ++ [y])))) := by
  refine ⟨fun i m σ H => m = xs.length - i ∧ i ≤ xs.length ∧ Pv i σ H, ⟨xs.length, rfl, Nat.zero_le _, h0⟩, ?_⟩
  rintro i m σ H ⟨rfl, hi, p⟩
  have q := hl i σ H hi p
  rcases Nat.lt_or_ge i xs.length with hlt | hge
  · refine .inr ⟨⟨xs, xs[i], q, List.getElem?_eq_getElem hlt⟩, Pv (i + 1), fun σ' H' p' => ⟨xs.length - (i + 1), by omega, rfl, hlt, p'⟩, fun x H' y => ?_⟩
    obtain ⟨e, y⟩ := y
    subst e
    exact hs i x σ _ (y xs q) p
  · have e : i = xs.length := Nat.le_antisymm hi hge
    subst e
    exact .inl ⟨⟨xs, q, Nat.le_refl _⟩, hd σ H p⟩
end
end L2
namespace L2
open PySem
/-! ### a set's table -/
def Rise (xs : Array Nat) : Prop := xs.toList.Pairwise (· < ·)
theorem Rise.lt {xs : Array Nat} (h : Rise xs) {i j : Nat} (hi : i < xs.size) (hj : j < xs.size) (hij : i < j) : xs[i] < xs[j] := by
  have := List.pairwise_iff_getElem.mp h i j (by simpa using hi) (by simpa using hj) hij
  simpa using this
theorem below_go {xs : Array Nat} (hr : Rise xs) (j : Nat) : ∀ (fuel lo hi : Nat), lo ≤ hi → hi ≤ xs.size → hi - lo ≤ fuel → (∀ i (h : i < xs.size), i < lo → xs[i] < j) → (∀ i (h : i < xs.size), hi ≤ i → j ≤ xs[i]) →
    SetTable.below.go xs j fuel lo hi ≤ xs.size ∧ (∀ i (h : i < xs.size), i < SetTable.below.go xs j fuel lo hi → xs[i] < j) ∧ (∀ i (h : i < xs.size), SetTable.below.go xs j fuel lo hi ≤ i → j ≤ xs[i])
  | 0, lo, hi, h1, h2, h3, a, b => by
    have e : lo = hi := by omega
    unfold SetTable.below.go
    exact ⟨by omega, a, e ▸ b⟩
  | fuel + 1, lo, hi, h1, h2, h3, a, b => by
    unfold SetTable.below.go
    by_cases hlt : lo < hi
    · rw [if_pos hlt]
      have hm : (lo + hi) / 2 < xs.size := by omega
      have e : xs.getD ((lo + hi) / 2) j = xs[(lo + hi) / 2] := by simp [hm]
      dsimp only
      rw [e]
      by_cases hc : xs[(lo + hi) / 2] < j
      · rw [if_pos hc]
        refine below_go hr j fuel _ hi (by omega) h2 (by omega) (fun i h q => ?_) b
        rcases Nat.lt_or_ge i ((lo + hi) / 2) with z | z
        · exact Nat.lt_trans (hr.lt h hm z) hc
        · have : i = (lo + hi) / 2 := by omega
          subst this; exact hc
      · rw [if_neg hc]
        refine below_go hr j fuel lo _ (by omega) (by omega) (by omega) a (fun i h q => ?_)
        rcases Nat.lt_or_ge ((lo + hi) / 2) i with z | z
        · exact Nat.le_trans (Nat.le_of_not_lt hc) (Nat.le_of_lt (hr.lt hm h z))
        · have : i = (lo + hi) / 2 := by omega
          subst this; exact Nat.le_of_not_lt hc
    · rw [if_neg hlt]
      have e : lo = hi := by omega
      exact ⟨by omega, a, e ▸ b⟩
theorem below_spec {xs : Array Nat} (hr : Rise xs) (j : Nat) : SetTable.below xs j ≤ xs.size ∧ (∀ i (h : i < xs.size), i < SetTable.below xs j → xs[i] < j) ∧ (∀ i (h : i < xs.size), SetTable.below xs j ≤ i → j ≤ xs[i]) := by
  unfold SetTable.below
  exact below_go hr j _ 0 xs.size (Nat.zero_le _) (Nat.le_refl _) (by omega) (fun i h q => absurd q (Nat.not_lt_zero _)) (fun i h q => absurd h (by omega))
theorem below_zero {xs : Array Nat} (hr : Rise xs) : SetTable.below xs 0 = 0 := by
  obtain ⟨h1, h2, h3⟩ := below_spec hr 0
  rcases Nat.eq_zero_or_pos (SetTable.below xs 0) with h | h
  · exact h
  · exact absurd (h2 0 (by omega) h) (Nat.not_lt_zero _)
theorem below_succ {xs : Array Nat} (hr : Rise xs) {i : Nat} (hi : i < xs.size) : SetTable.below xs (xs[i] + 1) = i + 1 := by
  obtain ⟨h1, h2, h3⟩ := below_spec hr (xs[i] + 1)
  rcases Nat.lt_trichotomy (SetTable.below xs (xs[i] + 1)) (i + 1) with h | h | h
  · have := h3 i hi (by omega); omega
  · exact h
  · have hi' : i + 1 < xs.size := by omega
    have h4 := h2 (i + 1) hi' h
    have h5 := hr.lt hi hi' (Nat.lt_succ_self i)
    omega
theorem not_mem_of_slot {xs : Array Nat} (hr : Rise xs) {j : Nat} (h : xs[SetTable.below xs j]? ≠ some j) : ∀ i (hi : i < xs.size), xs[i] ≠ j := by
  intro i hi e
  obtain ⟨h1, h2, h3⟩ := below_spec hr j
  have hb : SetTable.below xs j = i := by
    rcases Nat.lt_trichotomy (SetTable.below xs j) i with z | z | z
    · have hb : SetTable.below xs j < xs.size := by omega
      have := h3 _ hb (Nat.le_refl _)
      have := hr.lt hb hi z
      omega
    · exact z
    · have := h2 i hi z; omega
  apply h
  rw [hb, Array.getElem?_eq_getElem hi, e]
theorem rise_insert {xs : Array Nat} (hr : Rise xs) {j : Nat} (hj : ∀ i (hi : i < xs.size), xs[i] ≠ j) : Rise (SetTable.insertAt xs (SetTable.below xs j) j) := by
  obtain ⟨h1, h2, h3⟩ := below_spec hr j
  unfold Rise
  rw [SetTable.toList_insertAt]
  have hl : ∀ x ∈ xs.toList.take (SetTable.below xs j), x < j := by
    intro x hx
    obtain ⟨i, hi, e⟩ := List.mem_iff_getElem.mp hx
    rw [List.length_take] at hi
    rw [List.getElem_take] at e
    have hi2 : i < xs.size := by have : xs.toList.length = xs.size := by simp
                                 omega
    have := h2 i hi2 (by omega)
    rw [← e]; simpa using this
  have hg : ∀ x ∈ xs.toList.drop (SetTable.below xs j), j < x := by
    intro x hx
    obtain ⟨i, hi, e⟩ := List.mem_iff_getElem.mp hx
    rw [List.length_drop] at hi
    rw [List.getElem_drop] at e
    have hi2 : SetTable.below xs j + i < xs.size := by have : xs.toList.length = xs.size := by simp
                                                       omega
    have a := h3 _ hi2 (by omega)
    have b := hj _ hi2
    have : xs[SetTable.below xs j + i] = x := by rw [← e]; simp
    omega
  rw [List.pairwise_append]
  refine ⟨hr.sublist (List.take_sublist _ _), List.pairwise_cons.mpr ⟨hg, hr.sublist (List.drop_sublist _ _)⟩, fun a ha b hb => ?_⟩
  rcases List.mem_cons.mp hb with rfl | hb
  · exact hl a ha
  · exact Nat.lt_trans (hl a ha) (hg b hb)
/-- a table as a set of this text keeps it -/
structure TabOk (led : Bool) (t : SetTable) : Prop where
  led : t.led = led
  rise : Rise t.place
  nod : t.dummies = #[]
theorem rise_range (n : Nat) : Rise (Array.range n) := by
  unfold Rise
  rw [Array.toList_range]
  exact List.pairwise_lt_range
theorem TabOk.standIn {led : Bool} {t : SetTable} (h : TabOk led t) (n : Nat) : TabOk led (t.standIn n) := ⟨h.led, rise_range n, rfl⟩
theorem TabOk.orStandIn {led : Bool} {t : SetTable} (h : TabOk led t) (n : Nat) : TabOk led (t.orStandIn n) := by
  unfold SetTable.orStandIn
  split
  · exact h
  · exact h.standIn n
theorem TabOk.unplain {led : Bool} {t : SetTable} (h : TabOk led t) : TabOk led { t with plain := false } := ⟨h.led, h.rise, h.nod⟩
theorem has_none (j : Nat) : SetTable.has #[] j = false := by simp [SetTable.has]
theorem slot_nodummy {t : SetTable} (h : t.dummies = #[]) (j : Nat) : t.slot j ≠ .dummy := by
  unfold SetTable.slot
  rw [h, has_none]
  dsimp only
  split
  · intro e; cases e
  · intro e; simp at e
theorem slot_empty {t : SetTable} {j : Nat} (h : t.slot j = .empty) : t.place[SetTable.below t.place j]? ≠ some j := by
  intro e
  unfold SetTable.slot at h
  simp [e] at h
theorem adv_dummy {t : SetTable} {p : SetTable.Probe} (h : p.dummy = none) : (t.advance p).dummy = none := by
  unfold SetTable.advance
  split <;> exact h
theorem probe_go {t : SetTable} (hn : t.dummies = #[]) {hashAt : Nat → Int} {h : Int} : ∀ (fuel : Nat) (p : SetTable.Probe), p.dummy = none → ∀ j d, SetTable.probe.go t hashAt h fuel p = some (.empty j d) → d = none ∧ t.slot j = .empty
  | 0, p, _, j, d, e => by simp [SetTable.probe.go] at e
  | fuel + 1, p, hp, j, d, e => by
    unfold SetTable.probe.go at e
    cases hs : t.slot p.j with
    | empty =>
      rw [hs] at e
      simp at e
      obtain ⟨rfl, rfl⟩ := e
      exact ⟨hp, hs⟩
    | dummy => exact absurd hs (slot_nodummy hn _)
    | live i =>
      rw [hs] at e
      dsimp only at e
      split at e
      · cases e
      · exact probe_go hn fuel _ (adv_dummy hp) j d e
theorem free_ok {t : SetTable} (hn : t.dummies = #[]) {h : Int} {s : Nat} {b : Bool} (e : t.freeSlot h = some (s, b)) : t.slot s = .empty := by
  unfold SetTable.freeSlot SetTable.probe at e
  split at e
  · rename_i j d hq
    obtain ⟨rfl, h2⟩ := probe_go hn _ _ rfl j d hq
    simp at e
    obtain ⟨rfl, rfl⟩ := e
    exact h2
  · cases e
theorem TabOk.put {led : Bool} {t : SetTable} (h : TabOk led t) {j : Nat} (hs : t.slot j = .empty) : TabOk led (t.put j).1 := by
  refine ⟨h.led, rise_insert h.rise (not_mem_of_slot h.rise (slot_empty hs)), ?_⟩
  show (if SetTable.has t.dummies j then _ else t.dummies) = #[]
  rw [h.nod, has_none]
  rfl
theorem TabOk.layNew {led : Bool} {t : SetTable} (h : TabOk led t) (es : Array (Int × Value)) (k : Int) (x : Value) : TabOk led (layNew t es k x).2.1 := by
  unfold PySem.layNew
  split
  · rename_i s b hq
    exact (h.put (free_ok h.nod hq)).orStandIn _
  · exact h.standIn _
theorem laid_rise {mask finger moves : Nat} {led plain : Bool} {hashes : Array Int} {t : SetTable} {o : Array Nat} (e : SetTable.laid mask finger moves led plain hashes = some (t, o)) : TabOk led t := by
  unfold SetTable.laid at e
  cases hq : SetTable.layClean mask hashes with
  | none => rw [hq] at e; cases e
  | some owner =>
    rw [hq] at e
    have e' := Option.some.inj e
    have e1 := (Prod.mk.inj e').1
    subst e1
    refine ⟨rfl, ?_, rfl⟩
    show List.Pairwise (· < ·) (((List.range (mask + 1)).filterMap fun j => (owner.getD j none).map (j, ·)).map (·.1)).toArray.toList
    rw [List.map_filterMap]
    have hs : ∀ l : List Nat, (l.filterMap fun x => Option.map (fun x => x.1) ((owner.getD x none).map (x, ·))).Sublist l := by
      intro l
      induction l with
      | nil => exact .slnil
      | cons a r ih =>
        rw [List.filterMap_cons]
        cases owner.getD a none with
        | none => exact ih.cons _
        | some v => exact ih.cons₂ _
    exact (List.pairwise_lt_range (n := mask + 1)).sublist (hs _)
theorem TabOk.relayAll {led : Bool} {t : SetTable} (h : TabOk led t) (es : Array (Int × Value)) (n : Nat) : TabOk led (relayAll t es n).2.1 := by
  unfold PySem.relayAll
  split
  · rename_i t' o hq
    dsimp only
    split
    · have := laid_rise hq
      rw [h.led] at this
      exact this
    · exact h.standIn _
  · exact h.standIn _
end L2
namespace L2
open PySem
theorem paired_perm {α β : Type} {R : α → β → Prop} {l2 l2' : List β} (p : l2.Perm l2') : ∀ {l1 : List α}, Paired R l1 l2 → ∃ l1', l1.Perm l1' ∧ Paired R l1' l2' := by
  induction p with
  | nil => intro l1 h; exact ⟨l1, .refl _, h⟩
  | cons x _ ih =>
    intro l1 h
    cases h with
    | cons r t => obtain ⟨l, p, q⟩ := ih t; exact ⟨_ :: l, p.cons _, .cons r q⟩
  | swap x y l =>
    intro l1 h
    cases h with
    | cons r t => cases t with | cons r' t' => exact ⟨_, .swap _ _ _, .cons r' (.cons r t')⟩
  | trans _ _ ih1 ih2 =>
    intro l1 h
    obtain ⟨l, p, q⟩ := ih1 h
    obtain ⟨l', p', q'⟩ := ih2 q
    exact ⟨l', p.trans p', q'⟩
theorem paired_len {α β : Type} {R : α → β → Prop} : ∀ {xs : List α} {ys : List β}, Paired R xs ys → xs.length = ys.length
  | _, _, .nil => rfl
  | _, _, .cons _ t => by rw [List.length_cons, List.length_cons, paired_len t]
theorem paired_append {α β : Type} {R : α → β → Prop} : ∀ {xs : List α} {ys : List β} {a : α} {b : β}, Paired R xs ys → R a b → Paired R (xs ++ [a]) (ys ++ [b])
  | _, _, _, _, .nil, r => .cons r .nil
  | _, _, _, _, .cons q t, r => .cons q (paired_append t r)
section
variable {prog : Program} {w : World} {K : Type} [DecidableEq K] (knd : KeyKind prog w K)
/-- the set at a has just these keys -/
def SetW (h : Heap) (a : Addr) (ks : List K) : Prop :=
  ∃ o es ep t, h.get? a = some o ∧ o.ExactSet ∧ o.data = .set es ep t ∧ ElemsOf knd es.toList ∧ Paired (fun (k : K) (e : Int × Value) => knd.is k e.2 = true) ks es.toList ∧ ks.Nodup ∧
    es.size < scanBound ∧ t.fits es.size = true ∧ TabOk (!w.params.followText "set-order") t
variable {knd}
variable {A : Around} {E : Value → Shared → Prop} {s : Shared}
theorem SetW.at' {h h' : Heap} {a : Addr} {ks : List K} (x : SetW knd h a ks) (k : ∀ o, h.get? a = some o → h'.get? a = some o) : SetW knd h' a ks := by
  obtain ⟨o, es, ep, t, ho, r⟩ := x
  exact ⟨o, es, ep, t, k o ho, r⟩
theorem SetW.typeIs {a : Addr} {ks : List K} (x : SetW knd s.heap a ks) : s.TypeIs (.ref a) "set" := by
  obtain ⟨o, es, ep, t, ho, hx, r⟩ := x
  exact ⟨o, ho, hx.1⟩
theorem key_in {ks : List K} : ∀ {es : List (Int × Value)}, Paired (fun (k : K) (e : Int × Value) => knd.is k e.2 = true) ks es → ∀ k, k ∈ ks ↔ ∃ e ∈ es, knd.is k e.2 = true := by
  induction ks with
  | nil => intro es h k; cases h; simp
  | cons a r ih =>
    intro es h k
    cases h with
    | @cons _ b _ t r' p =>
      rw [List.mem_cons, ih p k]
      constructor
      · rintro (rfl | ⟨e, he, hk⟩)
        · exact ⟨b, List.mem_cons_self, r'⟩
        · exact ⟨e, List.mem_cons_of_mem _ he, hk⟩
      · rintro ⟨e, he, hk⟩
        rcases List.mem_cons.mp he with rfl | he
        · exact .inl (knd.inj _ _ _ hk r')
        · exact .inr ⟨e, he, hk⟩
theorem store_setW {h : Heap} {a : Addr} {o : Obj} {es : Array (Int × Value)} {ep : Nat} {t : SetTable} (ho : h.get? a = some o) (hex : o.ExactSet) (hd : o.data = .set es ep t)
    {es' : Array (Int × Value)} {t' : SetTable} {ks : List K} (hel : ElemsOf knd es'.toList) (hp : Paired (fun (k : K) (e : Int × Value) => knd.is k e.2 = true) ks es'.toList) (hn : ks.Nodup) (hb : es'.size < scanBound) (hf : t'.fits es'.size = true)
    (ht : TabOk (!w.params.followText "set-order") t') :
    (h.update a (Obj.putSet es' t')).get? a = some { o with data := .set es' (ep + 1) t' } ∧ SetW knd (h.update a (Obj.putSet es' t')) a ks := by
  have hg : (h.update a (Obj.putSet es' t')).get? a = some { o with data := .set es' (ep + 1) t' } := by
    have := Heap.get?_update_self (Obj.putSet es' t') ho (by rw [putSet_of es' t' hd]; rfl)
    rw [putSet_of es' t' hd] at this; exact this
  exact ⟨hg, _, es', ep + 1, t', hg, hex, rfl, hel, hp, hn, hb, hf, ht⟩
theorem tail_setW {g : Bool → Sem Unit} (hg : ∀ (b : Bool) (s₁ : Shared) (Q' : Unit → Shared → Prop), Q' () s₁ → wpAny (model prog w) A (g b) Q' E s₁)
    {a : Addr} {o : Obj} {es : Array (Int × Value)} {ep : Nat} {t : SetTable} (ho : s.heap.get? a = some o) (hex : o.ExactSet) (hd : o.data = .set es ep t)
    {es1 : Array (Int × Value)} {t2 : SetTable} {ks : List K} (hel1 : ElemsOf knd es1.toList) (hp1 : Paired (fun (k : K) (e : Int × Value) => knd.is k e.2 = true) ks es1.toList) (hn1 : ks.Nodup)
    (hb1 : es1.size < scanBound) (hf2 : t2.fits es1.size = true) (ht2 : TabOk (!w.params.followText "set-order") t2) {wasDummy : Bool} {R : Option Bool → Shared → Prop}
    (h : ∀ h' ks', Heap.SameBut a s.heap h' → ks.Perm ks' → SetW knd h' a ks' → R (some true) { s with heap := h' }) :
    wpAny (model prog w) A (do
        storeSet a es1 t2
        if (!wasDummy && t2.tooFull) = true then do
            g (relayAll t2 es1 (SetTable.grown es1.size)).2.2
            storeSet a (relayAll t2 es1 (SetTable.grown es1.size)).1 (relayAll t2 es1 (SetTable.grown es1.size)).2.1
            pure (some true)
          else pure (some true)) R E s := by
  refine wpAny_bind (wpAny_storeSet_of ho hd ?_ (fits_of_scanBound hb1))
  obtain ⟨ho1, hS1⟩ := store_setW (knd := knd) ho hex hd hel1 hp1 hn1 hb1 hf2 ht2
  have hsb1 := Heap.SameBut.update s.heap a (Obj.putSet es1 t2)
  split
  · have hp := relayAll_perm t2 es1 (SetTable.grown es1.size)
    have hfr := relayAll_fits t2 es1 (SetTable.grown es1.size)
    have htr := ht2.relayAll es1 (SetTable.grown es1.size)
    generalize hRl : relayAll t2 es1 (SetTable.grown es1.size) = Rl at hp hfr htr ⊢
    obtain ⟨es2, t3, gave2⟩ := Rl
    dsimp only at hp hfr htr ⊢
    have hel2 : ElemsOf knd es2.toList := hel1.perm hp
    obtain ⟨ks2, pk, hp2⟩ := paired_perm hp.symm hp1
    have hsz : es2.size = es1.size := by rw [← Array.length_toList, hp.length_eq, Array.length_toList]
    have hb2 : es2.size < scanBound := by rw [hsz]; exact hb1
    refine wpAny_bind (hg _ _ _ ?_)
    refine wpAny_bind (wpAny_storeSet_of ho1 rfl ?_ (fits_of_scanBound hb2))
    obtain ⟨_, hS2⟩ := store_setW (knd := knd) ho1 hex rfl hel2 hp2 (pk.nodup_iff.mp hn1) hb2 hfr htr
    exact wpAny_pure (h _ _ (hsb1.trans (Heap.SameBut.update _ a _)) pk hS2)
  · exact wpAny_pure (h _ _ hsb1 (.refl _) hS1)
/-- what an added key makes of the keys -/
def Added (ks : List K) (k : K) (ks' : List K) : Prop := (k ∈ ks ∧ ks' = ks) ∨ (k ∉ ks ∧ (ks ++ [k]).Perm ks')
theorem Added.mem {ks ks' : List K} {k : K} (h : Added ks k ks') (x : K) : x ∈ ks' ↔ x ∈ ks ∨ x = k := by
  rcases h with ⟨a, rfl⟩ | ⟨_, p⟩
  · exact ⟨.inl, fun z => z.elim id (fun e => e ▸ a)⟩
  · rw [← p.mem_iff, List.mem_append, List.mem_singleton]
theorem Added.len {ks ks' : List K} {k : K} (h : Added ks k ks') : ks'.length ≤ ks.length + 1 := by
  rcases h with ⟨a, rfl⟩ | ⟨_, p⟩
  · exact Nat.le_succ _
  · rw [← p.length_eq, List.length_append]; exact Nat.le_refl _
theorem add_setW {a : Addr} {ks : List K} {k : K} {x : Value} {Q : Bool → Shared → Prop} (hkey : knd.is k x = true) (hsc : x.scannable = true) (hS : SetW knd s.heap a ks) (hroom : ks.length + 1 < scanBound)
    (h : ∀ b h' ks', Heap.SameBut a s.heap h' → SetW knd h' a ks' → Added ks k ks' → Q b { s with heap := h' }) :
    wpAny (model prog w) A (setAddHashed a x (knd.hash k)) Q E s := by
  obtain ⟨o, es, ep, t, ho, hex, hd, hel, hpr, hnd, hb, hf, ht⟩ := hS
  have hmem := key_in (knd := knd) hpr
  have hlen : ks.length = es.size := by rw [paired_len hpr]; simp
  have hb1 : es.size + 1 < scanBound := by omega
  unfold setAddHashed setAddHashedIn
  refine wpAny_holding (wpAny_bind (wpAny_setState_of ho hd hf ?_))
  dsimp only
  rw [byScan_of hsc hb hel]
  simp only [↓reduceIte]
  unfold setAddByScan
  refine wpAny_bind ?_
  refine wpAny_bind (wpAny_rule ?_)
  refine wpAny_bind (wpAny_setScan_of hkey ho hd hf hel ?_)
  cases hr : List.findIdx? (fun e => knd.is k e.2) es.toList with
  | some j =>
    dsimp only
    obtain ⟨hj, hpj, _⟩ := List.findIdx?_eq_some_iff_getElem.mp hr
    have hSk : k ∈ ks := (hmem k).mpr ⟨es.toList[j], List.getElem_mem hj, hpj⟩
    refine wpAny_pure (wpAny_pure ?_)
    have e : s = { s with heap := s.heap } := by cases s; rfl
    rw [e]
    exact h _ s.heap ks (Heap.SameBut.refl a s.heap) ⟨o, es, ep, t, ho, hex, hd, hel, hpr, hnd, hb, hf, ht⟩ (.inl ⟨hSk, rfl⟩)
  | none =>
    dsimp only
    have hSk : k ∉ ks := by
      intro hk
      obtain ⟨e, he, hp⟩ := (hmem k).mp hk
      have := List.findIdx?_eq_none_iff.mp hr e he; rw [hp] at this; exact Bool.noConfusion this
    have hgw : ∀ (b : Bool) {s₁ : Shared} {Q' : Unit → Shared → Prop}, Q' () s₁ → wpAny (model prog w) A (match b with | true => rule "set.scan.the-table-gave-way" | false => pure ()) Q' E s₁ :=
      fun b s₁ Q' hq => by cases b <;> first | exact wpAny_pure hq | exact wpAny_rule hq
    have hperm := layNew_perm t es (knd.hash k) x
    have hfits := layNew_fits t es (knd.hash k) x
    have htab := ht.layNew es (knd.hash k) x
    generalize hL : layNew t es (knd.hash k) x = L at hperm hfits htab ⊢
    obtain ⟨es1, t1, wasDummy, gave⟩ := L
    dsimp only at hperm hfits htab ⊢
    rw [Array.toList_push] at hperm
    have hel1 : ElemsOf knd es1.toList := (hel.push hkey hsc).perm hperm
    obtain ⟨ks1, pk, hp1⟩ := paired_perm hperm.symm (paired_append hpr (a := k) (b := (knd.hash k, x)) hkey)
    have hn1 : ks1.Nodup := pk.nodup_iff.mp (by
      rw [List.nodup_append]
      exact ⟨hnd, by simp, fun a ha b hb e => by simp at hb; subst hb; subst e; exact hSk ha⟩)
    have hb1' : es1.size < scanBound := by rw [← Array.length_toList, hperm.length_eq, List.length_append, Array.length_toList]; simpa using hb1
    refine wpAny_bind (hgw _ ?_)
    have hend : ∀ h' ks', Heap.SameBut a s.heap h' → ks1.Perm ks' → SetW knd h' a ks' → Q true { s with heap := h' } := by
      intro h' ks' hsb p hS'; exact h true h' ks' hsb hS' (.inr ⟨hSk, pk.trans p⟩)
    split
    · refine wpAny_bind ?_
      rw [hashByValue_scannable 8 hsc]
      refine wpAny_pure ?_
      refine tail_setW ?_ ho hex hd hel1 hp1 hn1 hb1' ?_ ?_ ?_
      · intro b s₁ Q' hq; cases b <;> first | exact wpAny_pure hq | exact wpAny_rule hq
      · split
        · exact hfits
        · exact SetTable.fits_plain_off hfits
      · split
        · exact htab
        · exact htab.unplain
      · intro h' ks' hsb p hS'; dsimp only; exact wpAny_pure (hend h' ks' hsb p hS')
    · refine wpAny_bind (wpAny_pure ?_)
      simp only [↓reduceIte]
      refine tail_setW ?_ ho hex hd hel1 hp1 hn1 hb1' hfits htab ?_
      · intro b s₁ Q' hq; cases b <;> first | exact wpAny_pure hq | exact wpAny_rule hq
      · intro h' ks' hsb p hS'; dsimp only; exact wpAny_pure (hend h' ks' hsb p hS')
end
end L2
namespace L2
open PySem PySem.Spec PyProof.Rows
section
variable {prog : Program} {w : World} {K : Type} [DecidableEq K] {knd : KeyKind prog w K}
/-- ks: the keys of the first i -/
def Dedup (val : Nat → K) (i : Nat) (ks : List K) : Prop := (∀ k, k ∈ ks ↔ ∃ j, j < i ∧ val j = k) ∧ ks.length ≤ i
theorem dedup_zero (val : Nat → K) : Dedup val 0 [] := ⟨fun k => ⟨(fun h => nomatch h), fun ⟨j, hj, _⟩ => absurd hj (Nat.not_lt_zero _)⟩, Nat.le_refl _⟩
theorem Dedup.add {val : Nat → K} {i : Nat} {ks ks' : List K} (h : Dedup val i ks) (a : Added ks (val i) ks') : Dedup val (i + 1) ks' := by
  refine ⟨fun k => ?_, Nat.le_trans a.len (Nat.succ_le_succ h.2)⟩
  rw [a.mem, h.1]
  constructor
  · rintro (⟨j, hj, e⟩ | rfl)
    · exact ⟨j, Nat.lt_succ_of_lt hj, e⟩
    · exact ⟨i, Nat.lt_succ_self _, rfl⟩
  · rintro ⟨j, hj, e⟩
    rcases Nat.lt_succ_iff_lt_or_eq.mp hj with hj | rfl
    · exact .inl ⟨j, hj, e⟩
    · exact .inr e.symm
variable {A : Around} {R : Result → Shared → Prop} {I : Addr} {fp wr : List Addr} {G : Array GenState → Array GenState → Prop} {n : Nat} {P : Nat → Value → Prop} {St : Nat → Shared → Prop}
theorem set_update_loop (W : WalksS prog w A.in1 I fp wr G n P St) (S : Addr) (hSf : S ∉ fp)
    (val : Nat → K) (hval : ∀ i v, P i v → knd.is (val i) v = true ∧ v.scannable = true) (hb : n + 1 < scanBound) :
    ∀ (k i : Nat) (s : Shared) (ks : List K), n - i = k → i ≤ n → St i s → SetW knd s.heap S ks → Dedup val i ks →
      (∀ s' ks', Moved (S :: wr) G s s' → SetW knd s'.heap S ks' → Dedup val n ks' → R (.ok (.ret .none)) s') →
      codeAny (model prog w) A (.builtin "set.update.loop" ⟨[.ref S, .ref I], []⟩) R s := by
  have hSw : S ∉ wr := fun h => hSf (W.sub _ h)
  have hsub : ∀ b ∈ wr, b ∈ S :: wr := fun b hb => List.mem_cons_of_mem _ hb
  intro k
  induction k with
  | zero =>
    intro i s ks hk hi hst hS hD hR
    have hin : i = n := by omega
    subst hin
    refine codeAny_builtin F.entry_set_update_loop ?_
    rw [Around.under_plainId F.plain_set_update_loop _]
    show wpAny _ A.in1 (pyNext (.ref I) >>= _) _ _ s
    refine wpAny_bind (W.done s _ _ hst fun s' hm => ?_)
    show wpAny _ A.in1 (ret Value.none) _ _ s'
    exact wpAny_pure (hR s' ks (hm.mono hsub) (hS.at' fun o e => hm.heap S _ hSw e) hD)
  | succ k ih =>
    intro i s ks hk hi hst hS hD hR
    have hlt : i < n := by omega
    refine codeAny_builtin F.entry_set_update_loop ?_
    rw [Around.under_plainId F.plain_set_update_loop _]
    show wpAny _ A.in1 (pyNext (.ref I) >>= _) _ _ s
    refine wpAny_bind (W.item i s _ _ hlt hst fun v s' hP hst' hm => ?_)
    obtain ⟨hkv, hsc⟩ := hval i v hP
    have hS' : SetW knd s'.heap S ks := hS.at' fun o e => hm.heap S _ hSw e
    show wpAny _ A.in1 (holding [v] (setAdd S v) >>= _) _ _ s'
    refine wpAny_bind (wpAny_holding ?_)
    unfold setAdd
    refine wpAny_holding ?_
    refine wpAny_bind (knd.pyHash (k := val i) hkv ?_)
    have hroom : ks.length + 1 < scanBound := by have := hD.2; omega
    refine add_setW (knd := knd) (s := { s' with toks := s'.toks + 1 }) hkv hsc hS' hroom fun b h' ks' hsb hS2 ha => ?_
    refine wpAny_pure ⟨plainId_quiet F.plain_set_update_loop _, ih (i + 1) _ ks' (by omega) hlt (W.frame _ s' _ _ hst' (Nat.le_succ _) fun b hb o e => ?_) hS2 (hD.add ha) fun s'' ks'' hm'' hS'' hD'' => ?_⟩
    · rw [hsb.2 b (fun h : b = S => hSf (by rw [← h]; exact hb))]; exact e
    · refine hR s'' ks'' (Moved.trans W.gtrans ((hm.mono hsub).then_heap (Nat.le_succ _) fun b o hb e => ?_) hm'') hS'' hD''
      rw [hsb.2 b (fun h : b = S => hb (by rw [h]; exact List.mem_cons_self))]; exact e
variable {E : Value → Shared → Prop} {s : Shared}
theorem set_new_1 (a : Value) {Q₁ : Value → Shared → Prop}
    (h : Q₁ (.ref s.heap.objs.size) { s with heap := s.heap.push { cls := .type "set", dict := none, data := .set #[] 0 (.fresh 0 0 (!w.params.followText "set-order")) } }) :
    codeAny (model prog w) A (.call (.builtin "set.__new__") ⟨[.type "set", a], []⟩) (wants Q₁ E) s := by
  refine codeAny_of_tree ?_
  show wpAny _ A.in1 (do checkBuiltinCall "set.__new__" ⟨[.type "set", a], []⟩; again (.builtin "set.__new__" ⟨[.type "set", a], []⟩)) _ _ s
  refine wpAny_bind (wpAny_of_eq (PySem.F.newCall_set_1 a) (wpAny_pure ⟨plainId_quiet PySem.F.plain_set_new _, codeAny_builtin PySem.F.entry_set_new ?_⟩))
  rw [Around.under_plainId PySem.F.plain_set_new _]
  unfold Builtin.«set.__new__» Builtin.Frozenset.newClass
  have hsub := sub_set_self
  obtain ⟨hp, g, d, tk, os⟩ := s
  dsimp only
  wp_walk
  refine wpAny_askSetting (wpAny_pure ?_)
  dsimp only
  simp only [newObj]
  refine wpAny_bind (wpAny_alloc (wpAny_pure ?_))
  exact wpAny_pure h
theorem setW_fresh {h : Heap} : SetW knd (h.push { cls := .type "set", dict := none, data := .set #[] 0 (.fresh 0 0 (!w.params.followText "set-order")) }) h.objs.size [] :=
  ⟨_, #[], 0, _, Heap.get?_push_size _ rfl, ⟨rfl, rfl, rfl⟩, rfl, fun e he => by simp at he, .nil, List.nodup_nil, by decide, by rfl, ⟨rfl, by simp [Rise, SetTable.fresh], rfl⟩⟩
set_option maxHeartbeats 3200000 in
theorem call_set_keys {l : Addr} {items : Array Value} {val : Nat → K} {Q : Value → Shared → Prop}
    (hh : A.handled = none) (hl : s.heap.IsList l items) (hi : ∀ i v, items[i]? = some v → knd.is (val i) v = true ∧ v.scannable = true) (hb : items.size + 1 < scanBound)
    (h : ∀ (h' : Heap) (tk : Nat) (ks : List K), SetW knd h' s.heap.objs.size ks → Dedup val items.size ks →
      (∀ b o, b < s.heap.objs.size → s.heap.get? b = some o → h'.get? b = some o) → Q (.ref s.heap.objs.size) { s with heap := h', toks := tk }) :
    wpAny (model prog w) A (call (.type "set") [.ref l]) Q E s := by
  obtain ⟨c, tl, hmro⟩ := PySem.F.called_set.mro
  have hmade := PySem.F.called_set.made
  have hsub := PySem.F.called_set.sub
  refine wpAny_call (codeAny_of_tree ?_)
  show wpAny _ _ (callAny (.type "set") _) _ _ _
  refine wpAny_pure ⟨Code.quiet_builtin _ (by decide +kernel), codeAny_builtin PySem.F.entry_type_call ?_⟩
  rw [Around.under_plain (weight_type_call_type "set" [.ref l] []) rfl]
  have h1 := PySem.F.called_set.notType
  have h2 := PySem.F.called_set.canCreate
  have hct := PySem.F.typeCall_set_1 (.ref l)
  repeat (any_goals (first | assumption | wp_step))
  refine codeAny_mono (set_new_1 (.ref l) (E := E) (Q₁ := fun obj s₁ => obj = .ref s.heap.objs.size ∧ s₁ = { s with heap := s.heap.push { cls := .type "set", dict := none, data := .set #[] 0 (.fresh 0 0 (!w.params.followText "set-order")) } }) ⟨rfl, rfl⟩) fun r s₁ hr => ?_
  cases r with
  | error e => exact hr
  | ok fl =>
    cases fl with
    | ret obj =>
      obtain ⟨rfl, rfl⟩ := hr
      generalize hled : (!w.params.followText "set-order") = led at *
      have hS : (s.heap.push { cls := .type "set", dict := none, data := .set #[] 0 (.fresh 0 0 led) }).get? s.heap.objs.size = some { cls := .type "set", dict := none, data := .set #[] 0 (.fresh 0 0 led) } := Heap.get?_push_size _ rfl
      have hT : Shared.TypeIs { s with heap := s.heap.push { cls := .type "set", dict := none, data := .set #[] 0 (.fresh 0 0 led) } } (.ref s.heap.objs.size) "set" := ⟨_, hS, rfl⟩
      have hli := PySem.F.called_set.init.lookup
      have hbi := PySem.F.called_set.init.bind (.ref s.heap.objs.size)
      repeat (any_goals (first | assumption | wp_step))
      refine codeAny_mono (codeAny_call_builtin (R := wants (fun r s₂ => r = .none ∧ ∃ h' tk ks, s₂ = { s with heap := h', toks := tk } ∧
          SetW knd h' s.heap.objs.size ks ∧ Dedup val items.size ks ∧
          (∀ b o, b < s.heap.objs.size → s.heap.get? b = some o → h'.get? b = some o)) E) PySem.F.called_set.init.plain PySem.F.entry_set_init (check_set_init_1 hT ?_)) fun r₂ s₂ hr₂ => ?_
      · obtain ⟨ol, hol, hcl, nl, hdl⟩ := hl
        obtain ⟨ocls, odict, odata, oslots⟩ := ol
        simp only at hcl hdl
        subst hcl; subst hdl
        have hol' : (s.heap.push { cls := .type "set", dict := none, data := .set #[] 0 (.fresh 0 0 led) }).get? l = some { cls := .type "list", dict := odict, data := .seq items nl, slots := oslots } := Heap.get?_push_of_some _ hol
        have hsls := PySem.F.sub_list_set
        have hslf := PySem.F.sub_list_frozenset
        have hne : (Value.type "list" == Value.type "dict") = false := by decide
        have hl1 : (s.heap.push { cls := .type "set", dict := none, data := .set #[] 0 (.fresh 0 0 led) }).IsList l items := ⟨_, hol', rfl, nl, rfl⟩
        unfold Builtin.«set.__init__» noKeywords Builtin.Frozenset.updateFrom
        generalize hPI : pyIter = PI
        wp_walk
        subst hPI
        refine wpAny_pyIter_list hl1 ?_
        refine wpAny_bind (wpAny_runValue ?_)
        have hlS : l < s.heap.objs.size := Heap.lt_size hol
        have hh3 : A.in1.in1.in1.handled = none := by simp [hh]
        have hneI : l ≠ (s.heap.push { cls := .type "set", dict := none, data := .set #[] 0 (.fresh 0 0 led) }).objs.size := by
          rw [Heap.size_push]; exact Nat.ne_of_lt (Nat.lt_succ_of_lt hlS)
        have hSf : s.heap.objs.size ∉ [(s.heap.push { cls := .type "set", dict := none, data := .set #[] 0 (.fresh 0 0 led) }).objs.size, l] := by
          rw [Heap.size_push]; simp only [List.mem_cons, List.mem_singleton, List.not_mem_nil, or_false, not_or]
          exact ⟨Nat.ne_of_lt (Nat.lt_succ_self _), Nat.ne_of_gt hlS⟩
        refine set_update_loop (knd := knd) ((Walks.list hh3 _ l hneI items).toS) s.heap.objs.size
          hSf val hi hb (items.size - 0) 0 _ [] (by omega) (Nat.zero_le _)
          ⟨⟨_, Heap.get?_push_size _ rfl, rfl, rfl⟩, (hl1.push _)⟩ ?hS0 (dedup_zero val) ?hR
        case hS0 =>
          refine SetW.at' (h := s.heap.push { cls := .type "set", dict := none, data := .set #[] 0 (.fresh 0 0 led) }) (hled ▸ setW_fresh) fun o e => Heap.get?_push_of_some _ e
        case hR =>
          intro s' ks' hm hS' hD'
          obtain ⟨h', g', d', tk', os'⟩ := s'
          have eg : g' = s.gens := hm.gens
          have ed : d' = s.drawn := hm.drawn
          have eo : os' = s.os := hm.os
          subst eg; subst ed; subst eo
          show wpAny _ _ _ _ _ _
          refine wpAny_pure ?_
          show wpAny _ _ (ret Value.none) _ _ _
          refine wpAny_pure ⟨rfl, h', tk', ks', rfl, hS', hD', fun b o hb e => ?_⟩
          have hb1 : b ≠ s.heap.objs.size := Nat.ne_of_lt hb
          have hb2 : b ≠ (s.heap.push { cls := .type "set", dict := none, data := .set #[] 0 (.fresh 0 0 led) }).objs.size := by
            rw [Heap.size_push]; exact Nat.ne_of_lt (Nat.lt_succ_of_lt hb)
          exact hm.heap b o (by simp only [List.mem_cons, List.mem_singleton, List.not_mem_nil, or_false, not_or]; exact ⟨hb1, hb2⟩) (Heap.get?_push_of_some _ (Heap.get?_push_of_some _ e))
      · cases r₂ with
        | error e => exact hr₂
        | ok fl₂ =>
          cases fl₂ with
          | ret r =>
            obtain ⟨rfl, h', tk, ks, rfl, hS', hD', hk'⟩ := hr₂
            repeat (any_goals (first | assumption | wp_step))
            exact h _ _ _ hS' hD' hk'
          | _ => exact hr₂.elim
    | _ => exact hr.elim
end
end L2
namespace L2
open PySem PySem.Spec PyProof.Rows
theorem slot_setit_next : Slot "set_iterator" "__next__" "set_iterator.__next__" :=
  .of (owner := "set_iterator") (n := "__next__") (by rw [typeLookup_type, builtinLookup_eq_fast]; kernel_rfl) (by decide +kernel) (by decide +kernel) (by decide +kernel)
    (by first | exact .inl (by decide +kernel) | exact .inr (by decide +kernel)) (by rw [isSubtype_type]; kernel_rfl)
theorem entry_setit_next : entryFor table "set_iterator.__next__" = some Builtin.«set_iterator.__next__» := entryFor_of_tree (by kernel_rfl)
theorem owner_setit : Manifest.owners.lookup (String.ofList ['r', 'o', 't', 'a', 'r', 'e', 't', 'i', '_', 't', 'e', 's'].reverse) = some Manifest.sig_set_iterator := by kernel_rfl
theorem args_setit_next (a : Value) : argsOk "set_iterator.__next__" ⟨[a], []⟩ := by
  unfold argsOk; rw [signature?_of (id := "set_iterator.__next__") (n := ['_', '_', 't', 'x', 'e', 'n', '_', '_']) (o := ['r', 'o', 't', 'a', 'r', 'e', 't', 'i', '_', 't', 'e', 's']) (by kernel_rfl) owner_setit]; kernel_rfl
theorem slot_setit_iter : Slot "set_iterator" "__iter__" "set_iterator.__iter__" :=
  .of (owner := "set_iterator") (n := "__iter__") (by rw [typeLookup_type, builtinLookup_eq_fast]; kernel_rfl) (by decide +kernel) (by decide +kernel) (by decide +kernel)
    (by first | exact .inl (by decide +kernel) | exact .inr (by decide +kernel)) (by rw [isSubtype_type]; kernel_rfl)
theorem entry_setit_iter : entryFor table "set_iterator.__iter__" = some Builtin.«dict_keyiterator.__iter__» := entryFor_alias (id' := "dict_keyiterator.__iter__") (by kernel_rfl) rfl (by decide +kernel) (by kernel_rfl)
theorem args_setit_iter (a : Value) : argsOk "set_iterator.__iter__" ⟨[a], []⟩ := by
  unfold argsOk; rw [signature?_of (id := "set_iterator.__iter__") (n := ['_', '_', 'r', 'e', 't', 'i', '_', '_']) (o := ['r', 'o', 't', 'a', 'r', 'e', 't', 'i', '_', 't', 'e', 's']) (by kernel_rfl) owner_setit]; kernel_rfl
theorem entry_set_iter' : entryFor table "set.__iter__" = some Builtin.«frozenset.__iter__» := entryFor_alias (id' := "frozenset.__iter__") (by kernel_rfl) rfl (by decide +kernel) (by kernel_rfl)
theorem erase_perm {α : Type} : ∀ {l : List α} {i : Nat} (h : i < l.length), (l[i] :: l.eraseIdx i).Perm l
  | a :: r, 0, _ => .refl _
  | a :: r, i + 1, h => by
    have ih := erase_perm (l := r) (i := i) (by simpa using h)
    have h2 : ((a :: r)[i + 1] :: (a :: r).eraseIdx (i + 1)) = r[i]'(by simpa using h) :: a :: r.eraseIdx i := rfl
    rw [h2]
    exact (List.Perm.swap _ _ _).trans (ih.cons a)
theorem pick_go {α : Type} (next : Nat → Nat) : ∀ (fuel k : Nat) (left : List α) (out : Array α), left.length ≤ fuel → ∃ l : List α, (pickOrder.go next fuel k left out).toList = out.toList ++ l ∧ l.Perm left
  | 0, k, left, out, h => by
    have : left = [] := List.eq_nil_of_length_eq_zero (by omega)
    subst this
    exact ⟨[], by simp [pickOrder.go], .refl _⟩
  | fuel + 1, k, [], out, h => ⟨[], by simp [pickOrder.go], .refl _⟩
  | fuel + 1, k, a :: r, out, h => by
    unfold pickOrder.go
    have hlt : next k % (a :: r).length < (a :: r).length := Nat.mod_lt _ (by simp)
    rw [List.getElem?_eq_getElem hlt]
    dsimp only
    obtain ⟨l, e, p⟩ := pick_go next fuel (k + 1) ((a :: r).eraseIdx (next k % (a :: r).length)) (out.push (a :: r)[next k % (a :: r).length]) (by rw [List.length_eraseIdx_of_lt hlt]; simp at h ⊢; omega)
    refine ⟨(a :: r)[next k % (a :: r).length] :: l, by rw [e]; simp, ?_⟩
    exact (p.cons _).trans (erase_perm hlt)
theorem pick_perm {α : Type} (next : Nat → Nat) (xs : Array α) : (pickOrder next xs).toList.Perm xs.toList := by
  obtain ⟨l, e, p⟩ := pick_go next xs.size 0 xs.toList #[] (by simp)
  unfold pickOrder
  rw [e]
  simpa using p
theorem wpAny_choose {M : Model} {A : Around} {E : Value → Shared → Prop} {s : Shared} {src : Source} {n : Nat} {Q : Nat → Shared → Prop} (hn : n ≠ 0) (h : ∀ i d, i < n → Q i { s with drawn := d }) : wpAny M A (choose src n) Q E s := fun _ _ _ =>
  ⟨hn, h _ _ (Nat.mod_lt _ (Nat.pos_of_ne_zero hn))⟩
theorem wpAny_drawOrder {α : Type} {M : Model} {A : Around} {E : Value → Shared → Prop} : ∀ (n : Nat) (xs : List α) {s : Shared} {Q : List α → Shared → Prop}, xs.length ≤ n → (∀ l d, l.Perm xs → Q l { s with drawn := d }) → wpAny M A (drawOrder n xs) Q E s
  | 0, xs, s, Q, hl, h => by
    have : xs = [] := List.eq_nil_of_length_eq_zero (by omega)
    subst this
    have e : s = { s with drawn := s.drawn } := by cases s; rfl
    unfold drawOrder
    rw [e]
    exact wpAny_pure (h [] _ (.refl _))
  | n + 1, [], s, Q, hl, h => by
    have e : s = { s with drawn := s.drawn } := by cases s; rfl
    unfold drawOrder
    rw [e]
    exact wpAny_pure (h [] _ (.refl _))
  | n + 1, a :: r, s, Q, hl, h => by
    unfold drawOrder
    refine wpAny_bind (wpAny_choose (by simp) fun i d hi => ?_)
    rw [List.getElem?_eq_getElem hi]
    dsimp only
    refine wpAny_bind (wpAny_drawOrder n _ (by rw [List.length_eraseIdx_of_lt hi]; simp at hl ⊢; omega) fun l d' p => wpAny_pure ?_)
    exact h _ _ ((p.cons _).trans (erase_perm hi))
/-- an iterator over the set at a, which walks vs, at place i; tp: the drawn places -/
structure SetIt (w : World) (h : Heap) (it a tp : Addr) (vs : List Value) (i : Nat) : Prop where
  it : ∃ (o : Obj) (es : Array (Int × Value)) (ep : Nat) (t : SetTable) (first : Value) (oi : Obj), h.get? a = some o ∧ o.data = .set es ep t ∧ t.fits es.size = true ∧ TabOk (!w.params.followText "set-order") t ∧ vs.length = es.size ∧
    h.get? it = some oi ∧ oi.cls = .type "set_iterator" ∧ oi.data = .fields #[first, rawInt (i : Int), .ref a, rawInt (es.size : Int), rawInt (ep : Int)] ∧
    ((w.params.followText "set-order" = true ∧ first = rawInt 0 ∧ vs = (pickOrder (w.params.setOrder a ep) es).toList.map (·.2)) ∨
     (w.params.followText "set-order" = false ∧ ∃ (ps : List Nat) (ot : Obj), first = .ref tp ∧ h.get? tp = some ot ∧ ot.data = .seq (ps.map fun (p : Nat) => rawInt (p : Int)).toArray 0 ∧ Paired (fun (p : Nat) (v : Value) => (es[p]?).map (·.2) = some v) ps vs) ∨
     (w.params.followText "set-order" = false ∧ (!t.plain && decide (es.size > 1)) = false ∧ ∃ slot : Nat, first = rawInt (slot : Int) ∧ SetTable.below t.place slot = i ∧ vs = es.toList.map (·.2)))
theorem SetIt.typeIs {w : World} {s : Shared} {it a tp : Addr} {vs : List Value} {i : Nat} (x : SetIt w s.heap it a tp vs i) : s.TypeIs (.ref it) "set_iterator" := by
  obtain ⟨_, _, _, _, _, oi, _, _, _, _, _, h, c, _⟩ := x
  exact ⟨oi, h, c⟩
theorem SetIt.frame {w : World} {h h' : Heap} {it a tp : Addr} {vs : List Value} {i : Nat} (x : SetIt w h it a tp vs i) (k : ∀ b, b = it ∨ b = a ∨ b = tp → ∀ o, h.get? b = some o → h'.get? b = some o) : SetIt w h' it a tp vs i := by
  obtain ⟨o, es, ep, t, first, oi, h1, h2, h3, h4, h5, h6, h7, h8, h9⟩ := x
  refine ⟨o, es, ep, t, first, oi, k a (.inr (.inl rfl)) _ h1, h2, h3, h4, h5, k it (.inl rfl) _ h6, h7, h8, ?_⟩
  rcases h9 with z | ⟨z, ps, ot, z1, z2, z3⟩ | z
  · exact .inl z
  · exact .inr (.inl ⟨z, ps, ot, z1, k tp (.inr (.inr rfl)) _ z2, z3⟩)
  · exact .inr (.inr z)
section
variable {prog : Program} {w : World} {A : Around} {E : Value → Shared → Prop} {s : Shared}
theorem get_mapFields {h : Heap} {a : Addr} {o : Obj} {vs : Array Value} {i : Nat} {x : Value} (ho : h.get? a = some o) (hd : o.data = .fields vs) : ∃ o', (h.update a (Obj.mapFields (·.setIfInBounds i x))).get? a = some o' ∧ o'.cls = o.cls ∧ o'.data = .fields (vs.setIfInBounds i x) :=
  ⟨_, Heap.get?_update_self _ ho (Obj.isFreed_of_fields (Obj.data_mapFields hd _)), Obj.cls_mapFields .., Obj.data_mapFields hd _⟩
theorem paired_get {α β : Type} {R : α → β → Prop} : ∀ {xs : List α} {ys : List β}, Paired R xs ys → ∀ {i : Nat} {y : β}, ys[i]? = some y → ∃ x, xs[i]? = some x ∧ R x y
  | _, _, .nil, i, x, e => by simp at e
  | _, _, .cons r t, 0, x, e => by simp at e; subst e; exact ⟨_, rfl, r⟩
  | _, _, .cons r t, i + 1, x, e => by
    obtain ⟨y, h1, h2⟩ := paired_get t (i := i) (y := x) (by simpa using e)
    exact ⟨y, by simpa using h1, h2⟩
theorem setit_item {it a tp : Addr} {vs : List Value} {i : Nat} {x : Value} {Q : Option Value → Shared → Prop} (hne : a ≠ it) (hnt : tp ≠ it) (hit : SetIt w s.heap it a tp vs i) (hx : vs[i]? = some x)
    (hQ : ∀ h', SetIt w h' it a tp vs (i + 1) → Heap.SameBut it s.heap h' → Q (some x) { s with heap := h' }) : wpAny (model prog w) A (pyNext (.ref it)) Q E s := by
  have hT := hit.typeIs
  obtain ⟨o, es, ep, t, first, oi, h1, h2, h3, h4, h5, h6, h7, h8, h9⟩ := hit
  have hi : i < es.size := by
    rw [← h5]
    exact (List.getElem?_eq_some_iff.mp hx).1
  unfold pyNext
  refine wpAny_bind (wpAny_attempt (wpAny_callSpecial?_slot (name := Str.ofString "__next__") hT slot_setit_next
    (wpAny_call_entry slot_setit_next hT entry_setit_next ?_ (args_setit_next _))))
  unfold Builtin.«set_iterator.__next__»
  refine wpAny_bind (wpAny_pure ?_)
  dsimp only
  refine wpAny_bind (wpAny_fieldsOf h6 h8 ?_)
  show wpAny _ _ (setEntries a >>= _) _ _ s
  refine wpAny_bind (wpAny_setEntries_of h1 h2 h3 ?_)
  rw [if_neg (by simp)]
  have sb : ∀ (h' : Heap) (b : Addr) (o : Obj), Heap.SameBut it s.heap h' → b ≠ it → s.heap.get? b = some o → h'.get? b = some o := fun h' b o z hb e => (z.2 b hb).trans e
  rcases h9 with ⟨z1, rfl, rfl⟩ | ⟨z1, ps, ot, rfl, z3, z4, z5⟩ | ⟨z1, zd, slot, rfl, z3, rfl⟩
  · show wpAny _ _ (setNext a (0 : Int).toNat ((i : Int)).toNat ((ep : Int)).toNat >>= _) _ _ s
    refine wpAny_bind ?_
    unfold setNext
    refine wpAny_bind (wpAny_setState_of h1 h2 h3 ?_)
    dsimp only
    unfold setsByText
    refine wpAny_bind (wpAny_bind (wpAny_askSetting (wpAny_pure ?_)))
    show wpAny _ _ (if w.params.followText "set-order" = true then _ else _) _ _ s
    rw [if_pos z1]
    rw [if_neg (by simp)]
    refine wpAny_bind ?_
    unfold setWalk
    refine wpAny_bind (wpAny_setState_of h1 h2 h3 ?_)
    dsimp only
    unfold setsByText
    refine wpAny_bind (wpAny_bind (wpAny_askSetting (wpAny_pure ?_)))
    show wpAny _ _ (if w.params.followText "set-order" = true then _ else _) _ _ s
    rw [if_pos z1]
    refine wpAny_bind (wpAny_askSetting (wpAny_pure ?_))
    refine wpAny_pure ?_
    have ex : ((pickOrder (w.params.setOrder a ep) es)[((i : Int)).toNat]?).map (fun e => (e.2, (0 : Int).toNat)) = some (x, 0) := by
      rw [List.getElem?_map] at hx
      rw [Int.toNat_natCast, ← Array.getElem?_toList]
      cases e : (pickOrder (w.params.setOrder a ep) es).toList[i]? with
      | none => rw [e] at hx; cases hx
      | some y => rw [e] at hx; simp at hx; subst hx; rfl
    show wpAny _ _ (match ((pickOrder (w.params.setOrder a ep) es)[((i : Int)).toNat]?).map (fun e => (e.2, (0 : Int).toNat)) with | some (x, next) => _ | none => _) _ _ s
    rw [ex]
    dsimp only
    refine wpAny_bind (wpAny_setField h6 h8 (by simp) ?_)
    obtain ⟨o1, g1, c1, d1⟩ := get_mapFields (i := 0) (x := rawInt ((0 : Nat) : Int)) h6 h8
    refine wpAny_bind (wpAny_setField (s := { s with heap := _ }) g1 d1 (by simp) ?_)
    obtain ⟨o2, g2, c2, d2⟩ := get_mapFields (i := 1) (x := rawInt ((i : Int) + 1)) g1 d1
    have S := (Heap.SameBut.update s.heap it (Obj.mapFields (·.setIfInBounds 0 (rawInt ((0 : Nat) : Int))))).trans (Heap.SameBut.update _ it (Obj.mapFields (·.setIfInBounds 1 (rawInt ((i : Int) + 1)))))
    refine wpAny_pure ⟨x, rfl, wpAny_pure (hQ _ ?_ S)⟩
    exact ⟨o, es, ep, t, rawInt 0, o2, sb _ _ _ S hne h1, h2, h3, h4, h5, g2, c2.trans (c1.trans h7), by rw [d2]; simp, .inl ⟨z1, rfl, rfl⟩⟩
  · obtain ⟨p, hp, hv⟩ := paired_get z5 hx
    show wpAny _ _ (seqItems? (.ref tp) >>= _) _ _ s
    refine wpAny_bind (wpAny_seqItems z3 z4 ?_)
    dsimp only
    have ex : (ps.map fun (p : Nat) => rawInt (p : Int)).toArray[((i : Int)).toNat]? = some (.int (p : Int) 0) := by
      rw [Int.toNat_natCast]
      simp [hp, rawInt]
    show wpAny _ _ (match (ps.map fun (p : Nat) => rawInt (p : Int)).toArray[((i : Int)).toNat]? with | some (.int place _) => _ | some _ => _ | none => _) _ _ s
    rw [ex]
    dsimp only
    refine wpAny_bind ?_
    unfold setNextDrawn
    refine wpAny_bind (wpAny_setState_of h1 h2 h3 ?_)
    dsimp only
    rw [if_neg (by simp)]
    cases e : es[p]? with
    | none => rw [e] at hv; cases hv
    | some y =>
      rw [e] at hv
      have hv' : y.2 = x := Option.some.inj hv
      subst hv'
      rw [Int.toNat_natCast, e]
      refine wpAny_pure ?_
      refine wpAny_bind (wpAny_setField h6 h8 (by simp) ?_)
      obtain ⟨o2, g2, c2, d2⟩ := get_mapFields (i := 1) (x := rawInt ((i : Int) + 1)) h6 h8
      have S := Heap.SameBut.update s.heap it (Obj.mapFields (·.setIfInBounds 1 (rawInt ((i : Int) + 1))))
      refine wpAny_pure ⟨y.2, rfl, wpAny_pure (hQ _ ?_ S)⟩
      exact ⟨o, es, ep, t, .ref tp, o2, sb _ _ _ S hne h1, h2, h3, h4, h5, g2, c2.trans h7, by rw [d2]; simp, .inr (.inl ⟨z1, ps, ot, rfl, sb _ _ _ S hnt z3, z4, z5⟩)⟩
  · show wpAny _ _ (setNext a ((slot : Int)).toNat ((i : Int)).toNat ((ep : Int)).toNat >>= _) _ _ s
    refine wpAny_bind ?_
    unfold setNext
    refine wpAny_bind (wpAny_setState_of h1 h2 h3 ?_)
    dsimp only
    unfold setsByText
    refine wpAny_bind (wpAny_bind (wpAny_askSetting (wpAny_pure ?_)))
    show wpAny _ _ (if w.params.followText "set-order" = true then _ else _) _ _ s
    rw [if_neg (by rw [z1]; exact Bool.false_ne_true)]
    show wpAny _ _ (if (!t.plain && decide (es.size > 1)) = true then _ else _) _ _ s
    rw [if_neg (by rw [zd]; exact Bool.false_ne_true)]
    have hled : t.led = true := by rw [h4.led, z1]; rfl
    show wpAny _ _ ((if (!t.led && !es.isEmpty) = true then _ else _) >>= _) _ _ s
    rw [if_neg (by rw [hled]; simp)]
    refine wpAny_bind (wpAny_pure ?_)
    refine wpAny_pure ?_
    have hps : t.place.size = es.size := by
      simp only [SetTable.fits, Bool.and_eq_true, beq_iff_eq] at h3
      exact h3.1
    have hx' : es[i].2 = x := by
      rw [List.getElem?_map] at hx
      have e : es.toList[i]? = some es[i] := by rw [Array.getElem?_toList, Array.getElem?_eq_getElem hi]
      rw [e] at hx
      exact Option.some.inj hx
    rw [Int.toNat_natCast, z3, Array.getElem?_eq_getElem hi, Array.getElem?_eq_getElem (by omega : i < t.place.size)]
    dsimp only
    refine wpAny_bind (wpAny_setField h6 h8 (by simp) ?_)
    obtain ⟨o1, g1, c1, d1⟩ := get_mapFields (i := 0) (x := rawInt ((t.place[i]'(by omega) + 1 : Nat) : Int)) h6 h8
    refine wpAny_bind (wpAny_setField (s := { s with heap := _ }) g1 d1 (by simp) ?_)
    obtain ⟨o2, g2, c2, d2⟩ := get_mapFields (i := 1) (x := rawInt ((i : Int) + 1)) g1 d1
    have S := (Heap.SameBut.update s.heap it (Obj.mapFields (·.setIfInBounds 0 (rawInt ((t.place[i]'(by omega) + 1 : Nat) : Int))))).trans (Heap.SameBut.update _ it (Obj.mapFields (·.setIfInBounds 1 (rawInt ((i : Int) + 1)))))
    subst hx'
    refine wpAny_pure ⟨es[i].2, rfl, wpAny_pure (hQ _ ?_ S)⟩
    exact ⟨o, es, ep, t, rawInt ((t.place[i]'(by omega) + 1 : Nat) : Int), o2, sb _ _ _ S hne h1, h2, h3, h4, h5, g2, c2.trans (c1.trans h7), by rw [d2]; simp, .inr (.inr ⟨z1, zd, _, rfl, below_succ h4.rise (by omega), rfl⟩)⟩
theorem setit_end {it a tp : Addr} {vs : List Value} {Q : Option Value → Shared → Prop} (hh : A.handled = none) (hne : a ≠ it) (hit : SetIt w s.heap it a tp vs vs.length)
    (hQ : ∀ h', Heap.ExtBut it s.heap h' → Q none { s with heap := h' }) : wpAny (model prog w) A (pyNext (.ref it)) Q E s := by
  have hT := hit.typeIs
  obtain ⟨o, es, ep, t, first, oi, h1, h2, h3, h4, h5, h6, h7, h8, h9⟩ := hit
  have fin : ∀ (h' : Heap), Heap.ExtBut it s.heap h' → wpAny (model prog w) A.in1 (newExc (.type "StopIteration") [] >>= fun e => raiseNew e) (fun (_ : Fin) _ => False) (fun e s' => (∃ oe, s'.heap.get? (match e with | .ref b => b | _ => 0) = some oe ∧ oe.cls = .type "StopIteration" ∧ ∃ b, e = .ref b) ∧ ∃ h2, s' = { s with heap := h2 } ∧ Heap.ExtBut it s.heap h2) { s with heap := h' } := by
    intro h' he
    refine wpAny_bind ?_
    simp only [newExc, newTuple]
    refine wpAny_bind (wpAny_newObj_type ?_ (by size_fits))
    refine wpAny_bind (m := firstArgMember _ _) (wpAny_of_eq (a := Value.none) (by first | rfl | (simp only [firstArgMember]; rfl)) ?_)
    refine wpAny_newObj_type ?_ (by size_fits)
    simp only [raiseNew]
    refine wpAny_bind (wpAny_handled ?_)
    rw [show A.in1.handled = none from hh]
    refine wpAny_bind (wpAny_pure (wpAny_throw ?_))
    exact ⟨⟨_, Heap.get?_push_size _ rfl, rfl, _, rfl⟩, _, rfl, (he.push _).push _⟩
  have fin2 : ∀ (e : Value) (s' : Shared), ((∃ oe, s'.heap.get? (match e with | .ref b => b | _ => 0) = some oe ∧ oe.cls = .type "StopIteration" ∧ ∃ b, e = .ref b) ∧ ∃ h2, s' = { s with heap := h2 } ∧ Heap.ExtBut it s.heap h2) →
      wpAny (model prog w) A (do if ← isInstance e (.type "StopIteration") then pure none else throw e) Q E s' := by
    rintro e s' ⟨⟨oe, e1, e2, b, rfl⟩, h2, rfl, e3⟩
    refine wpAny_bind (wpAny_isInstance (T := "StopIteration") (b := true) ⟨_, e1, e2⟩ isSubtype_stop ?_)
    exact wpAny_pure (hQ _ e3)
  unfold pyNext
  refine wpAny_bind (wpAny_attempt (wpAny_mono (wpAny_callSpecial?_slot (Q := fun _ _ => False) (name := Str.ofString "__next__") hT slot_setit_next
    (wpAny_call_entry slot_setit_next hT entry_setit_next ?_ (args_setit_next _))) (fun _ _ z => z.elim) fun e s' z => fin2 e s' z))
  unfold Builtin.«set_iterator.__next__»
  refine wpAny_bind (wpAny_pure ?_)
  dsimp only
  refine wpAny_bind (wpAny_fieldsOf h6 h8 ?_)
  show wpAny _ _ (setEntries a >>= _) _ _ s
  refine wpAny_bind (wpAny_setEntries_of h1 h2 h3 ?_)
  rw [if_neg (by simp)]
  rcases h9 with ⟨z1, rfl, hvs⟩ | ⟨z1, ps, ot, rfl, z3, z4, z5⟩ | ⟨z1, zd, slot, rfl, z3, hvs⟩
  · show wpAny _ _ (setNext a (0 : Int).toNat ((vs.length : Int)).toNat ((ep : Int)).toNat >>= _) _ _ s
    refine wpAny_bind ?_
    unfold setNext
    refine wpAny_bind (wpAny_setState_of h1 h2 h3 ?_)
    dsimp only
    unfold setsByText
    refine wpAny_bind (wpAny_bind (wpAny_askSetting (wpAny_pure ?_)))
    show wpAny _ _ (if w.params.followText "set-order" = true then _ else _) _ _ s
    rw [if_pos z1]
    rw [if_neg (by simp)]
    refine wpAny_bind ?_
    unfold setWalk
    refine wpAny_bind (wpAny_setState_of h1 h2 h3 ?_)
    dsimp only
    unfold setsByText
    refine wpAny_bind (wpAny_bind (wpAny_askSetting (wpAny_pure ?_)))
    show wpAny _ _ (if w.params.followText "set-order" = true then _ else _) _ _ s
    rw [if_pos z1]
    refine wpAny_bind (wpAny_askSetting (wpAny_pure ?_))
    refine wpAny_pure ?_
    have ex : ((pickOrder (w.params.setOrder a ep) es)[((vs.length : Int)).toNat]?).map (fun e => (e.2, (0 : Int).toNat)) = none := by
      rw [Int.toNat_natCast, Array.getElem?_eq_none]
      · rfl
      · rw [hvs, List.length_map, Array.length_toList]; exact Nat.le_refl _
    show wpAny _ _ (match ((pickOrder (w.params.setOrder a ep) es)[((vs.length : Int)).toNat]?).map (fun e => (e.2, (0 : Int).toNat)) with | some (x, next) => _ | none => _) _ _ s
    rw [ex]
    dsimp only
    refine wpAny_bind (wpAny_setField h6 h8 (by simp) ?_)
    exact wpAny_mono (fin _ (Heap.SameBut.update ..).extBut) (fun _ _ z => z.elim) fun _ _ z => z
  · show wpAny _ _ (seqItems? (.ref tp) >>= _) _ _ s
    refine wpAny_bind (wpAny_seqItems z3 z4 ?_)
    dsimp only
    have ex : (ps.map fun (p : Nat) => rawInt (p : Int)).toArray[((vs.length : Int)).toNat]? = none := by
      rw [Int.toNat_natCast, Array.getElem?_eq_none]
      simp [paired_len z5]
    show wpAny _ _ (match (ps.map fun (p : Nat) => rawInt (p : Int)).toArray[((vs.length : Int)).toNat]? with | some (.int place _) => _ | some _ => _ | none => _) _ _ s
    rw [ex]
    dsimp only
    refine wpAny_bind (wpAny_setField h6 h8 (by simp) ?_)
    obtain ⟨o1, g1, c1, d1⟩ := get_mapFields (i := 0) (x := rawInt 0) h6 h8
    refine wpAny_bind (wpAny_setField (s := { s with heap := _ }) g1 d1 (by simp) ?_)
    exact wpAny_mono (fin _ ((Heap.SameBut.update ..).trans (Heap.SameBut.update ..)).extBut) (fun _ _ z => z.elim) fun _ _ z => z
  · show wpAny _ _ (setNext a ((slot : Int)).toNat ((vs.length : Int)).toNat ((ep : Int)).toNat >>= _) _ _ s
    refine wpAny_bind ?_
    unfold setNext
    refine wpAny_bind (wpAny_setState_of h1 h2 h3 ?_)
    dsimp only
    unfold setsByText
    refine wpAny_bind (wpAny_bind (wpAny_askSetting (wpAny_pure ?_)))
    show wpAny _ _ (if w.params.followText "set-order" = true then _ else _) _ _ s
    rw [if_neg (by rw [z1]; exact Bool.false_ne_true)]
    show wpAny _ _ (if (!t.plain && decide (es.size > 1)) = true then _ else _) _ _ s
    rw [if_neg (by rw [zd]; exact Bool.false_ne_true)]
    have hled : t.led = true := by rw [h4.led, z1]; rfl
    show wpAny _ _ ((if (!t.led && !es.isEmpty) = true then _ else _) >>= _) _ _ s
    rw [if_neg (by rw [hled]; simp)]
    refine wpAny_bind (wpAny_pure ?_)
    refine wpAny_pure ?_
    rw [Int.toNat_natCast, z3, Array.getElem?_eq_none (by omega : es.size ≤ vs.length)]
    dsimp only
    refine wpAny_bind (wpAny_setField h6 h8 (by simp) ?_)
    exact wpAny_mono (fin _ (Heap.SameBut.update ..).extBut) (fun _ _ z => z.elim) fun _ _ z => z
end
end L2
namespace L2
open PySem PySem.Spec PyProof.Rows
section
variable {prog : Program} {w : World} {K : Type} [DecidableEq K] {knd : KeyKind prog w K} {A : Around} {E : Value → Shared → Prop} {s : Shared}
theorem paired_map {α β γ : Type} {R : α → γ → Prop} {f : β → γ} : ∀ {xs : List α} {ys : List β}, Paired (fun a b => R a (f b)) xs ys → Paired R xs (ys.map f)
  | _, _, .nil => .nil
  | _, _, .cons r t => .cons r (paired_map t)
theorem paired_range (es : Array (Int × Value)) : Paired (fun (p : Nat) (v : Value) => (es[p]?).map (·.2) = some v) (List.range es.size) (es.toList.map (·.2)) := by
  have gen : ∀ (l : List (Int × Value)) (k : Nat), (∀ j, es[k + j]? = l[j]?) → Paired (fun (p : Nat) (v : Value) => (es[p]?).map (·.2) = some v) ((List.range l.length).map (k + ·)) (l.map (·.2)) := by
    intro l
    induction l with
    | nil => intro k _; exact .nil
    | cons a r ih =>
      intro k h
      rw [List.length_cons, List.range_succ_eq_map, List.map_cons, List.map_map, List.map_cons]
      refine .cons ?_ ?_
      · have := h 0
        simp at this
        show (es[k + 0]?).map (·.2) = _
        rw [Nat.add_zero, this]; rfl
      · have := ih (k + 1) (fun j => by have := h (j + 1); simp at this; rw [Nat.add_assoc, Nat.add_comm 1 j]; exact this)
        have e : ((fun x => k + x) ∘ Nat.succ) = (fun x => k + 1 + x) := by funext x; show k + (x + 1) = _; omega
        rw [e]
        exact this
  have h := gen es.toList 0 (fun j => by simp)
  have e1 : (List.range es.toList.length).map (0 + ·) = List.range es.size := by
    have : (fun x : Nat => 0 + x) = id := by funext x; simp
    rw [this, List.map_id, Array.length_toList]
  rw [e1] at h
  exact h
theorem paired_perm' {α β : Type} {R : α → β → Prop} {l1 l1' : List α} (p : l1.Perm l1') : ∀ {l2 : List β}, Paired R l1 l2 → ∃ l2', l2.Perm l2' ∧ Paired R l1' l2' := by
  induction p with
  | nil => intro l1 h; exact ⟨l1, .refl _, h⟩
  | cons x _ ih =>
    intro l1 h
    cases h with
    | cons r t => obtain ⟨l, p, q⟩ := ih t; exact ⟨_ :: l, p.cons _, .cons r q⟩
  | swap x y l =>
    intro l1 h
    cases h with
    | cons r t => cases t with | cons r' t' => exact ⟨_, .swap _ _ _, .cons r' (.cons r t')⟩
  | trans _ _ ih1 ih2 =>
    intro l1 h
    obtain ⟨l, p, q⟩ := ih1 h
    obtain ⟨l', p', q'⟩ := ih2 q
    exact ⟨l', p.trans p', q'⟩
theorem pyIter_setW {a : Addr} {ks : List K} {Q : Value → Shared → Prop} (hS : SetW knd s.heap a ks)
    (h : ∀ it tp h' d vs, (∀ b o, s.heap.get? b = some o → h'.get? b = some o) → a ≠ it → tp ≠ it → s.heap.objs.size ≤ it → (tp = a ∨ s.heap.objs.size ≤ tp) → SetIt w h' it a tp vs 0 → (∃ ks' : List K, ks.Perm ks' ∧ Paired (fun (k : K) (v : Value) => knd.is k v = true) ks' vs) → Q (.ref it) { s with heap := h', drawn := d }) :
    wpAny (model prog w) A (pyIter (.ref a)) Q E s := by
  have hT := hS.typeIs
  obtain ⟨o, es, ep, t, ho, hex, hd, hel, hpr, hnd, hb, hf, ht⟩ := hS
  have hpv := paired_map (f := fun (e : Int × Value) => e.2) (R := fun (k : K) (v : Value) => knd.is k v = true) hpr
  have halt : a < s.heap.objs.size := Heap.lt_size ho
  refine wpAny_pyIter_slot hT PySem.F.slot_set_iter (wpAny_call_entry PySem.F.slot_set_iter hT entry_set_iter' ?_ (PySem.F.args_set_iter_1 _))
  unfold Builtin.«frozenset.__iter__»
  show wpAny _ _ (Builtin.Frozenset.sizeOf a >>= _) _ _ s
  unfold Builtin.Frozenset.sizeOf
  refine wpAny_bind (wpAny_bind (wpAny_setEntries_of ho hd hf (wpAny_pure ?_)))
  refine wpAny_bind ?_
  refine wpAny_bind (wpAny_setState_of ho hd hf ?_)
  dsimp only
  unfold setsByText
  refine wpAny_bind (wpAny_bind (wpAny_askSetting (wpAny_pure ?_)))
  refine wpAny_pure ?_
  show wpAny _ _ (if (!w.params.followText "set-order" && (!t.plain && decide (es.size > 1))) = true then _ else _) _ _ s
  by_cases hc : (!w.params.followText "set-order" && (!t.plain && decide (es.size > 1))) = true
  · rw [if_pos hc]
    have hbt : w.params.followText "set-order" = false := by simp at hc; exact hc.1
    refine wpAny_bind (wpAny_drawOrder es.size (List.range es.size) (by simp) fun l d p => ?_)
    have hll : l.length = es.size := by rw [p.length_eq, List.length_range]
    refine wpAny_bind (wpAny_newTuple ?_ (by rw [List.length_map, hll]; exact fits_of_scanBound hb))
    have ho1 := Heap.get?_push_of_some ({ cls := .type "tuple", data := .seq (l.map fun (i : Nat) => rawInt (i : Int)).toArray } : Obj) ho
    refine wpAny_bind ?_
    unfold setEpoch
    refine wpAny_bind (wpAny_setState_of (s := { s with heap := _, drawn := d }) ho1 hd hf (wpAny_pure ?_))
    refine wpAny_bind (wpAny_newObj_type (wpAny_pure ⟨_, rfl, "set_iterator", _, ⟨_, Heap.get?_push_size _ rfl, rfl⟩, slot_setit_next.lookup, ?_⟩))
    obtain ⟨vs, pv, hvs⟩ := paired_perm' p.symm (paired_range es)
    have hv2 := paired_perm pv hpv
    dsimp only
    refine h (s.heap.push { cls := .type "tuple", data := .seq (l.map fun (i : Nat) => rawInt (i : Int)).toArray }).objs.size s.heap.objs.size _ d vs (fun b o e => Heap.get?_push_of_some _ (Heap.get?_push_of_some _ e)) ?_ ?_ ?_ (.inr (Nat.le_refl _)) ?_ hv2
    · rw [Heap.size_push]; exact Nat.ne_of_lt (Nat.lt_succ_of_lt halt)
    · rw [Heap.size_push]; exact Nat.ne_of_lt (Nat.lt_succ_self _)
    · rw [Heap.size_push]; exact Nat.le_succ _
    · exact ⟨o, es, ep, t, .ref s.heap.objs.size, _, Heap.get?_push_of_some _ ho1, hd, hf, ht, by rw [← paired_len hvs, hll], Heap.get?_push_size _ rfl, rfl, rfl, .inr (.inl ⟨hbt, l, _, rfl, Heap.get?_push_of_some _ (Heap.get?_push_size _ rfl), rfl, hvs⟩)⟩
  · rw [if_neg hc]
    refine wpAny_bind (wpAny_pure ?_)
    refine wpAny_bind ?_
    unfold setEpoch
    refine wpAny_bind (wpAny_setState_of ho hd hf (wpAny_pure ?_))
    refine wpAny_bind (wpAny_newObj_type (wpAny_pure ⟨_, rfl, "set_iterator", _, ⟨_, Heap.get?_push_size _ rfl, rfl⟩, slot_setit_next.lookup, ?_⟩))
    have hit : ∀ vs, vs.length = es.size → ((w.params.followText "set-order" = true ∧ (rawInt 0 : Value) = rawInt 0 ∧ vs = (pickOrder (w.params.setOrder a ep) es).toList.map (·.2)) ∨
       (w.params.followText "set-order" = false ∧ (!t.plain && decide (es.size > 1)) = false ∧ ∃ slot : Nat, (rawInt 0 : Value) = rawInt (slot : Int) ∧ SetTable.below t.place slot = 0 ∧ vs = es.toList.map (·.2))) →
       SetIt w (s.heap.push { cls := .type "set_iterator", data := .fields [rawInt 0, rawInt 0, .ref a, rawInt (es.size : Int), rawInt (ep : Int)].toArray }) s.heap.objs.size a a vs 0 := fun vs hl z =>
      ⟨o, es, ep, t, rawInt 0, _, Heap.get?_push_of_some _ ho, hd, hf, ht, hl, Heap.get?_push_size _ rfl, rfl, rfl, z.elim .inl fun z => .inr (.inr z)⟩
    have e : s = { s with drawn := s.drawn } := by cases s; rfl
    have fin : ∀ vs, (∃ ks' : List K, ks.Perm ks' ∧ Paired (fun (k : K) (v : Value) => knd.is k v = true) ks' vs) → SetIt w (s.heap.push { cls := .type "set_iterator", data := .fields [rawInt 0, rawInt 0, .ref a, rawInt (es.size : Int), rawInt (ep : Int)].toArray }) s.heap.objs.size a a vs 0 →
        Q (.ref s.heap.objs.size) { s with heap := s.heap.push { cls := .type "set_iterator", data := .fields [rawInt 0, rawInt 0, .ref a, rawInt (es.size : Int), rawInt (ep : Int)].toArray } } := fun vs hv z =>
      h s.heap.objs.size a _ s.drawn vs (fun b o e => Heap.get?_push_of_some _ e) (Nat.ne_of_lt halt) (Nat.ne_of_lt halt) (Nat.le_refl _) (.inl rfl) z hv
    by_cases hbt : w.params.followText "set-order" = true
    · have pp := (pick_perm (w.params.setOrder a ep) es).map (fun (e : Int × Value) => e.2)
      exact fin _ (paired_perm pp.symm hpv) (hit _ (by rw [List.length_map, (pick_perm _ es).length_eq, Array.length_toList]) (.inl ⟨hbt, rfl, rfl⟩))
    · have hbt' : w.params.followText "set-order" = false := by simpa using hbt
      have hdr : (!t.plain && decide (es.size > 1)) = false := by
        rw [hbt'] at hc
        simpa using hc
      exact fin _ ⟨ks, .refl _, hpv⟩ (hit _ (by rw [List.length_map, Array.length_toList]) (.inr ⟨hbt', hdr, 0, rfl, below_zero ht.rise, rfl⟩))
theorem walks_set (hh : A.handled = none) {it a tp : Addr} (hne : a ≠ it) (hnt : tp ≠ it) (vs : List Value) : Walks prog w A it [it, a, tp] [it] vs.length (fun i v => vs[i]? = some v) (fun i h => SetIt w h it a tp vs i) where
  sub := fun b hb => by simp at hb; simp [hb]
  frame := fun _ _ _ st hk => st.frame fun b hb o e => hk b (by simp; exact hb) o e
  item := fun i s Q E hi st hQ => by
    refine setit_item hne hnt st (List.getElem?_eq_getElem hi) fun h' st' sb => ?_
    exact hQ _ h' s.toks (List.getElem?_eq_getElem hi) st' fun b o hb e => sb.extBut b o (fun h => hb (by simp [h])) e
  done := fun s Q E st hQ => setit_end hh hne st fun h' he' => hQ h' s.toks fun b o hb e => he' b o (fun h => hb (by simp [h])) e
  self := fun i s Q E st hQ => by
    have hT := SetIt.typeIs (s := s) st
    refine wpAny_pyIter_slot hT slot_setit_iter (wpAny_call_entry slot_setit_iter hT entry_setit_iter ?_ (args_setit_iter _))
    show wpAny _ _ (ret (.ref it)) _ _ s
    exact wpAny_pure ⟨_, rfl, "set_iterator", _, hT, slot_setit_next.lookup, hQ⟩
theorem hint_set {r : Addr} {Q : Bool → Shared → Prop} (hT : s.TypeIs (.ref r) "set") (h : Q false s) : wpAny (model prog w) A (Builtin.List.listLengthHint (.ref r)) Q E s := by
  unfold Builtin.List.listLengthHint
  refine wpAny_bind (wpAny_specialOf hT PySem.F.slot_set_len.lookup ?_)
  generalize hid : ("set.__len__" : String) = id0
  wp_delta
  rw [show splitId id0 = some ("set", "__len__") from by subst hid; decide +kernel]
  subst hid
  refine wpAny_bind (wpAny_isInstance (T := "set") (b := true) hT (by rw [isSubtype_type]; kernel_rfl) ?_)
  refine wpAny_ite_split (fun hab => absurd hab (by decide)) (fun _ => ?_)
  refine wpAny_ite_split (fun _ => ?_) (fun hab => absurd (by decide +kernel) hab)
  refine wpAny_bind (wpAny_typeOf hT ?_)
  exact wpAny_pure h
theorem collect_setW {a : Addr} {ks : List K} {R : List Value → Shared → Prop} (hh : A.handled = none) (hS : SetW knd s.heap a ks) (hn : ks.length ≤ sizeLine)
    (h : ∀ (h' : Heap) tk d vs, (∀ b o, s.heap.get? b = some o → h'.get? b = some o) → s.heap.objs.size ≤ h'.objs.size → (∃ ks' : List K, ks.Perm ks' ∧ Paired (fun (k : K) (v : Value) => knd.is k v = true) ks' vs) → R vs { s with heap := h', toks := tk, drawn := d }) :
    wpAny (model prog w) A (collect (.ref a)) R E s := by
  obtain ⟨ol, _, _, _, hol, _⟩ := id hS
  have hlt : a < s.heap.objs.size := Heap.lt_size hol
  unfold collect
  refine wpAny_bind (wpAny_runValue (codeAny_builtin entry_proto_collect' ?_))
  rw [Around.under_plainId PySem.F.plain_proto_collect _]
  show wpAny _ A.in1 (newList [] >>= fun l => again (.builtin "list.__iadd__" ⟨[l, .ref a], []⟩)) _ _ s
  refine wpAny_bind (wpAny_newObj_type ?_)
  refine wpAny_pure ⟨plainId_quiet PySem.F.plain_list_iadd _, codeAny_builtin entry_list_iadd' ?_⟩
  rw [Around.under_plainId PySem.F.plain_list_iadd _]
  generalize hH1 : s.heap.push { cls := .type "list", data := .seq ([] : List Value).toArray } = H1
  have hS₁ : H1.get? s.heap.objs.size = some { cls := .type "list", data := .seq #[] } := hH1 ▸ Heap.get?_push_size _ rfl
  have k1 : ∀ b o, s.heap.get? b = some o → H1.get? b = some o := fun b o e => hH1 ▸ Heap.get?_push_of_some _ e
  have hsz : H1.objs.size = s.heap.objs.size + 1 := by rw [← hH1, Heap.size_push]
  have hS1 : SetW knd H1 a ks := hS.at' fun o e => k1 _ _ e
  show wpAny _ A.in1 (Builtin.List.listExtendWith (.ref s.heap.objs.size) (.ref a) (.ref s.heap.objs.size)) _ _ { s with heap := H1 }
  have haS : a ≠ s.heap.objs.size := Nat.ne_of_lt hlt
  have hltS : ∀ b o, s.heap.get? b = some o → b ≠ s.heap.objs.size := fun b o e => Nat.ne_of_lt (Heap.lt_size e)
  have hlti : ∀ b o (it : Addr), s.heap.get? b = some o → H1.objs.size ≤ it → b ≠ it := fun b o it e hi => Nat.ne_of_lt (Nat.lt_of_lt_of_le (Heap.lt_size (k1 b o e)) hi)
  have hSi : ∀ it : Addr, H1.objs.size ≤ it → s.heap.objs.size ≠ it := fun it hi => Nat.ne_of_lt (Nat.lt_of_lt_of_le (Heap.lt_size hS₁) hi)
  generalize hSS : s.heap.objs.size = S at *
  unfold Builtin.List.listExtendWith
  refine wpAny_bind (wpAny_typeOf (T := "set") (SetW.typeIs (s := { s with heap := H1 }) hS1) ?_)
  have h1 : Builtin.List.listSameRef (.ref S) (.ref a) = false := by simp [Builtin.List.listSameRef, haS.symm]
  have h2 : (Value.type "set" == Value.type "list") = false := by decide
  have h3 : (Value.type "set" == Value.type "tuple") = false := by decide
  simp only [h1, h2, h3, Bool.or_false, Bool.false_eq_true, if_false]
  refine wpAny_bind (pyIter_setW (knd := knd) (s := { s with heap := H1 }) hS1 fun it tp h' d vs k2 n1 n2 n3 n4 st hv => ?_)
  have hSit : S ≠ it := hSi it n3
  have hStp : S ≠ tp := by
    rcases n4 with rfl | n4
    · exact haS.symm
    · exact hSi tp n4
  have hSf : S ∉ [it, a, tp] := by simp only [List.mem_cons, List.not_mem_nil, or_false, not_or]; exact ⟨hSit, haS.symm, hStp⟩
  have W := walks_set (prog := prog) (w := w) (A := A.in1) (by simp [hh]) n1 n2 vs
  have hvl : vs.length = ks.length := by
    obtain ⟨ks', p, q⟩ := hv
    rw [← paired_len q, p.length_eq]
  have key : ∀ (h : Heap) (c₁ tk : Nat), SetIt w h it a tp vs 0 → (∀ b o, b ≠ S → s.heap.get? b = some o → h.get? b = some o) →
      h.get? S = some { cls := .type "list", data := .seq #[] c₁ } → codeAny (model prog w) A (.builtin "list.extend.loop" ⟨[.ref S, .ref it, .ref S], []⟩)
        (fun (q : Result) (s' : Shared) => ∃ (h' : Heap) (tk : Nat) (acc' : Array Value) (c' : Nat), q = .ok (.ret (.ref S)) ∧ s' = { s with heap := h', toks := tk, drawn := d } ∧
      (∀ b o, b ≠ S → b ≠ it → s.heap.get? b = some o → h'.get? b = some o) ∧ h'.get? S = some { cls := .type "list", dict := none, data := .seq acc' c', slots := #[] } ∧ acc'.toList = vs) { s with heap := h, toks := tk, drawn := d } := by
    intro h c₁ tk hst hk hS₁
    refine codeAny_extend_loopS W.toS (by rw [hvl]; exact hn) S hSf (.ref S) vs.length 0 _ #[] c₁ rfl (Nat.zero_le _) hst hS₁ (ItemsOf.nil _) fun s' acc' c' hm hS' hacc => ?_
    rw [Moved.eq_with hm]
    refine ⟨s'.heap, s'.toks, acc', c', rfl, rfl, fun b o hb hbi e => hm.heap b o (fun hmem => ?_) (hk b o hb e), hS', ?_⟩
    · rcases List.mem_cons.mp hmem with e' | hmem
      · exact hb e'
      · exact hbi (List.mem_singleton.mp hmem)
    · apply List.ext_getElem
      · rw [Array.length_toList, hacc.1]
      · intro j j1 j2
        have : vs[j]? = some acc'.toList[j] := hacc.2 j acc'.toList[j] (by rw [← Array.getElem?_toList, List.getElem?_eq_getElem j1])
        rw [List.getElem?_eq_getElem j2] at this
        exact (Option.some.inj this).symm
  have fin : ∀ (q : Result) (s' : Shared), (∃ (h' : Heap) (tk : Nat) (acc' : Array Value) (c' : Nat), q = .ok (.ret (.ref S)) ∧ s' = { s with heap := h', toks := tk, drawn := d } ∧
      (∀ b o, b ≠ S → b ≠ it → s.heap.get? b = some o → h'.get? b = some o) ∧ h'.get? S = some { cls := .type "list", dict := none, data := .seq acc' c', slots := #[] } ∧ acc'.toList = vs) →
      q = .ok (.ret (.ref S)) ∧ wpAny (model prog w) A (load S >>= fun o => (match o.data with | .seq xs _ => pure xs.toList | _ => unsupported "internal:collect")) R E s' := by
    rintro q s' ⟨h', tk, acc', c', rfl, rfl, hk, hS', rfl⟩
    refine ⟨rfl, ?_⟩
    refine wpAny_bind (wpAny_load hS' ?_)
    refine wpAny_pure (h h' tk d _ (fun b o e => hk b o ?_ ?_ e) (Nat.le_of_lt (Heap.lt_size hS')) hv)
    · exact hltS b o e
    · exact hlti b o it e n3
  have S2 := k2 _ _ hS₁
  refine wpAny_bind (wpAny_holding (hint_set (s := { s with heap := h', drawn := d }) (SetW.typeIs (knd := knd) (s := { s with heap := h', drawn := d }) (hS1.at' fun o e => k2 _ _ e)) ?_))
  refine wpAny_ite_split (fun _ => ?_) (fun _ => wpAny_pure ⟨plainId_quiet PySem.F.plain_extend_loop _, codeAny_mono (key _ 0 s.toks st (fun b o _ e => k2 _ _ (k1 _ _ e)) S2) fun q s' y => ?_⟩)
  · refine wpAny_bind (wpAny_rule ?_)
    refine wpAny_bind ?_
    show wpAny _ _ (updateSeq S (·.push .none) >>= fun _ => updateSeq S (·.pop)) _ _ _
    refine wpAny_bind (wpAny_updateSeq S2 rfl ?_)
    have S3 := Heap.get?_update_self (Obj.mapSeq (·.push Value.none)) S2 rfl
    refine wpAny_updateSeq (hz := by seq_fits) S3 rfl ?_
    have S4 := Heap.get?_update_self (Obj.mapSeq (·.pop)) S3 rfl
    refine wpAny_pure ⟨plainId_quiet PySem.F.plain_extend_loop _, codeAny_mono (key _ _ s.toks ?_ (fun b o hb e => ?_) S4) fun q s' y => ?_⟩
    · refine st.frame fun b hb o e => ?_
      have hbS : b ≠ S := by rcases hb with rfl | rfl | rfl; exact hSit.symm; exact haS; exact hStp.symm
      exact (Heap.get?_update_other _ _ (Ne.symm hbS)).trans ((Heap.get?_update_other _ _ (Ne.symm hbS)).trans e)
    · exact (Heap.get?_update_other _ _ (Ne.symm hb)).trans ((Heap.get?_update_other _ _ (Ne.symm hb)).trans (k2 _ _ (k1 _ _ e)))
    · obtain ⟨rfl, z⟩ := fin q s' y
      exact z
  · obtain ⟨rfl, z⟩ := fin q s' y
    exact z
end
end L2
namespace L2
open PySem PySem.Spec PyProof.Rows
section
variable {prog : Program} {w : World} {K : Type} [DecidableEq K] {knd : PySem.KeyKind prog w K} {A : Around} {E : Value → Shared → Prop} {s : Shared}
/-- sorted(a set): the list is made, then sorted -/
theorem sorted_setW {a : Addr} {ks : List K} {Q : Value → Shared → Prop} (hh : A.handled = none) (hS : SetW knd s.heap a ks) (hn : ks.length ≤ sizeLine)
    (h : ∀ (h' : Heap) (tk : Nat) (d : Drawn) (vs : List Value), (∀ b o, s.heap.get? b = some o → h'.get? b = some o) → s.heap.objs.size ≤ h'.objs.size → (∃ ks' : List K, ks.Perm ks' ∧ Paired (fun (k : K) (v : Value) => knd.is k v = true) ks' vs) →
      wpAny (model prog w) A.in1.in1 (Builtin.«list.sort» ⟨[.ref h'.objs.size], []⟩) (fun r s' => r = .done (.ret .none) ∧ Q (.ref h'.objs.size) s') E { s with heap := h'.push (seqObj "list" vs.toArray 0), toks := tk, drawn := d }) :
    wpAny (model prog w) A (call (.builtin "sorted") [.ref a]) Q E s := by
  refine Calls.call_function_entry kind_sorted plain_sorted entry_sorted (args_sorted1 _) ?_
  unfold Builtin.«sorted»
  refine wpAny_bind (m := checkCount "sorted" 1 1 _) (wpAny_pure ?_)
  refine wpAny_bind (collect_setW (knd := knd) (A := A.in1) (by simp [hh]) hS hn fun h' tk d vs k hle hv => ?_)
  have hvl : vs.length ≤ sizeLine := by
    obtain ⟨ks', p, q⟩ := hv
    rw [← paired_len q, ← p.length_eq]; exact hn
  refine wpAny_bind (wpAny_newList ?_ hvl)
  show wpAny _ _ _ _ _ { s with heap := h'.push (seqObj "list" vs.toArray 0), toks := tk, drawn := d }
  have hoL : (h'.push (seqObj "list" vs.toArray 0)).get? h'.objs.size = some (seqObj "list" vs.toArray 0) := Heap.get?_push_size _ rfl
  refine wpAny_bind (wpAny_holding (wpAny_call_entry slot_list_sort ⟨_, hoL, rfl⟩ entry_list_sort (wpAny_mono (h h' tk d vs k hle hv) (fun r s' z => ?_) fun _ _ z => z) (args_list_sort _)))
  obtain ⟨rfl, z⟩ := z
  exact ⟨_, rfl, wpAny_pure ⟨_, rfl, z⟩⟩
end
/-- a set of ints and texts -/
def SetO (P : Program) (w : World) (a : Addr) (ks : List Key) : HO := .ext fun h => SetW (mixKind P w) h a ks
section
variable {X : Cx}
theorem setO_ok {P : Program} {w : World} {H : Hp} {h : Heap} {a : Addr} {ks : List Key} (x : SetW (mixKind P w) h a ks) : ObjOk P w H h a (SetO P w a ks) := by
  refine ⟨x, ?_, fun h1 h2 y k => y.at' fun o e => k o e⟩
  obtain ⟨o, _, _, _, ho, _⟩ := x
  exact ⟨o, ho⟩
theorem kV_is2 {P : Program} {w : World} {k : Key} {v : Value} (r : RelV (kV k) v) : (mixKind P w).is k v = true ∧ v.scannable = true := by
  cases k with
  | inl i => obtain ⟨t, rfl⟩ := (show ∃ t, v = Value.int i t from r); exact ⟨keyIs_int i t, rfl⟩
  | inr x => obtain ⟨t, rfl⟩ := (show ∃ t, v = Value.str x t from r); exact ⟨keyIs_str x t, rfl⟩
/-- set(a list of ints and texts) -/
theorem call_set_of (hc : X.calm = true) : CallR X (.type "set") (fun xs H Q => ∃ (p : Addr) (kys : List Key), xs = [.ref p] ∧ SqL X.K H p (kys.map kV) ∧ kys.length ≤ 4000 ∧
    ∀ (l : Addr) (ks : List Key), H l = none → ks.Nodup → (∀ k, k ∈ ks ↔ k ∈ kys) → Q (.ref l) (upd H l (SetO X.prog X.w l ks))) := by
  intro pins s σ H xs us Q I r h
  obtain ⟨p, kys, rfl, hq, hl, q⟩ := h
  obtain ⟨u, rfl, rx⟩ := vals1 r
  cases rx
  obtain ⟨its, r', pl, hz⟩ := I.list hq
  have hlen := r'.length
  rw [List.length_map] at hlen
  have hh : X.A.handled = none := I.ok.hd hc
  refine call_set_keys (knd := mixKind X.prog X.w) (val := fun i => kys.getD i (.inl 0)) hh pl.isList (fun i v e => ?_) (by simp only [List.size_toArray]; unfold scanBound; omega) fun h' tk ks hS hD hk => ?_
  · have e' : its[i]? = some v := by simpa using e
    have hi : i < kys.length := by
      have := (List.getElem?_eq_some_iff.mp e').1
      omega
    obtain ⟨u, hu, ru⟩ := r'.get (i := i) (x := kV kys[i]) (by rw [List.getElem?_map, List.getElem?_eq_getElem hi]; rfl)
    rw [e'] at hu
    cases hu
    have e2 : kys.getD i (.inl 0) = kys[i] := by rw [List.getD_eq_getElem?_getD, List.getElem?_eq_getElem hi]; rfl
    rw [e2]
    exact kV_is2 ru
  · have hf : H s.heap.objs.size = none := I.hok.fresh (Nat.le_refl _)
    have hnd : ks.Nodup := by obtain ⟨_, _, _, _, _, _, _, _, _, z, _⟩ := hS; exact z
    refine ⟨.ref s.heap.objs.size, _, I.laid (t' := tk) (o := SetO X.prog X.w s.heap.objs.size ks) (fun b ob z => hk b ob (Heap.lt_size z) z) (Nat.le_refl _) (setO_ok hS), rfl, q _ ks hf hnd fun k => ?_⟩
    rw [hD.1]
    simp only [List.size_toArray]
    constructor
    · rintro ⟨j, hj, rfl⟩
      have hj' : j < kys.length := by omega
      rw [List.getD_eq_getElem?_getD, List.getElem?_eq_getElem hj']
      exact List.getElem_mem hj'
    · intro hm
      obtain ⟨j, hj, e⟩ := List.mem_iff_getElem.mp hm
      exact ⟨j, by omega, by rw [List.getD_eq_getElem?_getD, List.getElem?_eq_getElem hj, ← e]; rfl⟩
theorem Inv.laidD {pins : List (Addr × Obj)} {σ : St} {H : Hp} {s : Shared} {h' : Heap} {a : Addr} {o : HO} {tk : Nat} {d : Drawn} (I : Inv X pins σ H s) (k : ∀ b u, s.heap.get? b = some u → h'.get? b = some u) (hp : s.heap.objs.size ≤ a)
    (new : ObjOk X.prog X.w (upd H a o) h' a o) : Inv X pins σ (upd H a o) { s with heap := h', toks := tk, drawn := d } := by
  refine I.call' (s' := { s with heap := h', toks := tk, drawn := d }) (ch := []) rfl (Un.mono (Un.laid k hp (I.hok.fresh hp)) (fun _ z => z) (fun _ z => z)) (I.hok.laid k hp new) I.bare (fun b hb => nomatch hb)
theorem sorted_fin {pins : List (Addr × Obj)} {σ : St} {H : Hp} {s : Shared} {Q : VK} {h' : Heap} {tk : Nat} {d : Drawn} {vs : List Value} {out : Array Value} {ys : List V} (I : Inv X pins σ H s) (k : ∀ b u, s.heap.get? b = some u → h'.get? b = some u)
    (hle : s.heap.objs.size ≤ h'.objs.size) (hv : Vals ys out.toList) (hz : ys.length ≤ sizeLine) (q : ∀ l : Addr, H l = none → Q (.ref l) (upd H l (.lst ys))) :
    EP X pins σ Q (.ref h'.objs.size) { s with heap := sortedHeap (h'.push (seqObj "list" vs.toArray 0)) h'.objs.size vs out, toks := tk, drawn := d } := by
  obtain ⟨e, he⟩ := sortedHeap_at (h := h'.push (seqObj "list" vs.toArray 0)) (a := h'.objs.size) (vs := vs) (n := 0) (out := out) (Heap.get?_push_size _ rfl)
  refine ⟨.ref h'.objs.size, _, I.laidD (o := .lst ys) (fun b u z => ?_) hle ⟨hz, out.toList, e, hv, by simpa using he⟩, rfl, q _ (I.hok.fresh hle)⟩
  have z' := k b u z
  rw [sortedHeap_old (Nat.ne_of_lt (Heap.lt_size z')) (by rw [Heap.size_push]; exact Nat.lt_succ_of_lt (Heap.lt_size z'))]
  exact Heap.get?_push_of_some _ z'
theorem strs_of {ks : List Str} : ∀ {vs : List Value}, Paired (fun (k : Key) (v : Value) => (mixKind X.prog X.w).is k v = true) (ks.map Sum.inr) vs → StrsAre vs ks := by
  induction ks with
  | nil => intro vs h; cases h; exact .nil
  | cons a r ih =>
    intro vs h
    cases h with
    | cons q t =>
      rw [mixKind_is] at q
      rcases keyIs_shape q with ⟨i, t', e, _⟩ | ⟨x, t', e, e'⟩
      · cases e
      · cases e; subst e'; exact .cons _ _ (ih t)
theorem ints_of {ks : List Int} : ∀ {vs : List Value}, Paired (fun (k : Key) (v : Value) => (mixKind X.prog X.w).is k v = true) (ks.map Sum.inl) vs → IntsAre vs ks := by
  induction ks with
  | nil => intro vs h; cases h; exact .nil
  | cons a r ih =>
    intro vs h
    cases h with
    | cons q t =>
      rw [mixKind_is] at q
      rcases keyIs_shape q with ⟨i, t', e, e'⟩ | ⟨x, t', e, _⟩
      · cases e; subst e'; exact .cons _ _ (ih t)
      · cases e
theorem vals_strs : ∀ {vs : List Value} {ss : List Str}, StrsAre vs ss → Vals (ss.map V.str) vs
  | _, _, .nil => .nil
  | _, _, .cons _ t h => .cons ⟨t, rfl⟩ (vals_strs h)
theorem perm_map_inv {α β : Type} {f : α → β} : ∀ {l : List α} {l' : List β}, (l.map f).Perm l' → ∃ m : List α, l' = m.map f ∧ l.Perm m := by
  intro l l' p
  generalize e : l.map f = k at p
  induction p generalizing l with
  | nil => exact ⟨[], rfl, by cases l with | nil => exact .refl _ | cons _ _ => cases e⟩
  | cons x p ih =>
    cases l with
    | nil => cases e
    | cons a r =>
      obtain ⟨e1, e2⟩ := List.cons.inj e
      obtain ⟨m, h1, h2⟩ := ih e2
      exact ⟨a :: m, by rw [h1, ← e1]; rfl, h2.cons a⟩
  | swap x y q =>
    cases l with
    | nil => cases e
    | cons a r =>
      cases r with
      | nil => cases (List.cons.inj e).2
      | cons b r =>
        obtain ⟨e1, e2⟩ := List.cons.inj e
        obtain ⟨e3, e4⟩ := List.cons.inj e2
        exact ⟨b :: a :: r, by rw [← e1, ← e3, ← e4]; rfl, .swap _ _ _⟩
  | trans _ _ ih1 ih2 =>
    obtain ⟨m, h1, h2⟩ := ih1 e
    obtain ⟨m', h3, h4⟩ := ih2 h1.symm
    exact ⟨m', h3, h2.trans h4⟩
/-- sorted(a set of texts) -/
theorem call_sorted_setS (hc : X.calm = true) : CallR X (.builtin "sorted") (fun xs H Q => ∃ (p : Addr) (ks : List Str), xs = [.ref p] ∧ H p = some (SetO X.prog X.w p (ks.map Sum.inr)) ∧ ks.length < 64 ∧
    ∀ (l : Addr) (ks' : List Str), H l = none → ks'.Perm ks → sortedS ks' = true → Q (.ref l) (upd H l (.lst (ks'.map V.str)))) := by
  intro pins s σ H xs us Q I r h
  obtain ⟨p, ks, rfl, hp, hl, q⟩ := h
  obtain ⟨u, rfl, rx⟩ := vals1 r
  cases rx
  have hS : SetW (mixKind X.prog X.w) s.heap p (ks.map Sum.inr) := (I.hok p _ hp).1
  refine sorted_setW (knd := mixKind X.prog X.w) (I.ok.hd hc) hS (by rw [List.length_map]; exact Nat.le_of_lt (small1000 (by omega))) fun h' tk d vs k hle hv => ?_
  obtain ⟨ks', pk, hpv⟩ := hv
  obtain ⟨ks2, rfl, pk2⟩ := perm_map_inv pk
  have hst := strs_of (X := X) hpv
  have hvl : vs.length = ks.length := by rw [← paired_len hpv, List.length_map, pk2.length_eq]
  refine list_sort_treeK strKind_oneLt (n := 0) (Heap.get?_push_size _ rfl) hst.keysOf (fun v₁ v₂ rest e => keyKind_strs (by rw [← e]; exact hst)) (by omega) fun st' a1 a2 => ?_
  obtain ⟨ss', b1, b2, b3⟩ := sorted_out_str hst a1 a2
  refine ⟨rfl, sorted_fin (s := s) (tk := tk) (d := d) I k hle (vals_strs b1) ?_ fun l hl' => q l ss' hl' (b2.trans pk2.symm) b3⟩
  rw [List.length_map, b2.length_eq, ← pk2.length_eq]
  exact Nat.le_of_lt (small1000 (by omega))
/-- sorted(a set of ints) -/
theorem call_sorted_setI (hc : X.calm = true) : CallR X (.builtin "sorted") (fun xs H Q => ∃ (p : Addr) (ks : List Int), xs = [.ref p] ∧ H p = some (SetO X.prog X.w p (ks.map Sum.inl)) ∧ ks.length < 64 ∧
    ∀ (l : Addr) (ks' : List Int), H l = none → ks'.Perm ks → ks'.Pairwise (· ≤ ·) → Q (.ref l) (upd H l (.lst (ks'.map V.int)))) := by
  intro pins s σ H xs us Q I r h
  obtain ⟨p, ks, rfl, hp, hl, q⟩ := h
  obtain ⟨u, rfl, rx⟩ := vals1 r
  cases rx
  have hS : SetW (mixKind X.prog X.w) s.heap p (ks.map Sum.inl) := (I.hok p _ hp).1
  refine sorted_setW (knd := mixKind X.prog X.w) (I.ok.hd hc) hS (by rw [List.length_map]; exact Nat.le_of_lt (small1000 (by omega))) fun h' tk d vs k hle hv => ?_
  obtain ⟨ks', pk, hpv⟩ := hv
  obtain ⟨ks2, rfl, pk2⟩ := perm_map_inv pk
  have hst := ints_of (X := X) hpv
  have hvl : vs.length = ks.length := by rw [← paired_len hpv, List.length_map, pk2.length_eq]
  refine list_sort_tree (n := 0) (Heap.get?_push_size _ rfl) hst (by omega) fun out ns' b1 b2 b3 => ?_
  refine ⟨rfl, sorted_fin (s := s) (tk := tk) (d := d) I k hle (vals_ints b1) ?_ fun l hl' => q l ns' hl' (b2.trans pk2.symm) b3⟩
  rw [List.length_map, b2.length_eq, ← pk2.length_eq]
  exact Nat.le_of_lt (small1000 (by omega))
end
end L2
namespace L2
open PySem PySem.Spec PyProof.Rows
/-! ### [elt for target in iter if test], names of the def around within -/
section
variable {X : Cx}
def cxLG (X : Cx) (N' : List Str) (scope : Scope) (cl : List (Str × Addr)) (s : Shared) (H : Hp) (ex : List Addr) : Cx where
  prog := X.prog
  w := X.w
  K := X.K
  mg := X.mg
  base := X.base
  A := X.A
  N := N'
  s₀ := s
  H₀ := H
  env := compEnvC scope cl s.heap.objs.size X.env
  outer := X.stack
  stack := X.stack
  ex := ex
  calm := true
  fn := fun _ => false
  pn := []
  xe := fun _ _ => False
/-- the names of the def around that stand within: name, its place there -/
inductive Caps (X : Cx) (scope : Scope) (cl : List (Str × Addr)) : List (Str × Nat) → Prop
  | nil : Caps X scope cl []
  | cons {x : Str} {j : Nat} {r : List (Str × Nat)} : X.N[j]? = some x → (X.env.kindOf x = some .cell ∨ X.env.kindOf x = some .free) → (cl.lookup x = X.env.cells.lookup x) → Caps X scope cl r → Caps X scope cl ((x, j) :: r)
theorem Caps.get {scope : Scope} {cl : List (Str × Addr)} : ∀ {caps : List (Str × Nat)}, Caps X scope cl caps → ∀ q ∈ caps, X.N[q.2]? = some q.1 ∧ (X.env.kindOf q.1 = some .cell ∨ X.env.kindOf q.1 = some .free) ∧ cl.lookup q.1 = X.env.cells.lookup q.1
  | _, .nil, q, h => by cases h
  | _, .cons a b c r, q, h => by
    rcases List.mem_cons.mp h with rfl | h
    · exact ⟨a, b, c⟩
    · exact r.get q h
def capV (σ : St) (caps : List (Str × Nat)) : St := caps.map fun p => (σ[p.2]?).join
/-- the tests -/
def PIf (X : Cx) (ifs : List Expr) (t : TT) : Prop :=
  ∀ (pins : List (Addr × Obj)) (s : Shared) (σ : St) (H : Hp) (Q : Bool → Hp → Prop), Inv X pins σ H s → t σ H Q →
    wpAny (model X.prog X.w) X.A (forIn ifs true fun c r => if r = true then do let ok ← isTrue c X.env (eval c X.env); pure (ForInStep.yield ok) else pure (ForInStep.yield r)) (TP X pins σ Q) X.xe s
def tYes : TT := fun _ H Q => Q true H
theorem pif_nil : PIf X [] tYes := fun _ _ _ H _ I h => wpAny_tests_nil ⟨H, I, h⟩
theorem pif_one {c : Expr} {t : TT} (h : PT X c t) : PIf X [c] t := fun pins s σ H Q I hw => wpAny_tests_one (h pins s σ H Q I hw)
def tLG (n : Nat) (caps : List (Str × Nat)) (wi : TI) (g : TG) (tt : TT) (te : TE) : TE := fun σ H Q => wi σ H fun J H1 => ∀ D, H1 D = none →
  ∃ W : Nat → Nat → St → Hp → Prop, (∃ m, W 0 m (List.replicate n none ++ capV σ caps) (upd H1 D (.lst []))) ∧ ∀ i m σ' H', W i m σ' H' →
    (J.stop i H' ∧ Q (.ref D) H') ∨ (J.go i H' ∧ ∃ N : St → Hp → Prop, (∀ σ2 H2, N σ2 H2 → ∃ m', m' < m ∧ W (i + 1) m' σ2 H2) ∧
      ∀ x H2, J.yld i H' x H2 → g x σ' H2 fun σ3 H3 => tt σ3 H3 fun b H4 => if b = true then te σ3 H4 fun y H5 => ∃ xs, H5 D = some (.lst xs) ∧ xs.length < sizeLine ∧ N σ3 (upd H5 D (.lst (xs ++ [y]))) else N σ3 H4)
structure LcOk (X : Cx) (scope : Scope) (cl : List (Str × Addr)) (caps : List (Str × Nat)) : Prop where
  kind : scope.kind = .function
  cell : ∀ x ∈ scope.names, x.2 ≠ .cell
  names : ∀ x ∈ scope.names, x.2 = .local → scope.names.lookup x.1 = some .local
  clos : closureFor scope X.env = pure cl
  cap : Caps X scope cl caps
  sub : (cl.all fun p => caps.any fun q => q.1 == p.1) = true
  has : ((relabel scope X.env).names.all fun p => p.2 == .local || p.2 == .globalImplicit || (cl.lookup p.1).isSome) = true
  own : (caps.all fun q => ((relabel scope X.env).names.lookup q.1 == some .cell) || ((relabel scope X.env).names.lookup q.1 == some .free)) = true
theorem LcOk.at {scope : Scope} {cl : List (Str × Addr)} {caps : List (Str × Nat)} (h : LcOk X scope cl caps) {x : Str} {c : Addr} (e : cl.lookup x = some c) : X.env.cells.lookup x = some c := by
  have h1 := List.all_eq_true.mp h.sub _ (PySem.mem_of_lookup e)
  obtain ⟨q, hq, e1⟩ := List.any_eq_true.mp h1
  have e2 : q.1 = x := by simpa using e1
  have := (h.cap.get q hq).2.2
  rw [e2] at this
  rw [← this]; exact e
theorem lcg_start {pins : List (Addr × Obj)} {σ : St} {H : Hp} {s : Shared} {h4 : Heap} {m : Str → Option Value} {tk : Nat} {own : List Str} {caps : List (Str × Nat)} {cl : List (Str × Addr)} {scope : Scope} {fp : List Addr} (hc : X.calm = true) (I : Inv X pins σ H s)
    (f : ∀ b ∈ fp, FpOk X pins H b) (fo : ∀ b ∈ fp, ∃ o, s.heap.get? b = some o) (L : LcOk X scope cl caps)
    (hn : h4.Ns s.heap.objs.size m) (kp : ∀ b o, s.heap.get? b = some o → h4.get? b = some o) : Inv (cxLG X (own ++ caps.map (·.1)) scope cl s H fp) [] (List.replicate own.length none ++ capV σ caps) H { s with heap := h4, toks := tk } := by
  refine ⟨⟨I.ok.mod, L.kind, I.ok.glob, I.ok.blt, Nat.le_refl _, fun x y c e1 e2 => I.ok.inj x y c (L.at e1) (L.at e2), fun x z => ?_, (fun x c e => by cases e), fun _ => I.ok.hd hc, I.ok.frames, .inl rfl, fun b hb => ⟨?_, fun x c e => ?_⟩, I.bs,
    Nat.le_trans I.ok.bsz I.sz, fun b o e hb => ?_, fun b hb hm => ?_, I.stack, I.stkFree⟩, rfl, I.bare, Un.kept kp, ⟨m, hn, fun i x v e1 e2 e3 => ?_⟩, fun x c e => ?_, I.hok.fresh (Nat.le_refl _), fun x c e => I.freeC x c (L.at e), (fun p hp => nomatch hp), I.hok.kept kp, ?_⟩
  · have z' : (relabel scope X.env).names.lookup x = some .cell ∨ (relabel scope X.env).names.lookup x = some .free := z
    have key : ∀ k, (k = NameKind.cell ∨ k = NameKind.free) → (relabel scope X.env).names.lookup x = some k → ∃ c, cl.lookup x = some c := by
      intro k hk hz
      have h1 := List.all_eq_true.mp L.has _ (PySem.mem_of_lookup hz)
      rcases hk with rfl | rfl
      · have : (cl.lookup x).isSome = true := by simpa using h1
        exact Option.isSome_iff_exists.mp this
      · have : (cl.lookup x).isSome = true := by simpa using h1
        exact Option.isSome_iff_exists.mp this
    rcases z' with z' | z'
    · exact key _ (.inl rfl) z'
    · exact key _ (.inr rfl) z'
  · obtain ⟨o, e⟩ := fo b hb
    exact Nat.ne_of_lt (Heap.lt_size e)
  · exact (f b hb).2.2.2.2.1 x c (L.at e)
  · obtain ⟨_, _, _, z, _⟩ := f b hb
    rcases z with z | z
    · exact I.ok.noex b o e z
    · exact absurd (Nat.lt_of_lt_of_le (Heap.lt_size e) (Nat.le_trans I.ok.bsz z)) (Nat.lt_irrefl _)
  · obtain ⟨_, z1, z2, _⟩ := f b hb
    rcases List.mem_cons.mp (I.stkSub b hm) with z | z
    · exact z1 z
    · exact z2 z
  · have hlt : own.length ≤ i := by
      rcases Nat.lt_or_ge i own.length with z | z
      · rw [List.getElem?_append_left (by simpa using z), List.getElem?_replicate] at e2
        rw [if_pos z] at e2; cases e2
      · exact z
    rw [List.getElem?_append_right (by simpa using hlt), List.length_replicate] at e2
    have e1' : (caps.map (·.1))[i - own.length]? = some x := by
      have : (own ++ caps.map (·.1))[i]? = some x := e1
      rw [List.getElem?_append_right hlt] at this; exact this
    unfold capV at e2
    rw [List.getElem?_map] at e1' e2
    cases hq : caps[i - own.length]? with
    | none => rw [hq] at e1'; cases e1'
    | some q =>
      rw [hq] at e1' e2
      have ex : q.1 = x := Option.some.inj e1'
      have hqm := List.mem_of_getElem? hq
      obtain ⟨a1, a2, a3⟩ := L.cap.get q hqm
      have hv : (σ[q.2]?).join = some v := Option.some.inj e2
      have hv2 : σ[q.2]? = some (some v) := by
        cases z : σ[q.2]? with
        | none => rw [z] at hv; cases hv
        | some w => rw [z] at hv; exact congrArg some hv
      obtain ⟨m0, hn0, hl0⟩ := I.loc
      rw [ex] at a1 a2 a3
      obtain ⟨u, ru, lk⟩ := hl0 q.2 x v a1 hv2 (by rcases a2 with a2 | a2; exact .inr (.inl a2); exact .inr (.inr a2))
      refine ⟨u, ru, .inr ⟨?_, ?_⟩⟩
      · have h1 := List.all_eq_true.mp L.own q hqm
        rw [ex] at h1
        show (relabel scope X.env).names.lookup x = some .cell ∨ (relabel scope X.env).names.lookup x = some .free
        simpa using h1
      · rcases lk with ⟨k, _⟩ | ⟨_, c, ec, ic⟩
        · rcases a2 with a2 | a2 <;> rw [a2] at k <;> cases k
        · refine ⟨c, a3.trans ec, ?_⟩
          obtain ⟨o, ho, hd⟩ := ic
          exact ⟨o, kp _ _ ho, hd⟩
  · obtain ⟨v, o, ho, hd⟩ := I.cell x c (L.at e)
    exact ⟨v, o, kp _ _ ho, hd⟩
  · show _ = (own ++ caps.map (·.1)).length
    simp [capV]
theorem lcg_end {pins : List (Addr × Obj)} {σ σ' : St} {H H' : Hp} {s s' : Shared} {h' : Heap} {N' : List Str} {scope : Scope} {cl : List (Str × Addr)} {fp : List Addr} (I : Inv X pins σ H s) (f : ∀ b ∈ fp, FpOk X pins H b)
    (J : Inv (cxLG X N' scope cl s H fp) [] σ' H' s') (sb : Heap.SameBut s.heap.objs.size s'.heap h') : Inv X pins σ H' { s' with heap := h' } := by
  have U : Un (frs X.stack) fp H H' s.heap s'.heap := J.base
  have ne : ∀ b o, s.heap.get? b = some o → b ≠ s.heap.objs.size := fun b o e => Nat.ne_of_lt (Heap.lt_size e)
  have nH : ∀ b o, H' b = some o → b ≠ s.heap.objs.size := fun b o e z => by
    have q : H' s.heap.objs.size = none := J.free
    rw [z, q] at e
    cases e
  have U' : Un (frs X.stack) fp H H' s.heap h' := ⟨fun b o e n hb hx => (sb.2 b (ne b o e)).trans (U.keep b o e n hb hx), fun b o e n hb hx => by
      obtain ⟨sl, z⟩ := U.slot b o e n hb hx
      exact ⟨sl, (sb.2 b (ne b o e)).trans z⟩, U.free, fun b o e hx => by
      obtain ⟨o', z⟩ := U.there b o e hx
      exact ⟨o', (sb.2 b (ne b o e)).trans z⟩, U.tups, U.frzs, U.tbls⟩
  have hok : HOk X.prog X.w H' h' := fun a o e => (J.hok a o e).stay (fun b u hb q => (sb.2 b (by
      rcases hb with hb | hb
      · rw [hb]; exact nH a o e
      · exact nH b _ hb)).trans q) (fun _ q => q) fun _ _ q => q
  refine I.call' (s' := { s' with heap := h' }) (ch := fp) J.os U' hok J.bare fun b hb => ?_
  obtain ⟨_, z1, z2, z3, z4, z5⟩ := f b hb
  exact ⟨z3, z1, z4, z5⟩
/-- the block, up to what is done with its list -/
theorem lcg_core {elt target iter : Expr} {ifs : List Expr} {scope : Scope} {cl : List (Str × Addr)} {pos : Pos} {own : List Str} {caps : List (Str × Nat)} {wi : TI} {g : TG} {tt : TT} {te : TE} {use : Option (Value → Sem Unit)} (hc : X.calm = true) (hi : PI X target iter wi) (L : LcOk X scope cl caps)
    (hg : ∀ s H ex, PG (cxLG X (own ++ caps.map (·.1)) scope cl s H ex) target g) (ht : ∀ s H ex, PIf (cxLG X (own ++ caps.map (·.1)) scope cl s H ex) ifs tt) (he : ∀ s H ex, PE (cxLG X (own ++ caps.map (·.1)) scope cl s H ex) elt te)
    {pins : List (Addr × Obj)} {s : Shared} {σ : St} {H : Hp} {Q : VK} {Q' : Value → Shared → Prop} (I : Inv X pins σ H s) (h : tLG own.length caps wi g tt te σ H Q)
    (hs : ∀ x, foldedSetIterable iter X.env x = pure x)
    (fin : ∀ (D : Addr) (s3 s' : Shared) (H3 H' : Hp) (σ' : St) (fp : List Addr), Inv X pins σ H3 s3 → (∀ b ∈ fp, FpOk X pins H3 b) → Inv (cxLG X (own ++ caps.map (·.1)) scope cl s3 H3 fp) [] σ' H' s' → Q (.ref D) H' →
      compPost (model X.prog X.w) X.A X.xe use Q' (.ref D) s3.heap.objs.size (.ok .next) s') :
    wpAny (model X.prog X.w) X.A (comprehension (.ListComp elt [⟨target, iter, ifs, 0⟩] scope pos) scope X.env iter.pos (newList []) false (eval iter X.env) use) Q' X.xe s := by
  refine wpAny_comprehension_free (g := ⟨target, iter, ifs, 0⟩) (gs := []) rfl hs L.clos L.kind L.names (thn (hi pins s σ H _ I h) fun v s1 h1 => thn h1 fun itv s2 h2 => ?_)
  obtain ⟨it, fp, tn, J, H2, rfl, I2, T, st2, f2, R⟩ := h2
  have hD : H2 s2.heap.objs.size = none := I2.hok.fresh (Nat.le_refl _)
  obtain ⟨W, ⟨m0, w0⟩, turn⟩ := R _ hD
  refine wpAny_newList ?_ (Nat.zero_le _)
  have I3 : Inv X pins σ (upd H2 s2.heap.objs.size (.lst [])) { s2 with heap := s2.heap.push { cls := .type "list", data := .seq ([] : List Value).toArray } } := I2.lnew (t' := s2.toks) .nil (Nat.zero_le _)
  have o2 := T.obj 0 _ st2
  have lt2 : ∀ b ∈ fp, b < s2.heap.objs.size := fun b hb => by
    obtain ⟨o, e, _⟩ := o2 b hb
    exact Heap.lt_size e
  have f3 : ∀ b ∈ fp, FpOk X pins (upd H2 s2.heap.objs.size (.lst [])) b := fun b hb => ⟨by rw [upd_ne (Nat.ne_of_lt (lt2 b hb))]; exact (f2 b hb).1, (f2 b hb).2⟩
  have st3 : tn 0 (s2.heap.push { cls := .type "list", data := .seq ([] : List Value).toArray }) := T.keep 0 _ _ st2 fun b hb o e => Heap.get?_push_of_some _ e
  generalize hs3 : ({ s2 with heap := s2.heap.push { cls := .type "list", data := .seq ([] : List Value).toArray } } : Shared) = s3 at I3 ⊢
  have st3' : tn 0 s3.heap := by rw [← hs3]; exact st3
  generalize hH3 : upd H2 s2.heap.objs.size (.lst []) = H3 at I3 f3 w0
  generalize hDD : s2.heap.objs.size = D at *
  have o3 : ∀ b ∈ fp, ∃ o, s3.heap.get? b = some o := fun b hb => by
    obtain ⟨o, e, _⟩ := T.obj 0 _ st3' b hb
    exact ⟨o, e⟩
  refine wpAny_newFunctionEnv L.cell (fun x hx => nomatch hx) (fun h4 hn4 sb4 => ?_) L.kind
  have kp4 : ∀ b o, s3.heap.get? b = some o → h4.get? b = some o := fun b o e => (sb4.2 b (Nat.ne_of_lt (Heap.lt_size e))).trans (Heap.get?_push_of_some _ e)
  have I4 : Inv (cxLG X (own ++ caps.map (·.1)) scope cl s3 H3 fp) [] (List.replicate own.length none ++ capV σ caps) H3 { s3 with heap := h4, toks := s3.toks + ([] : List (Str × Value)).length } := lcg_start hc I3 f3 o3 L hn4 kp4
  have stat : ∀ {H' : Hp}, (∀ b ∈ fp, H' b = none) → ∀ b ∈ fp, FpOk (cxLG X (own ++ caps.map (·.1)) scope cl s3 H3 fp) [] H' b := fun hn b hb => by
    obtain ⟨o, e⟩ := o3 b hb
    obtain ⟨_, z1, z2, _, z4, _⟩ := f3 b hb
    refine ⟨hn b hb, Nat.ne_of_lt (Heap.lt_size e), fun hm => ?_, .inl hb, fun x c e => z4 x c (L.at e), (fun p hp => nomatch hp)⟩
    rcases List.mem_cons.mp (I3.stkSub b hm) with z | z
    · exact z1 z
    · exact z2 z
  have LL : ∀ Rr : Result → Shared → Prop, (∀ s' H' σ', Inv (cxLG X (own ++ caps.map (·.1)) scope cl s3 H3 fp) [] σ' H' s' → Q (.ref D) H' → Rr (.ok .next) s') →
      codeAny (model X.prog X.w) X.A (.compLoop (.ListComp elt [⟨target, iter, ifs, 0⟩] scope pos) 0 (.ref it) (.ref D) (cxLG X (own ++ caps.map (·.1)) scope cl s3 H3 fp).env) Rr { s3 with heap := h4, toks := s3.toks + ([] : List (Str × Value)).length } := by
    intro Rr hR
    refine codeAny_loop rfl (fun n s' => ∃ i σ' H', Inv (cxLG X (own ++ caps.map (·.1)) scope cl s3 H3 fp) [] σ' H' s' ∧ tn i s'.heap ∧ (∀ b ∈ fp, H' b = none) ∧ W i n σ' H') ?_ m0
      ⟨0, _, H3, I4, T.keep 0 _ _ st3' fun b _ o e => kp4 b o e, fun b hb => (f3 b hb).1, w0⟩
    rintro n s5 ⟨i, σ5, H5, I5, st5, fr5, w5⟩
    show wpAny _ X.A ((compTurn (.ListComp elt [⟨target, iter, ifs, 0⟩] scope pos) 0 (.ref it) (.ref D) (cxLG X (own ++ caps.map (·.1)) scope cl s3 H3 fp).env).onRaise (fun x => do noteFrame x (cxLG X (own ++ caps.map (·.1)) scope cl s3 H3 fp).env; theTreesLotGoes x)) _ _ s5
    refine wpAny_noted ?_
    rw [compTurn_list]
    refine wpAny_bind (wpAny_standAt ?_)
    rcases turn i n σ5 H5 w5 with ⟨stop, qn⟩ | ⟨go, N, hN, stp⟩
    · refine wpAny_bind (thn (T.done (cxLG X (own ++ caps.map (·.1)) scope cl s3 H3 fp) rfl rfl rfl rfl i [] s5 σ5 H5 _ I5 (stat fr5) st5 stop) fun r s6 ⟨hr, I6⟩ => ?_)
      subst hr
      exact wpAny_pure (hR s6 H5 σ5 I6 qn)
    · refine wpAny_bind (thn (T.item (cxLG X (own ++ caps.map (·.1)) scope cl s3 H3 fp) rfl rfl rfl rfl i [] s5 σ5 H5 _ I5 (stat fr5) st5 go) fun r s6 ⟨u, hr, h6⟩ => ?_)
      subst hr
      refine wpAny_bind (thn h6 fun _ s7 ⟨x, H7, I7, r7, y7, st7, fr7⟩ => ?_)
      have I7' := I7.pinned (stat fr7) (T.obj _ _ st7)
      refine wpAny_bind (wpAny_mono (hg s3 H3 fp _ s7 σ5 H7 x u _ I7' r7 (stp x H7 y7)) (fun _ s8 ⟨σ8, H8, I8, q8⟩ => ?_) fun _ _ z => False.elim z)
      refine wpAny_bind (wpAny_mono (ht s3 H3 fp _ s8 σ8 H8 _ I8 q8) (fun ok s8' ⟨H8', I8', q8'⟩ => ?_) fun _ _ z => False.elim z)
      have back : ∀ (s10 : Shared) (H10 : Hp), Inv (cxLG X (own ++ caps.map (·.1)) scope cl s3 H3 fp) ([] ++ pinsAt fp s7.heap) σ8 H10 s10 → N σ8 H10 →
          ∃ m', m' < n ∧ ∃ i σ' H', Inv (cxLG X (own ++ caps.map (·.1)) scope cl s3 H3 fp) [] σ' H' s10 ∧ tn i s10.heap ∧ (∀ b ∈ fp, H' b = none) ∧ W i m' σ' H' := by
        intro s10 H10 I10 n10
        obtain ⟨m', hm, w10⟩ := hN σ8 H10 n10
        refine ⟨m', hm, i + 1, σ8, H10, I10.unpinned, T.keep _ _ _ st7 fun b hb o e => (I10.pin (b, o) (List.mem_append_right _ (List.mem_append_right _ (mem_pinsAt hb e)))).1, fun b hb => ?_, w10⟩
        obtain ⟨o, e, d⟩ := T.obj _ _ st7 b hb
        exact (I10.pin (b, o) (List.mem_append_right _ (List.mem_append_right _ (mem_pinsAt hb e)))).2.1
      cases ok with
      | false =>
        have q9 : N σ8 H8' := q8'
        exact wpAny_pure ⟨rfl, back _ _ I8' q9⟩
      | true =>
        have q9 := q8'
        rw [if_pos rfl] at q9
        refine wpAny_bind (wpAny_bind (wpAny_mono (he s3 H3 fp _ s8' σ8 H8' _ I8' q9) (fun y s9 ⟨yv, H9, I9, r9, q9⟩ => ?_) fun _ _ z => False.elim z))
        obtain ⟨xs, hx, hz, q9⟩ := q9
        refine wpAny_bind (wpAny_mono (mt_append (X := cxLG X (own ++ caps.map (·.1)) scope cl s3 H3 fp) _ s9 σ8 H9 (.ref D) [yv] (.ref D) [y] (fun v H' => N σ8 H') I9 rfl (.cons r9 .nil) ⟨D, xs, yv, rfl, rfl, hx, hz, q9⟩) (fun _ s10 ⟨_, H10, I10, _, n10⟩ => ?_) fun _ _ z => False.elim z)
        exact wpAny_pure (wpAny_pure ⟨rfl, back _ _ I10 n10⟩)
  have fin' : ∀ s' H' σ', Inv (cxLG X (own ++ caps.map (·.1)) scope cl s3 H3 fp) [] σ' H' s' → Q (.ref D) H' → compPost (model X.prog X.w) X.A X.xe use Q' (.ref D) s3.heap.objs.size (.ok .next) s' := fun s' H' σ' J q => fin D s3 s' H3 H' σ' fp I3 f3 J q
  refine codeAny_compStart_list (LL _ fin') ?_
  exact T.self _ 0 _ _ _ (T.keep 0 _ _ st3' fun b _ o e => kp4 b o e) (LL _ fin')
/-- as a value -/
theorem pe_lcG {elt target iter : Expr} {ifs : List Expr} {scope : Scope} {cl : List (Str × Addr)} {pos : Pos} (own : List Str) {caps : List (Str × Nat)} {wi : TI} {g : TG} {tt : TT} {te : TE} (hc : X.calm = true) (hi : PI X target iter wi) (L : LcOk X scope cl caps)
    (hg : ∀ s H ex, PG (cxLG X (own ++ caps.map (·.1)) scope cl s H ex) target g) (ht : ∀ s H ex, PIf (cxLG X (own ++ caps.map (·.1)) scope cl s H ex) ifs tt) (he : ∀ s H ex, PE (cxLG X (own ++ caps.map (·.1)) scope cl s H ex) elt te)
    (hs : ∀ x, foldedSetIterable iter X.env x = pure x := by intro _; rfl) : PE X (.ListComp elt [⟨target, iter, ifs, 0⟩] scope pos) (tLG own.length caps wi g tt te) := by
  intro pins s σ H Q I h
  rw [eval_ListComp]
  refine lcg_core (use := none) hc hi L hg ht he I h hs fun D s3 s' H3 H' σ' fp I3 f3 J q => ?_
  obtain ⟨m, hn, _⟩ := J.loc
  exact ⟨m, hn, fun h' sb => ⟨.ref D, H', lcg_end I3 f3 J sb, rfl, q⟩⟩
/-- name = [..] -/
theorem ps_setLC {elt target iter : Expr} {ifs : List Expr} {scope : Scope} {cl : List (Str × Addr)} {pos : Pos} {i : Nat} {y : Str} {py spos : Pos} (own : List Str) {caps : List (Str × Nat)} {wi : TI} {g : TG} {tt : TT} {te : TE} (hc : X.calm = true) (hN : X.N.Nodup) (hy : X.N[i]? = some y) (hl : X.env.scope.names.lookup y = some .local)
    (hi : PI X target iter wi) (L : LcOk X scope cl caps)
    (hg : ∀ s H ex, PG (cxLG X (own ++ caps.map (·.1)) scope cl s H ex) target g) (ht : ∀ s H ex, PIf (cxLG X (own ++ caps.map (·.1)) scope cl s H ex) ifs tt) (he : ∀ s H ex, PE (cxLG X (own ++ caps.map (·.1)) scope cl s H ex) elt te)
    (hsw : swapsWith (.ListComp elt [⟨target, iter, ifs, 0⟩] scope pos) (some (.Name y py)) spos.line X.env = pure true)
    (hs : ∀ x, foldedSetIterable iter X.env x = pure x := by intro _; rfl) : PS X (.Assign [.Name y py] (.ListComp elt [⟨target, iter, ifs, 0⟩] scope pos) spos) (tAsg (tLG own.length caps wi g tt te) (gName i)) := by
  intro pins s σ H D I h
  rw [exec_Assign_Name_used _ _ _ _ hsw]
  refine wpAny_bind (wpAny_standAt (wpAny_bind ?_))
  show wpAny _ _ (do let _ ← comprehension (.ListComp elt [⟨target, iter, ifs, 0⟩] scope pos) scope X.env _ (newList []) false (eval iter X.env) (some (assign (.Name y py) X.env))) _ _ s
  refine wpAny_bind (wpAny_mono (lcg_core (use := some (assign (.Name y py) X.env)) (Q := fun v H' => D.nx (σ.set i (some v)) H') (Q' := fun _ s' => SP X pins D .next s') hc hi L hg ht he I h hs fun D' s3 s' H3 H' σ' fp I3 f3 J q => ?_) (fun _ s' hq => wpAny_pure (wpAny_pure hq)) fun _ _ e => e)
  obtain ⟨m, hn, _⟩ := J.loc
  obtain ⟨oC, es, ep, hoC, hdC, hrest⟩ := id hn
  have hCC : (cxLG X (own ++ caps.map (·.1)) scope cl s3 H3 fp).env.locals = s3.heap.objs.size := rfl
  rw [hCC] at hoC hn
  have I5 : Inv X pins σ H' s' := lcg_end I3 f3 J (Heap.SameBut.refl _ _)
  have fok : FpOk X pins H' s3.heap.objs.size := I3.fpOk (Nat.le_refl _) J.free
  obtain ⟨k1, k2, k3, k4, k5, k6⟩ := fok
  have I6 : Inv X (pins ++ [(s3.heap.objs.size, oC)]) σ H' s' := I5.pins_of fun p hp => by
    rcases List.mem_append.mp hp with z | z
    · exact I5.pin p (List.mem_append_right _ z)
    · have e : p = (s3.heap.objs.size, oC) := by simpa using z
      subst e
      exact ⟨hoC, k1, k2, k3, fun v e => by rw [hdC] at e; cases e⟩
  show wpAny _ _ (assign (.Name y py) X.env (.ref D')) _ _ s'
  refine wpAny_assign_Name (store_ok I6 hN hy (Or.inl hl) (show RelV (.ref D') (.ref D') from rfl) (fun s'' I7 => ?_) (.inr hl))
  have pC := (I7.pin (s3.heap.objs.size, oC) (List.mem_append_right _ (List.mem_append_right _ (List.mem_singleton.mpr rfl)))).1
  refine ⟨m, ⟨oC, es, ep, pC, hdC, hrest⟩, fun h' sb => ?_⟩
  have I8 : Inv X pins (σ.set i (some (.ref D'))) H' s'' := I7.pins_of fun p hp => I7.pin p (List.mem_append_right _ (List.mem_append_left _ hp))
  have I9 := I8.turned (t' := s''.toks) (it := s3.heap.objs.size) (h' := h') (fun b o hb e => (sb.2 b hb).trans e) k1 k2 k4 k5 k6
  exact ⟨_, H', I9, q⟩
end
end L2
namespace L2
open PySem PySem.Spec PyProof.Rows
section
variable {X : Cx}
/-! ### comprehensions, by what they walk -/
theorem lcg_list {K : PySem.W.Frag} {a D : Addr} {xs : List V} {g : TG} {tt : TT} {te : TE} {Q : VK} {σ0 : St} {H1 : Hp} (Pv : Nat → St → Hp → Prop) (h0 : Pv 0 σ0 (upd H1 D (.lst []))) (hl : ∀ i σ H, i ≤ xs.length → Pv i σ H → SqL K H a xs)
    (hs : ∀ i x σ H, xs[i]? = some x → Pv i σ H → g x σ H fun σ3 H3 => tt σ3 H3 fun b H4 => if b = true then te σ3 H4 fun y H5 => ∃ zs, H5 D = some (.lst zs) ∧ zs.length < sizeLine ∧ Pv (i + 1) σ3 (upd H5 D (.lst (zs ++ [y]))) else Pv (i + 1) σ3 H4) (hd : ∀ σ H, Pv xs.length σ H → Q (.ref D) H) :
    ∃ W : Nat → Nat → St → Hp → Prop, (∃ m, W 0 m σ0 (upd H1 D (.lst []))) ∧ ∀ i m σ' H', W i m σ' H' →
      ((Itl K a).stop i H' ∧ Q (.ref D) H') ∨ ((Itl K a).go i H' ∧ ∃ N : St → Hp → Prop, (∀ σ2 H2, N σ2 H2 → ∃ m', m' < m ∧ W (i + 1) m' σ2 H2) ∧
        ∀ x H2, (Itl K a).yld i H' x H2 → g x σ' H2 fun σ3 H3 => tt σ3 H3 fun b H4 => if b = true then te σ3 H4 fun y H5 => ∃ zs, H5 D = some (.lst zs) ∧ zs.length < sizeLine ∧ N σ3 (upd H5 D (.lst (zs ++ [y]))) else N σ3 H4) := by
  refine ⟨fun i m σ H => m = xs.length - i ∧ i ≤ xs.length ∧ Pv i σ H, ⟨xs.length, rfl, Nat.zero_le _, h0⟩, ?_⟩
  rintro i m σ H ⟨rfl, hi, p⟩
  have q := hl i σ H hi p
  rcases Nat.lt_or_ge i xs.length with hlt | hge
  · refine .inr ⟨⟨xs, xs[i], q, List.getElem?_eq_getElem hlt⟩, Pv (i + 1), fun σ' H' p' => ⟨xs.length - (i + 1), by omega, rfl, hlt, p'⟩, fun x H' y => ?_⟩
    obtain ⟨e, y⟩ := y
    subst e
    exact hs i x σ _ (y xs q) p
  · have e : i = xs.length := Nat.le_antisymm hi hge
    subst e
    exact .inl ⟨⟨xs, q, Nat.le_refl _⟩, hd σ H p⟩
theorem lcg_tup {K : PySem.W.Frag} {a D : Addr} {xs : List V} {g : TG} {tt : TT} {te : TE} {Q : VK} {σ0 : St} {H1 : Hp} (Pv : Nat → St → Hp → Prop) (h0 : Pv 0 σ0 (upd H1 D (.lst []))) (hl : ∀ i σ H, i ≤ xs.length → Pv i σ H → SqT K H a xs)
    (hs : ∀ i x σ H, xs[i]? = some x → Pv i σ H → g x σ H fun σ3 H3 => tt σ3 H3 fun b H4 => if b = true then te σ3 H4 fun y H5 => ∃ zs, H5 D = some (.lst zs) ∧ zs.length < sizeLine ∧ Pv (i + 1) σ3 (upd H5 D (.lst (zs ++ [y]))) else Pv (i + 1) σ3 H4) (hd : ∀ σ H, Pv xs.length σ H → Q (.ref D) H) :
    ∃ W : Nat → Nat → St → Hp → Prop, (∃ m, W 0 m σ0 (upd H1 D (.lst []))) ∧ ∀ i m σ' H', W i m σ' H' →
      ((Itt K a).stop i H' ∧ Q (.ref D) H') ∨ ((Itt K a).go i H' ∧ ∃ N : St → Hp → Prop, (∀ σ2 H2, N σ2 H2 → ∃ m', m' < m ∧ W (i + 1) m' σ2 H2) ∧
        ∀ x H2, (Itt K a).yld i H' x H2 → g x σ' H2 fun σ3 H3 => tt σ3 H3 fun b H4 => if b = true then te σ3 H4 fun y H5 => ∃ zs, H5 D = some (.lst zs) ∧ zs.length < sizeLine ∧ N σ3 (upd H5 D (.lst (zs ++ [y]))) else N σ3 H4) := by
  refine ⟨fun i m σ H => m = xs.length - i ∧ i ≤ xs.length ∧ Pv i σ H, ⟨xs.length, rfl, Nat.zero_le _, h0⟩, ?_⟩
  rintro i m σ H ⟨rfl, hi, p⟩
  have q := hl i σ H hi p
  rcases Nat.lt_or_ge i xs.length with hlt | hge
  · refine .inr ⟨⟨xs, xs[i], q, List.getElem?_eq_getElem hlt⟩, Pv (i + 1), fun σ' H' p' => ⟨xs.length - (i + 1), by omega, rfl, hlt, p'⟩, fun x H' y => ?_⟩
    obtain ⟨e, y⟩ := y
    subst e
    exact hs i x σ _ (y xs q) p
  · have e : i = xs.length := Nat.le_antisymm hi hge
    subst e
    exact .inl ⟨⟨xs, q, Nat.le_refl _⟩, hd σ H p⟩
theorem lcg_range {lo : Int} {n : Nat} {D : Addr} {g : TG} {tt : TT} {te : TE} {Q : VK} {σ0 : St} {H1 : Hp} (Pv : Nat → St → Hp → Prop) (h0 : Pv 0 σ0 (upd H1 D (.lst [])))
    (hs : ∀ i σ H, i < n → Pv i σ H → g (.int (lo + i)) σ H fun σ3 H3 => tt σ3 H3 fun b H4 => if b = true then te σ3 H4 fun y H5 => ∃ zs, H5 D = some (.lst zs) ∧ zs.length < sizeLine ∧ Pv (i + 1) σ3 (upd H5 D (.lst (zs ++ [y]))) else Pv (i + 1) σ3 H4) (hd : ∀ σ H, Pv n σ H → Q (.ref D) H) :
    ∃ W : Nat → Nat → St → Hp → Prop, (∃ m, W 0 m σ0 (upd H1 D (.lst []))) ∧ ∀ i m σ' H', W i m σ' H' →
      ((Itr lo n).stop i H' ∧ Q (.ref D) H') ∨ ((Itr lo n).go i H' ∧ ∃ N : St → Hp → Prop, (∀ σ2 H2, N σ2 H2 → ∃ m', m' < m ∧ W (i + 1) m' σ2 H2) ∧
        ∀ x H2, (Itr lo n).yld i H' x H2 → g x σ' H2 fun σ3 H3 => tt σ3 H3 fun b H4 => if b = true then te σ3 H4 fun y H5 => ∃ zs, H5 D = some (.lst zs) ∧ zs.length < sizeLine ∧ N σ3 (upd H5 D (.lst (zs ++ [y]))) else N σ3 H4) := by
  refine ⟨fun i m σ H => m = n - i ∧ i ≤ n ∧ Pv i σ H, ⟨n, rfl, Nat.zero_le _, h0⟩, ?_⟩
  rintro i m σ H ⟨rfl, hi, p⟩
  rcases Nat.lt_or_ge i n with hlt | hge
  · refine .inr ⟨hlt, Pv (i + 1), fun σ' H' p' => ⟨n - (i + 1), by omega, rfl, hlt, p'⟩, fun x H' y => ?_⟩
    obtain ⟨rfl, rfl⟩ := y
    exact hs i σ _ hlt p
  · have e : i = n := Nat.le_antisymm hi hge
    subst e
    exact .inl ⟨Nat.le_refl _, hd σ H p⟩
/-! ### a method of an object of one of several classes -/
def tMethF (dom : Addr → Prop) (m : Str) (sp : Addr → Sp) (E : XK) (ta : TE) (t : TA) : TE := fun σ H Q => ta σ H fun x H1 => ∃ a C dx fs, x = .ref a ∧ H1 a = some (.ins C dx fs) ∧ dom C ∧ fs.lookup m = none ∧ t σ H1 fun vs H2 => sp C (x :: vs) H2 Q E
def Fam (P : Program) (w : World) (K : PySem.W.Frag) (mg : Str → Option Value) (base : Heap) (CX : CXT) (k : Nat) (dom : Addr → Prop) (m : Str) (ps : List Str) (sp : Addr → Sp) : Prop :=
  ∀ C, dom C → ∃ f fd, Cls K C ∧ Meth K C m f ∧ FnOk P w K mg base CX k f fd ps (sp C) ∧ Binds K fd ps []
theorem pe_methF {pl : Sem Bool} {CX : CXT} {k : Nat} {ps : List Str} {dom : Addr → Prop} {sp : Addr → Sp} {E : XK} {m : Str} {pos apos : Pos} {e o : Expr} {es : List Expr} {ta : TE} {t : TA} (he : PE X o ta) (F : Fam X.prog X.w X.K X.mg X.base CX k dom m ps sp) (hr : Room k X.A) (hx : Passes CX X E) (ha : PA X (e :: es) t)
    (hst : starEach (e :: es) X.env = (false, eval e X.env) :: starEach es X.env := by rfl) (hpl : (backTo pos (starEach es X.env)).any (·.1) = false := by rfl)
    (ht : eval (.Call (.Attribute o m apos) (e :: es) [] pos) X.env = (do
      let ov ← eval o X.env
      standAt apos.atName
      let (f, first) ← holding [ov] (getMethod ov m pl)
      callWith pos f first (backTo pos (starEach (e :: es) X.env)) (backToKw pos (keywordEach [] X.env))) := by rfl) :
    PE X (.Call (.Attribute o m apos) (e :: es) [] pos) (tMethF dom m sp E ta t) := by
  intro pins s σ H Q I h
  refine PySem.W.methodCall_KW (pl := pl) (thn (he pins s σ H _ I h) fun u s1 ⟨x, H1, I1, rx, a, C, dx, fs, ex, ea, hd, l, q⟩ => ?_) ht
  subst ex
  obtain rfl : u = Value.ref a := rx
  obtain ⟨f, fd, c, hm, G, hb⟩ := F C hd
  refine getmeth_ok I1 ea c hm l ?_
  refine PySem.W.callWith_K (first := [.ref a]) (h₀ := X.base) I.ok.mod.kin hm.kp (thn (ha pos pins s1 σ H1 _ I1 q) fun us s2 ⟨vs, H2, I2, r, q2⟩ => ⟨I2.kIn, ?_⟩) hst hpl
  exact run_fn (us := .ref a :: us) (vs := .ref a :: vs) G hr hb .nil hx I2 (.cons rfl r) (by rw [List.append_nil]; exact q2)
theorem pe_methF0 {pl : Sem Bool} {CX : CXT} {k : Nat} {ps : List Str} {dom : Addr → Prop} {sp : Addr → Sp} {E : XK} {m : Str} {pos apos : Pos} {o : Expr} {ta : TE} (he : PE X o ta) (F : Fam X.prog X.w X.K X.mg X.base CX k dom m ps sp) (hr : Room k X.A) (hx : Passes CX X E)
    (ht : eval (.Call (.Attribute o m apos) [] [] pos) X.env = (do
      let ov ← eval o X.env
      standAt apos.atName
      let (f, first) ← holding [ov] (getMethod ov m pl)
      callWith pos f first (backTo pos (starEach [] X.env)) (backToKw pos (keywordEach [] X.env))) := by rfl) :
    PE X (.Call (.Attribute o m apos) [] [] pos) (tMethF dom m sp E ta tNil) := by
  intro pins s σ H Q I h
  refine PySem.W.methodCall_KW (pl := pl) (thn (he pins s σ H _ I h) fun u s1 ⟨x, H1, I1, rx, a, C, dx, fs, ex, ea, hd, l, q⟩ => ?_) ht
  subst ex
  obtain rfl : u = Value.ref a := rx
  obtain ⟨f, fd, c, hm, G, hb⟩ := F C hd
  refine getmeth_ok I1 ea c hm l ?_
  exact PySem.W.callWith_K0 (first := [.ref a]) I1.kIn hm.kp (run_fn (us := [.ref a]) (vs := [.ref a]) G hr hb .nil hx I1 (.cons rfl .nil) q)
/-! ### C.m(..), C a class of the text: no object goes ahead -/
structure ClsFn (K : PySem.W.Frag) (C : Addr) (mc : Value) (m : Str) (f : Addr) : Prop where
  ga : PySem.W.specialIn K (.ref C) "__getattribute__" = some (some (.builtin "type.__getattribute__"))
  rd : PySem.W.readsIn K C mc = true
  at_ : PySem.W.findCls K (.ref C) mc m = some (.val (.ref f))
  kp : PySem.W.keepIn K (.ref f) = true
theorem pe_clsFn {pl : Sem Bool} {CX : CXT} {k : Nat} {f C : Addr} {fd : FuncData} {mc : Value} {ps : List Str} {sp : Sp} {E : XK} {x m : Str} {p pos apos : Pos} {e : Expr} {es : List Expr} {t : TA} (c : ClsFn X.K C mc m f) (G : FnOk X.prog X.w X.K X.mg X.base CX k f fd ps sp) (hr : Room k X.A) (hg : Gl X x) (hm : X.mg x = some (.ref C))
    (hb : Binds X.K fd ps []) (hx : Passes CX X E) (ha : PA X (e :: es) t) (hdb : (x == ("__debug__" : Str)) = false := by decide)
    (hst : starEach (e :: es) X.env = (false, eval e X.env) :: starEach es X.env := by rfl) (hpl : (backTo pos (starEach es X.env)).any (·.1) = false := by rfl)
    (ht : eval (.Call (.Attribute (.Name x p) m apos) (e :: es) [] pos) X.env = (do
      let ov ← eval (.Name x p) X.env
      standAt apos.atName
      let (f, first) ← holding [ov] (getMethod ov m pl)
      callWith pos f first (backTo pos (starEach (e :: es) X.env)) (backToKw pos (keywordEach [] X.env))) := by rfl) :
    PE X (.Call (.Attribute (.Name x p) m apos) (e :: es) [] pos) (tCall sp [] E t) := by
  intro pins s σ H Q I h
  refine PySem.W.methodCall_KW (pl := pl) (ld_glob I hg hm ?_ hdb) ht
  refine PySem.W.method_cls I.kIn c.ga (PySem.W.cls_value I.kIn c.rd c.at_ rfl ?_)
  have I1 := I.tok (s.toks + 1)
  refine PySem.W.callWith_K (first := []) (h₀ := X.base) I.ok.mod.kin c.kp (thn (ha pos pins _ σ H _ I1 h) fun us s2 ⟨vs, H2, I2, r, q2⟩ => ⟨I2.kIn, ?_⟩) hst hpl
  exact run_fn (us := us) (vs := vs) G hr hb .nil hx I2 r q2
/-! ### isinstance -/
theorem call_isi : CallR X (.builtin "isinstance") (fun xs H Q => ∃ (x cv : V) (c t : Value) (b : Bool), xs = [x, cv] ∧ (∀ u, RelV cv u → u = c) ∧ TyOf X.K H x t ∧ PySem.W.kitOne X.K t c = some b ∧ Q (.bl b) H) := by
  intro pins s σ H xs us Q I r h
  obtain ⟨x, cv, c, t, b, rfl, hc, ty, e, q⟩ := h
  obtain ⟨u, w', rfl, r1, r2⟩ := vals2 r
  have := hc _ r2
  subst this
  exact isinst_ok I r1 ty e fun tk => ⟨.bl b, H, I.tok tk, rfl, q⟩
theorem kit_ss (K : PySem.W.Frag) (n : String) : PySem.W.kitOne K (.type n) (.type n) = some true := by
  unfold PySem.W.kitOne
  rw [if_pos (by simp)]
/-! ### xs.extend(a tuple) -/
section
open AutoSeq1 (wpAny_loadPart')
open MeetsSeq MeetsSeq2 MeetsSeq3 AutoSeq1
theorem list_extend_tup (l : Addr) (items : Array Value) (n : Nat) (b : Addr) (items2 : Array Value) (n2 : Nat) (d2 : Option Addr) (s2 : Array (Option Value)) (hs0 : ¬(!items.isEmpty && Builtin.List.listTooLong (items.size + items2.size)) = true) (hs1 : items.size ≤ sizeLine) (hs2 : items.size + items2.size ≤ sizeLine + 1) :
    Meets (Builtin.«list.extend» ⟨[.ref l, .ref b], []⟩) (fun _ R s => s.heap.get? l = some { cls := .type "list", dict := none, data := .seq items n, slots := #[] } ∧ s.heap.get? b = some { cls := .type "tuple", dict := d2, data := .seq items2 n2, slots := s2 } ∧ R (.ok (.ret Value.none)) { s with heap := s.heap.update l (Obj.mapSeq fun x => x ++ items2), toks := s.toks }) :=
  .of_wp fun prog w A R s h => by
    obtain ⟨hp, g, d, tk, os⟩ := s; obtain ⟨hl, hb, h⟩ := h; have f1 := idx_int; have f2 := AutoSeq1.sub_tuple_tuple; have f3 := AutoSeq1.sub_list_list; have f4 := AutoSeq1.sub_tuple_list; have f5 := AutoSeq1.sub_list_tuple;
    have hz' : (items ++ items2).size ≤ sizeLine + 1 := by rw [Array.size_append]; exact hs2
    wp_walk using (wpAny_updateSeq hl rfl (hz := hs1) (_hz' := hz')), wpAny_loadPart' hl, wpAny_loadPart' hb; exact ⟨_, rfl, h⟩
end
theorem mt_extendT : MtM X "list.extend" (fun x vs H Q => ∃ l b xs zs, x = .ref l ∧ vs = [.ref b] ∧ H l = some (.lst xs) ∧ SqT X.K H b zs ∧ xs.length + zs.length ≤ sizeLine ∧ Q .non (upd H l (.lst (xs ++ zs)))) := by
  intro pins s σ H x vs v us Q I rx rv h
  obtain ⟨l, b, xs, zs, rfl, rfl, hH, hB, hz, q⟩ := h
  cases rx
  obtain ⟨u, rfl, ru⟩ := rv.one
  cases ru
  obtain ⟨z, its, n, r, hl, e⟩ := I.lstM hH
  obtain ⟨its2, r2, p2, z2⟩ := I.tuple hB
  have hl2 := r2.length
  obtain ⟨⟨c2, d2, t2, o2⟩, e2, f2, n2, m2⟩ := id p2
  simp only at f2 m2
  subst f2 m2
  have hsz : its.toArray.size + its2.toArray.size ≤ sizeLine := by rw [List.size_toArray, List.size_toArray]; omega
  have hlong : ¬ (!its.toArray.isEmpty && Builtin.List.listTooLong (its.toArray.size + its2.toArray.size)) = true := by
    rw [notLongL hsz, Bool.and_false]
    exact Bool.false_ne_true
  refine call_meets PySem.F.slot_list_extend ⟨_, e, rfl⟩ PySem.F.entry_list_extend (PySem.F.args_list_extend_2 _ _)
    (list_extend_tup l its.toArray n b its2.toArray n2 d2 o2 hlong (by rw [List.size_toArray]; omega) (by omega)) ⟨e, e2, ?_⟩
  refine ⟨.non, _, I.lset (its' := its ++ its2) hH e (by simp) (r.append r2) ?_, rfl, q⟩
  rw [List.length_append]
  omega
/-! ### dicts -/
theorem mt_dclear : MtM X "dict.clear" (fun x vs H Q => ∃ d kvs, x = .ref d ∧ vs = [] ∧ H d = some (.dK kvs) ∧ Q .non (upd H d (.dK []))) := by
  intro pins s σ H x vs v us Q I rx rv h
  obtain ⟨d, kvs, rfl, rfl, hH, q⟩ := h
  cases rx
  cases rv.zero
  obtain ⟨hz, hy, vs', hk, hD⟩ := (show ObjOk X.prog X.w H s.heap d (.dK kvs) from I.hok d _ hH)
  refine call_meetsIn PySem.F.slot_dict_clear hD.typeIs PySem.F.entry_dict_clear (PySem.F.args_dict_clear_1 _) (meets_dict_clear (knd := mixKind X.prog X.w) (d := d)) ⟨vs', hD, by rw [← hk.length]; exact hz, fun h' hmm hs => ?_⟩
  refine ⟨.non, _, I.write (t' := s.toks) (x := d) (e := d) (o := .dK []) ?_ (.inl rfl) (fun b u hb z => (hs.2 b hb).trans z) ?_ ⟨Nat.zero_le _, hy, [], .nil, hmm⟩, rfl, q⟩
  · rw [hH]; trivial
  · obtain ⟨o, _, _, ho, _⟩ := hmm
    exact ⟨o, ho⟩
/-- d != e, two dicts that have the same, in the same order -/
theorem op_ne_dict (hu : X.A.units + 8 < cLine) : OpR X (compareOp .NotEq) (fun x y H Q => ∃ a b kvs, x = .ref a ∧ y = .ref b ∧ H a = some (.dK kvs) ∧ H b = some (.dK kvs) ∧ (kvs.map (·.1)).Nodup ∧ (∀ p ∈ kvs, flatV p.2 = true) ∧ Q (.bl false) H) := by
  intro pins s σ H x y v u Q I r1 r2 h
  obtain ⟨a, b, kvs, rfl, rfl, h1, h2, hn, hf, q⟩ := h
  cases r1
  cases r2
  obtain ⟨z1, y1, v1, k1, d1⟩ := dk_of I.hok h1
  obtain ⟨z2, y2, v2, k2, d2⟩ := dk_of I.hok h2
  refine PySem.W.keq_ne (r := true) y1 y2 d1 d2 (by omega) (fun _ => hits_all _ fun p hp => ?_) ?_
  · obtain ⟨p', hp', e1, e2⟩ := kv_mem k1 p hp
    have hv : valV kvs p.1 = some p'.2 := valV_mem hn (by rw [← e1]; exact hp')
    have hr := k2.val p.1
    rw [hv] at hr
    obtain ⟨y, ey, ry⟩ := RelO.some_of hr
    have f := hf p' hp'
    have z := eqAt_V (A := X.A.in1) (s := s) e2 ry f f
    rw [eqV_self f] at z
    exact ⟨y, ey, z⟩
  · have e : (v1.length == v2.length) = true := by
      rw [← k1.length, ← k2.length]
      exact beq_self_eq_true _
    rw [e]
    exact ⟨.bl false, H, I, rfl, q⟩
/-- xs == [] -/
theorem op_eq_nil (hu : X.A.units + 8 < cLine) : OpR X (compareOp .Eq) (fun x y H Q => ∃ a b xs, x = .ref a ∧ y = .ref b ∧ SqL X.K H a xs ∧ SqL X.K H b [] ∧ Q (.bl xs.isEmpty) H) := by
  intro pins s σ H x y v u Q I r1 r2 h
  obtain ⟨a, b, xs, rfl, rfl, h1, h2, q⟩ := h
  cases r1
  cases r2
  obtain ⟨i1, w1, p1, z1⟩ := I.list h1
  obtain ⟨i2, w2, p2, z2⟩ := I.list h2
  cases w2
  cases xs with
  | nil =>
    cases w1
    exact SeqAt.RcAt.lists (A := X.A) (e := fun _ => true) p1.isList p2.isList rfl (by omega) (fun j j1 => absurd j1 (Nat.not_lt_zero _)) _ _ _ _ ⟨.bl true, H, I, rfl, q⟩
  | cons x r =>
    have l1 := w1.length
    refine SeqAt.RcAt.lists_lengths (A := X.A) p1.isList p2.isList ?_ (by omega) _ _ _ _ ⟨.bl false, H, I, rfl, q⟩
    simp only [List.size_toArray, ← l1]
    rfl
/-! ### sum of ints -/
theorem preSum_take (ns : List Int) : ∀ n : Nat, n ≤ ns.length → preSum (fun i => ns.getD i 0) n = (ns.take n).sum
  | 0, _ => rfl
  | n + 1, h => by
    show preSum (fun i => ns.getD i 0) n + ns.getD n 0 = _
    have hn : n < ns.length := h
    rw [preSum_take ns n (by omega), List.take_add_one, List.getElem?_eq_getElem hn, List.sum_append, List.getD_eq_getElem?_getD, List.getElem?_eq_getElem hn]
    simp
theorem call_sum_ints (hc : X.calm = true) : CallR X (.builtin "sum") (fun xs H Q => ∃ (p : Addr) (ns : List Int), xs = [.ref p] ∧ SqL X.K H p (ns.map V.int) ∧ Q (.int ns.sum) H) := by
  intro pins s σ H xs us Q I r h
  obtain ⟨p, ns, rfl, hq, q⟩ := h
  obtain ⟨u, rfl, rx⟩ := vals1 r
  cases rx
  obtain ⟨its, r', pl, hz⟩ := I.list hq
  have hlen := r'.length
  rw [List.length_map] at hlen
  have hi := intsAre_of r'
  obtain ⟨op, hop, _⟩ := id pl.isList
  have hlt : p < s.heap.objs.size := Heap.lt_size hop
  have hh : X.A.in1.handled = none := by simp [I.ok.hd hc]
  refine call_sum_walkAnyS (wpAny_pyIter_list pl.isList ⟨s.heap.objs.size, _, _, _, its.toArray.size, _, _, fun i => ns.getD i 0, rfl, (Walks.list hh _ p (Nat.ne_of_lt hlt) its.toArray).toS, ⟨⟨_, Heap.get?_push_size _ rfl, rfl, rfl⟩, pl.isList.push _⟩, fun b hb => ?_, fun i v e => ?_, fun s' t' hm => ?_⟩)
  · show b < (s.heap.push _).objs.size
    rw [Heap.size_push]
    rcases List.mem_cons.mp hb with e | hb
    · rw [e]; exact Nat.lt_succ_self _
    · rw [List.mem_singleton.mp hb]; exact Nat.lt_succ_of_lt hlt
  · exact PyProof.Rows.IntsAre.int_at hi i v (by simpa using e)
  · have hk : ∀ b o, s.heap.get? b = some o → s'.heap.get? b = some o := fun b o e =>
      hm.heap b o (fun hI => absurd (Heap.lt_size e) (by rw [List.mem_singleton.mp hI]; exact Nat.lt_irrefl _)) (Heap.get?_push_of_some _ e)
    have e1 : preSum (fun i => ns.getD i 0) its.toArray.size = ns.sum := by
      rw [List.size_toArray, ← hlen, preSum_take ns ns.length (Nat.le_refl _), List.take_length]
    rw [e1]
    rw [Moved.eq_with hm]
    exact ⟨.int ns.sum, H, I.kept (t' := s'.toks) hk, ⟨_, rfl⟩, q⟩
end
end L2
namespace L2
open PySem PySem.Spec PyProof.Rows
theorem best_le (val : Nat → Int) : ∀ k i, i ≤ k → val i ≤ val (argBest (fun i j => decide (val j < val i)) k) ∧ argBest (fun i j => decide (val j < val i)) k ≤ k
  | 0, i, h => by
    have : i = 0 := by omega
    subst this
    exact ⟨Int.le_refl _, Nat.le_refl _⟩
  | k + 1, i, h => by
    unfold argBest
    have ih := fun i hi => best_le val k i hi
    by_cases hc : val (argBest (fun i j => decide (val j < val i)) k) < val (k + 1)
    · rw [if_pos (by simpa using hc)]
      refine ⟨?_, Nat.le_refl _⟩
      rcases Nat.lt_or_ge i (k + 1) with z | z
      · have := (ih i (by omega)).1; omega
      · have : i = k + 1 := by omega
        subst this; exact Int.le_refl _
    · rw [if_neg (by simpa using hc)]
      refine ⟨?_, Nat.le_succ_of_le (ih 0 (Nat.zero_le _)).2⟩
      rcases Nat.lt_or_ge i (k + 1) with z | z
      · exact (ih i (by omega)).1
      · have : i = k + 1 := by omega
        subst this; omega
section
variable {prog : Program} {w : World} {A : Around} {R : Result → Shared → Prop} {I : Addr} {fp wr : List Addr} {n : Nat} {P : Nat → Value → Prop} {St : Nat → Heap → Prop} {kw : List (Str × Value)}
theorem maxd_loop (W : Walks prog w A.in1 I fp wr n P St) (bt : Nat → Nat → Bool) (hcmp : CmpOf prog w A.in1 .Gt P bt) (S : Addr) (hSf : S ∉ fp) :
    ∀ (k j : Nat) (s : Shared) (vb : Value) (c : Nat), n - (j + 1) = k → j + 1 ≤ n → St (j + 1) s.heap → P (argBest bt j) vb →
    s.heap.get? S = some { cls := .type "list", dict := none, data := .seq #[vb, vb] c, slots := #[] } →
    (∀ v h' tk, P (argBest bt (n - 1)) v → (∀ b o, b ∉ wr → b ≠ S → s.heap.get? b = some o → h'.get? b = some o) → R (.ok (.ret v)) { s with heap := h', toks := tk }) →
    codeAny (model prog w) A (.builtin "max.loop" ⟨[.ref I, .none, .ref S], kw⟩) R s := by
  have hSw : S ∉ wr := fun h => hSf (W.sub _ h)
  have hname : (toString "max" ++ toString ".loop" : String) = "max.loop" := by decide
  intro k
  induction k with
  | zero =>
    intro j s vb c hk hj hst hPb hS hR
    have hin : j + 1 = n := by omega
    refine codeAny_builtin PySem.F.entry_max_loop ?_
    rw [Around.under_plainId PySem.F.plain_max_loop _]
    show wpAny _ A.in1 (seqItems? (.ref S) >>= _) _ _ s
    refine wpAny_bind (wpAny_seqItems hS rfl ?_)
    show wpAny _ A.in1 (tryCatch (pyNext (.ref I)) _ >>= _) _ _ s
    refine wpAny_bind (wpAny_tryCatch (W.done s _ _ (hin ▸ hst) fun h' tk hk' => ?_))
    have hS' := hk' S _ hSw hS
    show wpAny _ A.in1 (updateSeq S (fun _ => #[]) >>= _) _ _ _
    refine wpAny_bind ?_
    refine wpAny_updateSeq hS' rfl (wpAny_bind (wpAny_letGo (wpAny_pure ?_)))
    refine hR vb _ tk (by rw [← hin]; exact hPb) fun b o hbw hbS e => (Heap.get?_update_other _ _ (Ne.symm hbS)).trans (hk' b o hbw e)
  | succ k ih =>
    intro j s vb c hk hj hst hPb hS hR
    have hlt : j + 1 < n := by omega
    refine codeAny_builtin PySem.F.entry_max_loop ?_
    rw [Around.under_plainId PySem.F.plain_max_loop _]
    show wpAny _ A.in1 (seqItems? (.ref S) >>= _) _ _ s
    refine wpAny_bind (wpAny_seqItems hS rfl ?_)
    show wpAny _ A.in1 (tryCatch (pyNext (.ref I)) _ >>= _) _ _ s
    refine wpAny_bind (wpAny_tryCatch (W.item (j + 1) s _ _ hlt hst fun v h' tk hP hst' hk' => ?_))
    have hS' := hk' S _ hSw hS
    show wpAny _ A.in1 (tryCatch (holding [v, v] (richCompare .Gt v vb >>= _)) _ >>= _) _ _ _
    refine wpAny_bind (wpAny_tryCatch (wpAny_holding (wpAny_bind (hcmp (j + 1) (argBest bt j) v vb _ _ _ hP hPb ?_))))
    refine wpAny_bind (wpAny_holding (wpAny_truthy_bool ?_))
    refine wpAny_bind (wpAny_letGo (wpAny_pure ?_))
    cases hb : bt (j + 1) (argBest bt j) with
    | true =>
      simp only [if_true]
      refine wpAny_bind ?_
      refine wpAny_updateSeq hS' rfl (wpAny_bind (wpAny_letGo ?_))
      rw [hname]
      refine wpAny_pure ⟨plainId_quiet PySem.F.plain_max_loop _, ih (j + 1) _ v _ (by omega) hlt (W.frame _ _ _ hst' fun b hbf o e => ?_) (by simp only [argBest, hb, if_true]; exact hP) (Heap.get?_update_self _ hS' rfl)
        fun v' h'' tk'' hP' hk'' => ?_⟩
      · exact (Heap.get?_update_other _ _ (fun h : S = b => hSf (by rw [h]; exact hbf))).trans e
      · exact hR v' h'' tk'' hP' fun b o hbw hbS e => hk'' b o hbw hbS ((Heap.get?_update_other _ _ (Ne.symm hbS)).trans (hk' b o hbw e))
    | false =>
      simp only [Bool.false_eq_true, if_false]
      refine wpAny_bind (wpAny_letGo ?_)
      rw [hname]
      refine wpAny_pure ⟨plainId_quiet PySem.F.plain_max_loop _, ih (j + 1) _ vb c (by omega) hlt hst' (by simp only [argBest, hb, Bool.false_eq_true, if_false]; exact hPb) hS' fun v' h'' tk'' hP' hk'' => ?_⟩
      exact hR v' h'' tk'' hP' fun b o hbw hbS e => hk'' b o hbw hbS (hk' b o hbw e)
theorem maxd_first (W : Walks prog w A.in1 I fp wr n P St) (bt : Nat → Nat → Bool) (hcmp : CmpOf prog w A.in1 .Gt P bt) (S : Addr) (hSf : S ∉ fp) (hn : 0 < n) {s : Shared} {c : Nat} (hst : St 0 s.heap)
    (hS : s.heap.get? S = some { cls := .type "list", dict := none, data := .seq #[] c, slots := #[] })
    (hR : ∀ v h' tk, P (argBest bt (n - 1)) v → (∀ b o, b ∉ wr → b ≠ S → s.heap.get? b = some o → h'.get? b = some o) → R (.ok (.ret v)) { s with heap := h', toks := tk }) :
    codeAny (model prog w) A (.builtin "max.loop" ⟨[.ref I, .none, .ref S], kw⟩) R s := by
  have hSw : S ∉ wr := fun h => hSf (W.sub _ h)
  have hname : (toString "max" ++ toString ".loop" : String) = "max.loop" := by decide
  refine codeAny_builtin PySem.F.entry_max_loop ?_
  rw [Around.under_plainId PySem.F.plain_max_loop _]
  show wpAny _ A.in1 (seqItems? (.ref S) >>= _) _ _ s
  refine wpAny_bind (wpAny_seqItems hS rfl ?_)
  show wpAny _ A.in1 (tryCatch (pyNext (.ref I)) _ >>= _) _ _ s
  refine wpAny_bind (wpAny_tryCatch (W.item 0 s _ _ hn hst fun v h' tk hP hst' hk' => ?_))
  have hS' := hk' S _ hSw hS
  show wpAny _ A.in1 (updateSeq S (fun _ => #[v, v]) >>= _) _ _ _
  refine wpAny_bind ?_
  refine wpAny_updateSeq hS' rfl ?_
  rw [hname]
  refine wpAny_pure ⟨plainId_quiet PySem.F.plain_max_loop _, maxd_loop W bt hcmp S hSf _ 0 _ v _ rfl hn (W.frame _ _ _ hst' fun b hbf o e => ?_) hP (Heap.get?_update_self _ hS' rfl) fun v' h'' tk'' hP' hk'' => ?_⟩
  · exact (Heap.get?_update_other _ _ (fun h : S = b => hSf (by rw [h]; exact hbf))).trans e
  · exact hR v' h'' tk'' hP' fun b o hbw hbS e => hk'' b o hbw hbS ((Heap.get?_update_other _ _ (Ne.symm hbS)).trans (hk' b o hbw e))
theorem maxd_none (W : Walks prog w A.in1 I fp wr 0 P St) (S : Addr) (hSf : S ∉ fp) {s : Shared} {c : Nat} {d : Value} {nm : Str} (hst : St 0 s.heap)
    (hS : s.heap.get? S = some { cls := .type "list", dict := none, data := .seq #[] c, slots := #[] })
    (hR : ∀ h' tk, (∀ b o, b ∉ wr → s.heap.get? b = some o → h'.get? b = some o) → R (.ok (.ret d)) { s with heap := h', toks := tk }) :
    codeAny (model prog w) A (.builtin "max.loop" ⟨[.ref I, .none, .ref S], [(nm, d)]⟩) R s := by
  refine codeAny_builtin PySem.F.entry_max_loop ?_
  rw [Around.under_plainId PySem.F.plain_max_loop _]
  show wpAny _ A.in1 (seqItems? (.ref S) >>= _) _ _ s
  refine wpAny_bind (wpAny_seqItems hS rfl ?_)
  show wpAny _ A.in1 (tryCatch (pyNext (.ref I)) _ >>= _) _ _ s
  refine wpAny_bind (wpAny_tryCatch (W.done s _ _ hst fun h' tk hk' => ?_))
  refine wpAny_bind (wpAny_rule ?_)
  exact wpAny_pure (hR h' tk hk')
end
section
variable {X : Cx}
theorem args_maxd (a d : Value) : argsOk "max" ⟨[a], [(Str.ofString "default", d)]⟩ := by unfold argsOk; kernel_rfl
/-- a call of a built-in function with keywords, by values -/
def CallKR (X : Cx) (f : Value) (ks : List Str) (r : List V → List V → Hp → VK → Prop) : Prop :=
  ∀ (pins : List (Addr × Obj)) (s : Shared) (σ : St) (H : Hp) (xs zs : List V) (us ws : List Value) (Q : VK), Inv X pins σ H s → Vals xs us → Vals zs ws → r xs zs H Q → wpAny (model X.prog X.w) X.A (call f us (ks.zip ws)) (EP X pins σ Q) X.xe s
def tCBK (r : List V → List V → Hp → VK → Prop) (t tk : TA) : TE := fun σ H Q => t σ H fun vs H1 => tk σ H1 fun zs H2 => r vs zs H2 Q
theorem pe_callBK {x : Str} {p pos : Pos} {e : Expr} {es : List Expr} {kws : List Keyword} {ks : List Str} {t tk : TA} {id : String} {r : List V → List V → Hp → VK → Prop} (hc : CallKR X (.builtin id) ks r) (hg : Gl X x) (hm : X.mg x = none) (hv : bootBuiltins x = some (.builtin id)) (ha : PA X (e :: es) t) (hkw : PK X kws tk)
    (hks : (backToKw pos (keywordEach kws X.env)).filterMap (·.1) = ks := by rfl) (hn : x ≠ "__name__" := by decide) (hdb : (x == ("__debug__" : Str)) = false := by decide)
    (he : backTo pos (starEach (e :: es) X.env) = (false, eval e X.env) :: backTo pos (starEach es X.env) := by rfl) (hpl : (backTo pos (starEach (e :: es) X.env)).any (·.1) = false := by rfl)
    (hall : (backToKw pos (keywordEach kws X.env)).all (·.1.isSome) = true := by rfl) (hkn : (backToKw pos (keywordEach kws X.env)).any (·.1.isNone) = false := by rfl) : PE X (.Call (.Name x p) (e :: es) kws pos) (tCBK r t tk) := by
  intro pins s σ H Q I h
  refine wpAny_Call_Name_kw (ld_blt I hg hm hv ?_ hn hdb)
  refine PyProof.Rows.callWith_kw (thn (ha pos pins s σ H _ I h) fun us s1 ⟨vs, H1, I1, r1, q1⟩ => thn (hkw pos pins s1 σ H1 _ I1 q1) fun ws s2 ⟨zs, H2, I2, rz, q2⟩ => ?_) he hpl hall hkn
  rw [hks]
  exact hc pins s2 σ H2 vs zs us ws Q I2 r1 rz q2
/-- max(a list of ints, default=an int) -/
theorem call_max_dflt (hc : X.calm = true) : CallKR X (.builtin "max") ["default"] (fun xs zs H Q => ∃ (p : Addr) (ns : List Int) (d : Int), xs = [.ref p] ∧ zs = [.int d] ∧ SqL X.K H p (ns.map V.int) ∧ ∀ m : Int, (∀ n ∈ ns, n ≤ m) → (m ∈ ns ∨ (ns = [] ∧ m = d)) → Q (.int m) H) := by
  intro pins s σ H xs zs us ws Q I r rz h
  obtain ⟨p, ns, d, rfl, rfl, hq, q⟩ := h
  obtain ⟨u, rfl, rx⟩ := vals1 r
  obtain ⟨u2, rfl, rd⟩ := vals1 rz
  cases rx
  obtain ⟨dt, rfl⟩ := (show ∃ t, u2 = Value.int d t from rd)
  obtain ⟨its, r', pl, hz⟩ := I.list hq
  have hlen := r'.length
  rw [List.length_map] at hlen
  have hi := intsAre_of r'
  obtain ⟨op, hop, _⟩ := id pl.isList
  have hlt : p < s.heap.objs.size := Heap.lt_size hop
  have hh : X.A.in1.handled = none := by simp [I.ok.hd hc]
  have hname : (toString "max" ++ toString ".loop" : String) = "max.loop" := by decide
  show wpAny _ _ (call (.builtin "max") [.ref p] [(Str.ofString "default", .int d dt)]) _ _ s
  refine wpAny_call (codeAny_call_builtin PySem.F.plain_max PySem.F.entry_max ?_)
  have fin : wpAny (model X.prog X.w) X.A.in1 (Builtin.«max» ⟨[.ref p], [(Str.ofString "default", .int d dt)]⟩) (fun fin s' => match fin with
      | .done f => (match (Except.ok f : Result) with | .ok (.ret v) => EP X pins σ Q v s' | .ok _ => False | .error e => X.xe e s')
      | .again c' => c'.quiet = true ∧ codeAny (model X.prog X.w) X.A c' (fun r s' => match r with | .ok (.ret v) => EP X pins σ Q v s' | .ok _ => False | .error e => X.xe e s') s') (fun e s' => X.xe e s') s := by
    show wpAny _ X.A.in1 (Builtin.Builtins.bindParams "max" ["key", "default"] 0 ⟨[], [(Str.ofString "default", .int d dt)]⟩ >>= _) _ _ s
    refine wpAny_bind (wpAny_of_eq (show Builtin.Builtins.bindParams "max" ["key", "default"] 0 ⟨[], [(Str.ofString "default", .int d dt)]⟩ = pure [none, some (.int d dt)] from rfl) ?_)
    refine wpAny_bind (wpAny_pure ?_)
    refine wpAny_bind (wpAny_pyIter_list pl.isList ?_)
    refine wpAny_bind (wpAny_newObj_type ?_)
    rw [hname]
    generalize hH2 : (s.heap.push { cls := .type "list_iterator", data := .fields #[.ref p, .int 0 0] }) = H2
    have hsz : H2.objs.size = s.heap.objs.size + 1 := by rw [← hH2, Heap.size_push]
    have st0 : H2.IsListIter s.heap.objs.size p 0 ∧ H2.IsList p its.toArray := by
      rw [← hH2]; exact ⟨⟨_, Heap.get?_push_size _ rfl, rfl, rfl⟩, pl.isList.push _⟩
    have kp : ∀ b o, s.heap.get? b = some o → H2.get? b = some o := fun b o e => hH2 ▸ Heap.get?_push_of_some _ e
    have hSf : H2.objs.size ∉ [s.heap.objs.size, p] := by
      rw [hsz]; simp only [List.mem_cons, List.not_mem_nil, or_false, not_or]
      exact ⟨Nat.succ_ne_self _, Nat.ne_of_gt (Nat.lt_succ_of_lt hlt)⟩
    have W := Walks.list (prog := X.prog) (w := X.w) hh s.heap.objs.size p (Nat.ne_of_lt hlt) its.toArray
    have st1 := W.frame 0 _ (H2.push { cls := .type "list", data := .seq ([] : List Value).toArray }) st0 fun b _ o e => Heap.get?_push_of_some _ e
    have done : ∀ (v : Value) (h' : Heap) (tk : Nat), (∀ b o, b ∉ [s.heap.objs.size] → b ≠ H2.objs.size → (H2.push { cls := .type "list", data := .seq ([] : List Value).toArray }).get? b = some o → h'.get? b = some o) → (∃ m : Int, (∃ t, v = .int m t) ∧ (∀ n ∈ ns, n ≤ m) ∧ (m ∈ ns ∨ (ns = [] ∧ m = d))) → EP X pins σ Q v { s with heap := h', toks := tk } := by
      rintro v h' tk hk ⟨m, ⟨t, rfl⟩, h1, h2⟩
      refine ⟨.int m, H, I.kept (t' := tk) (fun b o e => hk b o (fun z => ?_) ?_ (Heap.get?_push_of_some _ (kp b o e))), ⟨_, rfl⟩, q m h1 h2⟩
      · rw [List.mem_singleton.mp z] at e
        exact absurd (Heap.lt_size e) (Nat.lt_irrefl _)
      · have := Heap.lt_size e
        exact Nat.ne_of_lt (by rw [hsz]; exact Nat.lt_succ_of_lt this)
    cases ns with
    | nil =>
      have e0 : its = [] := List.eq_nil_of_length_eq_zero (by simpa using hlen.symm)
      subst e0
      refine wpAny_pure ⟨plainId_quiet PySem.F.plain_max_loop _, maxd_none (R := _) W H2.objs.size hSf st1 (Heap.get?_push_size _ rfl) fun h' tk hk => ?_⟩
      exact done _ h' tk (fun b o hb _ e => hk b o hb e) ⟨d, ⟨dt, rfl⟩, by simp, .inr ⟨rfl, rfl⟩⟩
    | cons a r =>
      have hn : 0 < its.toArray.size := by rw [List.size_toArray, ← hlen, List.length_cons]; omega
      have cmp : CmpOf X.prog X.w X.A.in1 .Gt (fun i v => its.toArray[i]? = some v) (fun i j => decide ((a :: r).getD j 0 < (a :: r).getD i 0)) := by
        intro i j vi vj s' Q' E' hi' hj' hQ'
        obtain ⟨t1, rfl⟩ := PyProof.Rows.IntsAre.int_at hi i vi (by simpa using hi')
        obtain ⟨t2, rfl⟩ := PyProof.Rows.IntsAre.int_at hi j vj (by simpa using hj')
        exact PyProof.Rows.gt_int hQ'
      refine wpAny_pure ⟨plainId_quiet PySem.F.plain_max_loop _, maxd_first W _ cmp H2.objs.size hSf hn st1 (Heap.get?_push_size _ rfl) fun v h' tk hP hk => ?_⟩
      have bl := best_le (fun i => (a :: r).getD i 0) (its.toArray.size - 1)
      generalize argBest (fun i j => decide ((a :: r).getD j 0 < (a :: r).getD i 0)) (its.toArray.size - 1) = ix at hP bl
      obtain ⟨t1, rfl⟩ := PyProof.Rows.IntsAre.int_at hi ix v (by rw [← List.getElem?_toArray]; exact hP)
      refine done _ h' tk hk ⟨_, ⟨t1, rfl⟩, fun n hn' => ?_, .inl ?_⟩
      · obtain ⟨i, hi', e⟩ := List.mem_iff_getElem.mp hn'
        have := (bl i (by rw [List.size_toArray, ← hlen]; omega)).1
        have e2 : (a :: r).getD i 0 = n := by rw [List.getD_eq_getElem?_getD, List.getElem?_eq_getElem hi', e]; rfl
        rw [e2] at this
        exact this
      · have hb := (bl 0 (Nat.zero_le _)).2
        have hlt2 : ix < (a :: r).length := by
          rw [List.size_toArray, ← hlen] at hb
          simp only [List.length_cons] at hb ⊢
          omega
        rw [List.getD_eq_getElem?_getD, List.getElem?_eq_getElem hlt2]
        exact List.getElem_mem hlt2
  simp only [checkBuiltinCall, PySem.F.kind_max]
  cases hsig : Manifest.signature? "max" with
  | none => exact wpAny_pure fin
  | some sig =>
    have ha' : Bind.checkArgs "max" sig ⟨[.ref p], [(Str.ofString "default", .int d dt)]⟩ = pure () := by
      have := args_maxd (.ref p) (.int d dt)
      simpa only [argsOk, hsig] using this
    simp only [ha']
    exact wpAny_pure fin
/-! ### the same, the written part told -/
def rIsi (K : PySem.W.Frag) : List V → Hp → VK → Prop := fun xs H Q => ∃ (x cv : V) (c t : Value) (b : Bool), xs = [x, cv] ∧ (∀ u, RelV cv u → u = c) ∧ TyOf K H x t ∧ PySem.W.kitOne K t c = some b ∧ Q (.bl b) H
theorem call_isiK {K : PySem.W.Frag} (hK : X.K = K) : CallR X (.builtin "isinstance") (rIsi K) := by
  subst hK; exact call_isi
theorem pe_fldK {K : PySem.W.Frag} {e : Expr} {ta : TE} {f : Str} {pos : Pos} (hK : X.K = K) (he : PE X e ta) (hb : attributeBase e f X.env (eval e X.env) = eval e X.env) : PE X (.Attribute e f pos) (tFld K ta f) := by
  subst hK; exact pe_fld he hb
theorem ix_listK {K : PySem.W.Frag} (hK : X.K = K) : IxR X (rIxL K) := by
  subst hK; exact ix_list
theorem ix_tupK {K : PySem.W.Frag} (hK : X.K = K) : IxR X (rIxT K) := by
  subst hK; exact ix_tup
end
end L2
set_option maxHeartbeats 4000000
namespace L2
open PySem PySem.Spec PyProof.Rows
/-! ### a dict walked: it is held still while it is -/
def Itd (d : Addr) (o : Obj) (ks : List Key) : It :=
  ⟨fun i H => ∃ kvs, H d = some (.frz o (.dK kvs)) ∧ kvs.map (·.1) = ks ∧ i < ks.length,
   fun i H x H' => H' = H ∧ ∃ k, ks[i]? = some k ∧ x = kV k,
   fun i H => ∃ kvs, H d = some (.frz o (.dK kvs)) ∧ kvs.map (·.1) = ks ∧ ks.length ≤ i⟩
theorem kv_keys {kvs : List (Key × V)} {vs : List (Key × Value)} (h : KV kvs vs) : vs.map (·.1) = kvs.map (·.1) := by
  induction h with
  | nil => rfl
  | cons r t ih => rw [List.map_cons, List.map_cons, ih, r.1]
theorem rel_key {P : Program} {w : World} {k : Key} {u : Value} (h : (mixKind P w).is k u = true) : RelV (kV k) u := by
  rcases keyIs_shape h with ⟨i, t, rfl, rfl⟩ | ⟨x, t, rfl, rfl⟩
  · exact ⟨t, rfl⟩
  · exact ⟨t, rfl⟩
theorem frz_at {P : Program} {w : World} {H : Hp} {h : Heap} {d : Addr} {o : Obj} {es : Array DictEntry} {ep : Nat} {kvs : List (Key × V)} (ok : HOk P w H h) (e : H d = some (.frz o (.dK kvs))) (ho : o.data = .dict es ep) : ∃ vs, KV kvs vs ∧ h.DictAt (mixKind P w) d vs ep := by
  obtain ⟨e0, hz, hy, vs, hk, o', es', ep', h1, h2, h3, h4⟩ := (show ObjOk P w H h d (.frz o (.dK kvs)) from ok d _ e)
  rw [e0] at h1
  cases h1
  rw [ho] at h3
  cases h3
  exact ⟨vs, hk, o, es, e0, h2, ho, h4⟩
theorem turn_dict {P : Program} {w : World} {K : PySem.W.Frag} {tg : Expr} (d it : Addr) (o : Obj) (ks : List Key) {es : Array DictEntry} {ep : Nat} (hod : o.data = .dict es ep) : Turn P w K tg (Itd d o ks) [it] it (fun i h => h.IsKeyIter it d i ks.length ep) where
  mem := by simp
  obj := fun i h st b hb => by
    have e : b = it := by simpa using hb
    subst e
    obtain ⟨o, e, c, d⟩ := st
    exact ⟨o, e, fun v z => by rw [d] at z; cases z⟩
  keep := fun i h h' st k => st.at fun o e => k it (by simp) o e
  item := by
    intro X hP hw hK hc i pins s σ H E I hf st hg
    subst hP hw hK
    obtain ⟨kvs, hq, hk, hi⟩ := hg
    obtain ⟨vs, hv, hD⟩ := frz_at I.hok hq hod
    have hkk := kv_keys hv
    rw [hk] at hkk
    have hl : vs.length = ks.length := by rw [← hkk, List.length_map]
    have hi' : i < vs.length := by omega
    obtain ⟨f0, f1, f2, f3, f4, f5⟩ := hf it (by simp)
    have hx : vs[i]? = some (vs[i].1, vs[i].2) := List.getElem?_eq_getElem hi'
    have hki : ks[i]? = some vs[i].1 := by rw [← hkk, List.getElem?_map, List.getElem?_eq_getElem hi']; rfl
    rw [← hl] at st
    refine wpAny_pyNext_dict_item st hD hx fun key h' hkey st' sb => ?_
    have I1 : Inv X pins σ H { s with heap := h' } := I.turned (t' := s.toks) (fun b o hb e => sb.extBut b o hb e) f0 f1 f3 f4 f5
    rw [hl] at st'
    obtain ⟨oi, ei, ci, di⟩ := id st'
    exact ⟨key, rfl, go_of (s := { s with heap := h' }) ei ci di (by decide) ⟨kV vs[i].1, H, I1, rel_key hkey, ⟨rfl, _, hki, rfl⟩, st', fun b hb => (hf b hb).1⟩⟩
  done := by
    intro X hP hw hK hc i pins s σ H E I hf st hg
    subst hP hw hK
    obtain ⟨kvs, hq, hk, hi⟩ := hg
    obtain ⟨vs, hv, hD⟩ := frz_at I.hok hq hod
    have hkk := kv_keys hv
    rw [hk] at hkk
    have hl : vs.length = ks.length := by rw [← hkk, List.length_map]
    obtain ⟨f0, f1, f2, f3, f4, f5⟩ := hf it (by simp)
    rw [← hl] at st
    exact wpAny_pyNext_dict_end (I.ok.hd hc) st hD (List.getElem?_eq_none (by omega)) fun h' eb => ⟨rfl, I.turned (t' := s.toks) (fun b o hb e => eb b o hb e) f0 f1 f3 f4 f5⟩
  self := fun _ _ _ _ _ st h => wpAny_pyIter_keyiter st h
section
variable {X : Cx} {pins : List (Addr × Obj)} {σ : St} {H : Hp} {s : Shared}
theorem hok_swap {P : Program} {w : World} {H : Hp} {h : Heap} {d : Addr} {u u' : HO} (ok : HOk P w H h) (e : H d = some u) (n1 : ∀ x, u ≠ .own x) (n2 : ∀ xs, u ≠ .tup xs) (new : ObjOk P w H h d u') : HOk P w (upd H d u') h := by
  have hne : ∀ b x, H b = some (.own x) → b ≠ d := fun b x q z => by subst z; rw [e] at q; exact n1 x (Option.some.inj q)
  have hnt : ∀ b xs, H b = some (.tup xs) → b ≠ d := fun b xs q z => by subst z; rw [e] at q; exact n2 xs (Option.some.inj q)
  have st : ∀ b v, ObjOk P w H h b v → ObjOk P w (upd H d u') h b v := fun b v q => q.stay (fun _ _ _ z => z) (fun c z => by rw [upd_ne (hne c _ z)]; exact z) fun c xs z => by rw [upd_ne (hnt c xs z)]; exact z
  intro b v q
  by_cases hb : b = d
  · subst hb
    rw [upd_same] at q
    cases q
    exact st b _ new
  · rw [upd_ne hb] at q
    exact st b v (ok b v q)
theorem Inv.freeze {d : Addr} {kvs : List (Key × V)} {o : Obj} (I : Inv X pins σ H s) (e : H d = some (.dK kvs)) (ho : s.heap.get? d = some o) : Inv X pins σ (upd H d (.frz o (.dK kvs))) s := by
  refine I.un (h' := s.heap) (t' := s.toks) ⟨fun _ _ q _ _ _ => q, fun _ u q _ _ _ => ⟨u.slots, q⟩, fun b _ _ n _ => ?_, fun _ u q _ => ⟨u, q⟩, fun b xs q => ?_, fun b u v q => ?_, fun b ps q => ⟨#[], ?_⟩⟩
    (hok_swap I.hok e (fun _ z => by cases z) (fun _ z => by cases z) ⟨ho, I.hok d _ e⟩)
  · rw [upd_ne (fun z => by subst z; rw [e] at n; cases n)]; exact n
  · rw [upd_ne (fun z => by subst z; rw [e] at q; cases q)]; exact q
  · rw [upd_ne (fun z => by subst z; rw [e] at q; cases q)]; exact q
  · rw [upd_ne (fun z => by subst z; rw [e] at q; cases q), q]; simp
theorem Inv.thaw {d : Addr} {kvs : List (Key × V)} {o : Obj} (I : Inv X pins σ H s) (e : H d = some (.frz o (.dK kvs))) (h0 : ∀ o u, X.H₀ d ≠ some (.frz o u)) : Inv X pins σ (upd H d (.dK kvs)) s := by
  have nd : ∀ b, H b = none → b ≠ d := fun b n z => by subst z; rw [e] at n; cases n
  obtain ⟨i1, i2, i3, i4, i5, i6, i7, i8, i9, i10, i11⟩ := I
  refine ⟨i1, i2, i3, ⟨i4.keep, i4.slot, fun b u q n hx => ?_, i4.there, fun b xs q => ?_, fun b u v q => ?_, fun b ps q => ?_⟩, i5, i6, ?_, fun x c q => ?_, fun p hp => ?_, ?_, i11⟩
  · have z := i4.free b u q n hx
    rw [upd_ne (nd b z)]; exact z
  · have z := i4.tups b xs q
    rw [upd_ne (fun y => by subst y; rw [e] at z; cases z)]; exact z
  · have z := i4.frzs b u v q
    rw [upd_ne (fun y => by subst y; exact h0 u v q)]; exact z
  · obtain ⟨m, z⟩ := i4.tbls b ps q
    exact ⟨m, by rw [upd_ne (fun y => by subst y; rw [e] at z; cases z)]; exact z⟩
  · rw [upd_ne (nd _ i7)]; exact i7
  · rw [upd_ne (nd _ (i8 x c q))]; exact i8 x c q
  · obtain ⟨a1, a2, a3⟩ := i9 p hp
    exact ⟨a1, by rw [upd_ne (nd _ a2)]; exact a2, a3⟩
  · exact hok_swap i10 e (fun _ z => by cases z) (fun _ z => by cases z) (i10 d _ e).2
end
section
variable {X : Cx}
def iDict (tl : TE) : TI := fun σ H R => tl σ H fun v H1 => ∃ d kvs, v = .ref d ∧ H1 d = some (.dK kvs) ∧ ∀ o, R (Itd d o (kvs.map (·.1))) (upd H1 d (.frz o (.dK kvs)))
theorem pi_dict {tg l : Expr} {tl : TE} (hl : PE X l tl) : PI X tg l (iDict tl) := by
  intro pins s σ H R I h
  refine thn (hl pins s σ H _ I h) fun v s1 ⟨x, H1, I1, r1, q1⟩ => ?_
  obtain ⟨d, kvs, e, hq, q⟩ := q1
  subst e
  cases r1
  obtain ⟨hz, hy, vs, hk, o, es, ep, h1, h2, h3, h4⟩ := (show ObjOk X.prog X.w H1 s1.heap d (.dK kvs) from I1.hok d _ hq)
  have hD : s1.heap.DictAt (mixKind X.prog X.w) d vs ep := ⟨o, es, h1, h2, h3, h4⟩
  have hl : vs.length = (kvs.map (·.1)).length := by rw [List.length_map, hk.length]
  refine wpAny_pyIter_dict hy hD ?_
  have I2 := I1.freeze hq h1
  refine ⟨s1.heap.objs.size, [s1.heap.objs.size], _, _, _, rfl, I2.kept (t' := s1.toks) fun b o e => Heap.get?_push_of_some _ e, turn_dict d _ o (kvs.map (·.1)) h3, ⟨_, Heap.get?_push_size _ rfl, rfl, by rw [hl]; rfl⟩, fun b hb => ?_, q o⟩
  have e : b = s1.heap.objs.size := by simpa using hb
  subst e
  exact I2.fpOk (Nat.le_refl _) (I2.hok.fresh (Nat.le_refl _))
/-- let go behind the walk -/
def tThaw (H0 : Hp) (t : TS) : TS := fun D σ H => ∃ d o kvs, H d = some (.frz o (.dK kvs)) ∧ (∀ o u, H0 d ≠ some (.frz o u)) ∧ t D σ (upd H d (.dK kvs))
theorem ps_thaw {st : Stmt} {t : TS} (h : PS X st t) : PS X st (tThaw X.H₀ t) := fun D s σ H pins I ⟨d, o, kvs, e, h0, q⟩ => h D s σ _ pins (I.thaw e h0) q
/-- over a dict that stands still -/
theorem for_dict {d : Addr} {o : Obj} {ks : List Key} {g : TG} {tb : TS} {D : Ends} {σ : St} {H : Hp} (Pv : Nat → St → Hp → Prop) (h0 : Pv 0 σ H) (hl : ∀ i σ H, i ≤ ks.length → Pv i σ H → ∃ kvs, H d = some (.frz o (.dK kvs)) ∧ kvs.map (·.1) = ks)
    (hs : ∀ i k σ H, ks[i]? = some k → Pv i σ H → g (kV k) σ H fun σ2 H2 => tb { D with nx := Pv (i + 1), ct := Pv (i + 1), bk := D.nx } σ2 H2) (hd : ∀ σ H, Pv ks.length σ H → D.nx σ H) :
    ∃ W : Nat → Nat → St → Hp → Prop, (∃ m, W 0 m σ H) ∧ ∀ i m σ H, W i m σ H →
      ((Itd d o ks).stop i H ∧ D.nx σ H) ∨ ((Itd d o ks).go i H ∧ ∃ N : St → Hp → Prop, (∀ σ' H', N σ' H' → ∃ m', m' < m ∧ W (i + 1) m' σ' H') ∧ ∀ x H', (Itd d o ks).yld i H x H' → g x σ H' fun σ2 H2 => tb { D with nx := N, ct := N, bk := D.nx } σ2 H2) := by
  refine ⟨fun i m σ H => m = ks.length - i ∧ i ≤ ks.length ∧ Pv i σ H, ⟨ks.length, by simp, Nat.zero_le _, h0⟩, ?_⟩
  rintro i m σ H ⟨rfl, hi, p⟩
  obtain ⟨kvs, q1, q2⟩ := hl i σ H hi p
  by_cases hlt : i < ks.length
  · refine .inr ⟨⟨kvs, q1, q2, hlt⟩, Pv (i + 1), fun σ' H' p' => ⟨ks.length - (i + 1), by omega, rfl, hlt, p'⟩, fun x H' y => ?_⟩
    obtain ⟨e, k, hk, ex⟩ := y
    subst e ex
    exact hs i k σ _ hk p
  · have e : i = ks.length := by omega
    subst e
    exact .inl ⟨⟨kvs, q1, q2, Nat.le_refl _⟩, hd σ H p⟩
/-! ### list(d.values()), len(a set) -/
def ValsO (v d : Addr) : HO := .ext fun h => h.IsValuesView v d
theorem mt_values : MtM X "dict.values" (fun x vs H Q => ∃ d kvs, x = .ref d ∧ vs = [] ∧ H d = some (.dK kvs) ∧ ∀ v, H v = none → Q (.ref v) (upd H v (ValsO v d))) := by
  intro pins s σ H x vs v us Q I rx rv h
  obtain ⟨d, kvs, rfl, rfl, hH, q⟩ := h
  cases rx
  cases rv.zero
  obtain ⟨hz, hy, vs', hk, hD⟩ := (show ObjOk X.prog X.w H s.heap d (.dK kvs) from I.hok d _ hH)
  refine call_meetsIn PySem.F.slot_dict_values hD.typeIs PySem.F.entry_dict_values (PySem.F.args_dict_values_1 _) (meets_dict_values (mixKind X.prog X.w) d hy) ⟨⟨vs', hD⟩, ?_⟩
  have hv : (s.heap.push { cls := .type "dict_values", data := .fields #[.ref d] }).IsValuesView s.heap.objs.size d := ⟨_, Heap.get?_push_size _ rfl, rfl, rfl⟩
  refine ⟨.ref s.heap.objs.size, _, I.laid (t' := s.toks) (fun b o e => Heap.get?_push_of_some _ e) (Nat.le_refl _) (o := ValsO s.heap.objs.size d) ⟨hv, ⟨_, Heap.get?_push_size _ rfl⟩, fun h1 h2 y k => ?_⟩, rfl, q _ (I.hok.fresh (Nat.le_refl _))⟩
  obtain ⟨o, e, r⟩ := y
  exact ⟨o, k o e, r⟩
theorem kv_vals {kvs : List (Key × V)} {vs : List (Key × Value)} (h : KV kvs vs) : Vals (kvs.map (·.2)) (vs.map (·.2)) := by
  induction h with
  | nil => exact .nil
  | cons r t ih => rw [List.map_cons, List.map_cons]; exact .cons r.2 ih
theorem call_list_vals (hc : X.calm = true) : CallR X (.type "list") (fun xs H Q => ∃ v d kvs, xs = [.ref v] ∧ H v = some (ValsO v d) ∧ H d = some (.dK kvs) ∧ ∀ l, H l = none → Q (.ref l) (upd H l (.lst (kvs.map (·.2))))) := by
  intro pins s σ H xs us Q I r h
  obtain ⟨v, d, kvs, rfl, hv, hd, q⟩ := h
  obtain ⟨u, rfl, rx⟩ := vals1 r
  cases rx
  obtain ⟨hz, hy, vs', hk, hD⟩ := (show ObjOk X.prog X.w H s.heap d (.dK kvs) from I.hok d _ hd)
  obtain ⟨ep, hat⟩ := hD.dictAt
  have hview : s.heap.IsValuesView v d := (show ObjOk X.prog X.w H s.heap v (ValsO v d) from I.hok v _ hv).1
  have hl := hk.length
  refine PySem.W.kdl_call (PySem.W.kdl_values (knd := mixKind X.prog X.w) (kvs := vs') (ep := ep)) (I.ok.hd hc) ⟨hview, hat⟩ (by omega) fun h' tk acc' c' kp e hacc => ?_
  have ea : acc'.toList = vs'.map (·.2) := PySem.W.kdl_vals_eq acc'.toList (by rw [Array.length_toList]; exact hacc.1) fun j v' z => hacc.2 j v' (by rw [← Array.getElem?_toList]; exact z)
  refine ⟨.ref s.heap.objs.size, _, I.laid (t' := tk) kp (Nat.le_refl _) (show ObjOk X.prog X.w _ h' _ (.lst (kvs.map (·.2))) from ⟨by rw [List.length_map]; exact hz, vs'.map (·.2), c', kv_vals hk, ?_⟩), rfl, q _ (I.hok.fresh (Nat.le_refl _))⟩
  rw [e, ← ea]
theorem call_len_setO : CallR X (.builtin "len") (fun xs H Q => ∃ p ks, xs = [.ref p] ∧ H p = some (SetO X.prog X.w p ks) ∧ Q (.int ks.length) H) := by
  intro pins s σ H xs us Q I r h
  obtain ⟨p, ks, rfl, hp, q⟩ := h
  obtain ⟨u, rfl, rx⟩ := vals1 r
  cases rx
  obtain ⟨o, es, ep, t, h1, h2, h3, h4, h5, h6, h7, h8, h9⟩ := (show ObjOk X.prog X.w H s.heap p (SetO X.prog X.w p ks) from I.hok p _ hp).1
  have hl := paired_len h5
  have hn : (es.size : Int) < 2 ^ 63 := by
    have : (scanBound : Int) < 2 ^ 63 := by decide
    omega
  exact call_len_set h1 h2 h3 h8 hn ⟨.int ks.length, H, I.tok _, ⟨s.toks + 1, by rw [hl, Array.length_toList]⟩, q⟩
end
end L2
set_option maxHeartbeats 4000000
namespace L2
open PySem PySem.Spec PyProof.Rows
/-! ### exceptions of the text's own classes: raised, passed on -/
section
variable {P : Program} {w : World}
theorem ObjOk.have {H : Hp} {h : Heap} {a : Addr} {o : HO} (x : ObjOk P w H h a o) : ∃ ob, h.get? a = some ob := by
  cases o with
  | lst xs => obtain ⟨_, _, _, _, e⟩ := x; exact ⟨_, e⟩
  | tup xs => obtain ⟨_, _, _, ob, e, _⟩ := x; exact ⟨ob, e⟩
  | dK kvs => obtain ⟨_, _, _, _, ob, _, _, e, _⟩ := x; exact ⟨ob, e⟩
  | dT kvs => obtain ⟨_, _, _, _, ob, _, _, e, _⟩ := x; exact ⟨ob, e⟩
  | set S n => obtain ⟨ob, _, _, _, e, _⟩ := x; exact ⟨ob, e⟩
  | ins C dx fs => obtain ⟨_, _, _, e, _⟩ := x; exact ⟨_, e⟩
  | own y => exact x
  | xd fs => obtain ⟨_, ⟨ob, _, _, e, _⟩, _⟩ := x; exact ⟨ob, e⟩
  | rng lo hi => obtain ⟨_, _, _, e⟩ := x; exact ⟨_, e⟩
  | frz ob u => obtain ⟨e, _⟩ := x; exact ⟨ob, e⟩
  | tbl ps => exact ⟨_, (show h.get? a = some _ from x)⟩
  | met f y => exact ⟨_, (show h.get? a = some _ from x)⟩
  | ext φ => obtain ⟨_, e, _⟩ := x; exact e
/-- all that counts lies in B, which nothing touches while an exception flies -/
def FlyB (B : Heap) (l : List Env) (H' : Hp) (h h1 : Heap) : Prop := ∀ b o, h1.get? b = some o → (H' b ≠ none ∨ ((∃ o₀, h.get? b = some o₀) ∧ b ∉ frs l)) → B.get? b = some o
theorem settle {B : Heap} {l : List Env} {H H' : Hp} {h h1 h2 : Heap} (un : Un (frs l) [] H H' h h1) (ok : HOk P w H' h1) (fb : FlyB B l H' h h1) (fr : h1.FunFrames B l) (st : B.StaysIn h2) (us : h1.UpToSlots h2) :
    Un (frs l) [] H H' h h2 ∧ HOk P w H' h2 ∧ FlyB B l H' h h2 := by
  have nx : ∀ b : Addr, b ∉ ([] : List Addr) := fun b z => by cases z
  have on : ∀ b o, h1.get? b = some o → (H' b ≠ none ∨ ((∃ o₀, h.get? b = some o₀) ∧ b ∉ frs l)) → h2.get? b = some o := fun b o e c => st b o (fb b o e c)
  have slots : ∀ b o, b ∈ frs l → h1.get? b = some o → ∃ sl, h2.get? b = some { o with slots := sl } := fun b o hb e => by
    obtain ⟨_, o', e', d⟩ := fr.mem hb
    rw [e] at e'; cases e'
    exact us b o e d
  have was : ∀ b, (H' b ≠ none ∨ ((∃ o₀, h.get? b = some o₀) ∧ b ∉ frs l)) → ∃ o, h1.get? b = some o := fun b c => by
    rcases c with c | ⟨⟨o₀, c⟩, _⟩
    · cases e : H' b with
      | none => exact absurd e c
      | some u => exact (ok b u e).have
    · exact un.there b o₀ c (nx b)
  refine ⟨⟨fun b o q n hb _ => on b o (un.keep b o q n hb (nx b)) (.inr ⟨⟨o, q⟩, hb⟩), fun b o q n hb _ => ?_, fun b o q n hx => un.free b o q n hx, fun b o q _ => ?_, un.tups, un.frzs, un.tbls⟩, fun b u e => ?_, fun b o e c => ?_⟩
  · obtain ⟨sl, e1⟩ := un.slot b o q n hb (nx b)
    obtain ⟨sl', e2⟩ := slots b _ hb e1
    exact ⟨sl', e2⟩
  · obtain ⟨o', e1⟩ := un.there b o q (nx b)
    by_cases hb : b ∈ frs l
    · obtain ⟨sl, e2⟩ := slots b _ hb e1
      exact ⟨_, e2⟩
    · exact ⟨o', on b o' e1 (.inr ⟨⟨o, q⟩, hb⟩)⟩
  · refine (ok b u e).stay (fun c v hc z => on c v z (.inl ?_)) (fun _ z => z) fun _ _ z => z
    rcases hc with rfl | hc
    · rw [e]; simp
    · rw [hc]; simp
  · obtain ⟨o1, e1⟩ := was b c
    have e2 := on b o1 e1 c
    rw [e] at e2
    cases e2
    exact fb b o e1 c
/-- how an exception lies behind a call -/
def CXe (P : Program) (w : World) : CXT := fun outer H s E ev s' => ∃ (e C : Addr) (a0 : Value) (H' : Hp) (B : Heap), ev = .ref e ∧ s'.os = s.os ∧ AllBare s'.gens ∧ Un (frs outer) [] H H' s.heap s'.heap ∧ HOk P w H' s'.heap ∧
  Heap.FlyingW B outer e (.ref C) a0 s'.heap ∧ FlyB B outer H' s.heap s'.heap ∧ E (.ref C) none H'
end
/-- a def that raises nothing keeps its promise whatever is wanted of exceptions -/
theorem FnOk.lift {P : Program} {w : World} {K : PySem.W.Frag} {mg : Str → Option Value} {base : Heap} {CX : CXT} {k : Nat} {f : Addr} {fd : FuncData} {ps : List Str} {sp : Sp} (F : FnOk P w K mg base CX0 k f fd ps sp) : FnOk P w K mg base CX k f fd ps sp :=
  ⟨F.len, fun A outer s H args us vs Q E hr he hb hv hs => codeAny_mono (F.run A outer s H args us vs Q E hr he hb hv hs) fun r s' q => by
    cases r with
    | ok fl =>
      cases fl with
      | ret u => exact q
      | next => exact q
      | brk => exact q
      | cont => exact q
    | error e => exact False.elim q⟩
section
variable {P : Program} {w : World} {K : PySem.W.Frag} {mg : Str → Option Value} {base : Heap} {N : List Str} {qual : Str} {scope : Scope} {f : Addr} {cd : Value} {A : Around} {outer : List Env} {s0 : Shared} {H0 : Hp} {E : XK}
theorem flyB_out {CX : CXT} {pins : List (Addr × Obj)} {σ : St} {H H' : Hp} {s : Shared} {B h2 : Heap} (I : Inv (cxOf CX P w K mg base N qual scope f cd A outer s0 H0 E) pins σ H s) (fb : FlyB B (cxOf CX P w K mg base N qual scope f cd A outer s0 H0 E).stack H' s.heap h2) : FlyB B outer H' s0.heap h2 := fun b o e c => by
  refine fb b o e ?_
  rcases c with c | ⟨⟨o₀, c⟩, nb⟩
  · exact .inl c
  · obtain ⟨o', e'⟩ := I.base.there b o₀ c (fun z => by cases z)
    refine .inr ⟨⟨o', e'⟩, fun z => ?_⟩
    have z' : b ∈ s0.heap.objs.size :: frs outer := z
    rcases List.mem_cons.mp z' with z' | z'
    · exact absurd (z' ▸ Heap.lt_size c) (Nat.lt_irrefl _)
    · exact nb z'
theorem raises {pins : List (Addr × Obj)} {σ : St} {H : Hp} {s : Shared} {h' : Heap} {e C : Addr} {vs : List Value} (I : Inv (cxOf (CXe P w) P w K mg base N qual scope f cd A outer s0 H0 E) pins σ H s) (hx : Heap.MadeExcOf s.heap h' e (.ref C) vs) (q : E (.ref C) none H) :
    (cxOf (CXe P w) P w K mg base N qual scope f cd A outer s0 H0 E).xe (.ref e) { s with heap := h' } := by
  have hin : ∀ env ∈ (cxOf (CXe P w) P w K mg base N qual scope f cd A outer s0 H0 E).stack, ∀ b, env.frame = some b → b ∈ frs (cxOf (CXe P w) P w K mg base N qual scope f cd A outer s0 H0 E).stack := fun env he b hb => List.mem_filterMap.mpr ⟨env, he, hb⟩
  have hl : s.heap.FunFrames (PySem.W.hideAll s.heap (frs (cxOf (CXe P w) P w K mg base N qual scope f cd A outer s0 H0 E).stack)) (cxOf (CXe P w) P w K mg base N qual scope f cd A outer s0 H0 E).stack := PySem.W.funFrames_hide I.stack hin
  have fb0 : FlyB (PySem.W.hideAll s.heap (frs (cxOf (CXe P w) P w K mg base N qual scope f cd A outer s0 H0 E).stack)) (cxOf (CXe P w) P w K mg base N qual scope f cd A outer s0 H0 E).stack H s.heap h' := fun b o eo c => by
    rcases c with c | ⟨⟨o₀, c⟩, nb⟩
    · cases z : H b with
      | none => exact absurd z c
      | some u =>
        obtain ⟨o1, e1⟩ := (I.hok b u z).have
        have e2 := hx.keeps b o1 e1
        rw [eo] at e2
        cases e2
        exact PySem.W.hideAll_get _ e1 fun hb => by rw [I.stkFree b hb] at z; cases z
    · have e2 := hx.keeps b o₀ c
      rw [eo] at e2
      cases e2
      exact PySem.W.hideAll_get _ c nb
  refine wpAny_leaves_madeW (s := { s with heap := h' }) I.ok.frames rfl (fun b o z => PySem.W.of_hideAll _ z) hl hx fun h2 t fly tup nt us => ?_
  have fr0 := hl.of_keeps (h' := h') fun b o z _ => ⟨o, hx.keeps b o z, rfl⟩
  obtain ⟨un2, ok2, fb2⟩ := settle (Un.kept hx.keeps) (I.hok.kept hx.keeps) fb0 fr0 fly.1 us
  have I2 := I.call (h' := h2) (g' := s.gens) (d' := s.drawn) (t' := s.toks) (ch := []) un2 ok2 I.bare (fun b z => by cases z)
  exact ⟨e, C, .ref t, H, _, rfl, I.os, I.bare, I2.base, ok2, fly, flyB_out I fb2, q⟩
/-- an exception that nobody here catches -/
theorem passesE : Passes (CXe P w) (cxOf (CXe P w) P w K mg base N qual scope f cd A outer s0 H0 E) E := by
  rintro pins σ H s ev s' I ⟨e, C, a0, H', B, rfl, os, bare, un, ok, fly, fb, q⟩
  refine wpAny_leaves_onW I.ok.frames rfl fly fun h2 fly2 us => ?_
  obtain ⟨un2, ok2, fb2⟩ := settle un ok fb fly.2.2.1 fly2.1 us
  have I2 := I.call (h' := h2) (g' := s'.gens) (d' := s'.drawn) (t' := s'.toks) (ch := []) un2 ok2 bare (fun b z => by cases z)
  exact ⟨e, C, a0, H', B, rfl, os.trans I.os, bare, I2.base, ok2, fly2, flyB_out I fb2, q⟩
/-- raise C(), C of the text, without an __init__ of its own -/
def tRaise (E : XK) (C : Addr) : TS := fun _ _ H => E (.ref C) none H
theorem ps_raise0 {x : Str} {C : Addr} {Bn newId initId : String} {bm : List Value} {np cpos pos : Pos} (O : OwnCls x C bm newId mg base) (FB : ExcBaseFacts Bn newId initId bm) (hg : Gl (cxOf (CXe P w) P w K mg base N qual scope f cd A outer s0 H0 E) x) (hdb : (x == ("__debug__" : Str)) = false := by decide) :
    PS (cxOf (CXe P w) P w K mg base N qual scope f cd A outer s0 H0 E) (.Raise (some (.Call (.Name x np) [] [] cpos)) none pos) (tRaise E C) := by
  intro pins s σ H D I h
  obtain ⟨tl, Nn, nm, q, bs, hdct, sn, sub, ab, col, dd, k0, k1, k2, k3, k5, mN, hC, hN, hni, T⟩ := (O.keeps I.bk).obj
  refine wpAny_Raise_call_subT (C := C) (nm := nm) (q := q) (N := Nn) (bs := bs) (bm := tl) (hdct := hdct) (sn := sn) (sub := sub) (ab := ab) (col := col) (dd := dd) (k0 := k0) (k1 := k1) (k2 := k2) (k3 := k3) (k5 := k5)
    FB (mN := mN) (T.hasType FB.hasBase) (I.ok.hd rfl) rfl hni ?_
  refine ld_glob I hg O.bound ⟨rfl, ?_⟩ hdb
  exact PyProof.Rows.evalArgs_empty ⟨rfl, Nat.zero_le _, hC, hN, T, fun h' e hm => raises I hm h⟩
end
/-! ### caught -/
/-- an exception of the class at C -/
def ExcO (e C : Addr) : HO := .ext fun h => ∃ o vs, h.get? e = some o ∧ o.cls = .ref C ∧ o.data = .fields vs
/-- the body of a try; the suite of its except -/
def cxT (X : Cx) (xe : Value → Shared → Prop) : Cx := { X with xe := xe }
def cxH (X : Cx) (e : Addr) : Cx := { X with A := X.A.mark (some (.ref e)), calm := false, xe := fun _ _ => False }
section
variable {X : Cx} {pins : List (Addr × Obj)} {σ : St} {H : Hp} {s : Shared}
theorem Inv.toT (I : Inv X pins σ H s) (xe : Value → Shared → Prop) : Inv (cxT X xe) pins σ H s := by
  obtain ⟨⟨a1, a2, a3, a4, a5, a6, a7, a8, a9, a10, a11, a12, a13, a14, a15, a16, a17, a18⟩, i2, i3, i4, i5, i6, i7, i8, i9, i10, i11⟩ := I
  exact ⟨⟨a1, a2, a3, a4, a5, a6, a7, a8, a9, a10, a11, a12, a13, a14, a15, a16, a17, a18⟩, i2, i3, i4, i5, i6, i7, i8, i9, i10, i11⟩
theorem Inv.ofT {xe : Value → Shared → Prop} (I : Inv (cxT X xe) pins σ H s) : Inv X pins σ H s := by
  obtain ⟨⟨a1, a2, a3, a4, a5, a6, a7, a8, a9, a10, a11, a12, a13, a14, a15, a16, a17, a18⟩, i2, i3, i4, i5, i6, i7, i8, i9, i10, i11⟩ := I
  exact ⟨⟨a1, a2, a3, a4, a5, a6, a7, a8, a9, a10, a11, a12, a13, a14, a15, a16, a17, a18⟩, i2, i3, i4, i5, i6, i7, i8, i9, i10, i11⟩
theorem Inv.toH (I : Inv X pins σ H s) (e : Addr) : Inv (cxH X e) pins σ H s := by
  obtain ⟨⟨a1, a2, a3, a4, a5, a6, a7, a8, a9, a10, a11, a12, a13, a14, a15, a16, a17, a18⟩, i2, i3, i4, i5, i6, i7, i8, i9, i10, i11⟩ := I
  exact ⟨⟨a1, a2, a3, a4, a5, a6, a7, a8, fun z => (by cases z), a10, a11, a12, a13, a14, a15, a16, a17, a18⟩, i2, i3, i4, i5, i6, i7, i8, i9, i10, i11⟩
theorem Inv.ofH {e : Addr} (hd : X.calm = true → X.A.handled = none) (I : Inv (cxH X e) pins σ H s) : Inv X pins σ H s := by
  obtain ⟨⟨a1, a2, a3, a4, a5, a6, a7, a8, a9, a10, a11, a12, a13, a14, a15, a16, a17, a18⟩, i2, i3, i4, i5, i6, i7, i8, i9, i10, i11⟩ := I
  exact ⟨⟨a1, a2, a3, a4, a5, a6, a7, a8, hd, a10, a11, a12, a13, a14, a15, a16, a17, a18⟩, i2, i3, i4, i5, i6, i7, i8, i9, i10, i11⟩
end
end L2
set_option maxHeartbeats 4000000
namespace L2
open PySem PySem.Spec PyProof.Rows
section
variable {X : Cx} {pins : List (Addr × Obj)} {σ : St} {H : Hp} {s : Shared}
/-- an object that nobody spoke of is tracked from here on -/
theorem Inv.track {e : Addr} {o : HO} (I : Inv X pins σ H s) (h0 : X.s₀.heap.get? e = none) (hl : e ≠ X.env.locals) (hc : ∀ x c, X.env.cells.lookup x = some c → c ≠ e) (hp : ∀ p ∈ X.pn ++ pins, p.1 ≠ e) (hn : H e = none) (new : ObjOk X.prog X.w H s.heap e o) : Inv X pins σ (upd H e o) s := by
  have ne : ∀ b u, H b = some u → b ≠ e := fun b u q z => by rw [z, hn] at q; cases q
  have st : ∀ b v, ObjOk X.prog X.w H s.heap b v → ObjOk X.prog X.w (upd H e o) s.heap b v := fun b v q => q.stay (fun _ _ _ z => z) (fun c z => by rw [upd_ne (ne c _ z)]; exact z) fun c xs z => by rw [upd_ne (ne c _ z)]; exact z
  obtain ⟨i1, i2, i3, i4, i5, i6, i7, i8, i9, i10, i11⟩ := I
  refine ⟨i1, i2, i3, ⟨i4.keep, i4.slot, fun b u q n hx => ?_, i4.there, fun b xs q => ?_, fun b u v q => ?_, fun b ps q => ?_⟩, i5, i6, ?_, fun x c q => ?_, fun p hpp => ?_, fun b v q => ?_, i11⟩
  · rw [upd_ne (fun z => by rw [z, h0] at q; cases q)]; exact i4.free b u q n hx
  · have z := i4.tups b xs q
    rw [upd_ne (ne _ _ z)]; exact z
  · have z := i4.frzs b u v q
    rw [upd_ne (ne _ _ z)]; exact z
  · obtain ⟨m, z⟩ := i4.tbls b ps q
    exact ⟨m, by rw [upd_ne (ne _ _ z)]; exact z⟩
  · rw [upd_ne (Ne.symm hl)]; exact i7
  · rw [upd_ne (hc x c q)]; exact i8 x c q
  · obtain ⟨a1, a2, a3⟩ := i9 p hpp
    exact ⟨a1, by rw [upd_ne (hp p hpp)]; exact a2, a3⟩
  · by_cases hb : b = e
    · subst hb
      rw [upd_same] at q
      cases q
      exact st b _ new
    · rw [upd_ne hb] at q
      exact st b v (i10 b v q)
/-- a name is gone -/
theorem Inv.drop {i : Nat} {n : Str} {h' : Heap} {t' : Nat} (I : Inv X pins σ H s) (hN : X.N.Nodup) (hi : X.N[i]? = some n) {m : Str → Option Value} {v : Option Value} (hv : ∀ (i : Nat) (x : Str) (v : V), X.N[i]? = some x → σ[i]? = some (some v) → Vis X.env.scope x → ∃ u, RelV v u ∧ Look X.env s.heap m x u) (hm' : h'.Ns X.env.locals (fun x => if x = n then v else m x)) (sb : Heap.SameBut X.env.locals s.heap h') :
    Inv X pins (σ.set i none) H { s with heap := h', toks := t' } := by
  have neL : ∀ b o, X.s₀.heap.get? b = some o → b ≠ X.env.locals := fun b o e => Nat.ne_of_lt (Nat.lt_of_lt_of_le (Heap.lt_size e) I.ok.above)
  have at_ : ∀ b o, b ≠ X.env.locals → s.heap.get? b = some o → h'.get? b = some o := fun b o nb e => (sb.2 b nb).trans e
  have cne := I.cne
  obtain ⟨i1, i2, i3, i4, i5, i6, i7, i8, i9, i10, i11⟩ := I
  refine ⟨i1, i2, i3, ⟨fun b o e n hb hx => at_ b o (neL b o e) (i4.keep b o e n hb hx), fun b o e n hb hx => ?_, i4.free, fun b o e hx => ?_, i4.tups, i4.frzs, i4.tbls⟩, ?_, fun x c e => ?_, i7, i8, fun p hpp => ?_, fun b v q => ?_, by rw [List.length_set]; exact i11⟩
  · obtain ⟨sl, z⟩ := i4.slot b o e n hb hx
    exact ⟨sl, at_ b _ (neL b o e) z⟩
  · obtain ⟨o', z⟩ := i4.there b o e hx
    exact ⟨o', at_ b _ (neL b o e) z⟩
  · refine ⟨_, hm', fun j x v' e1 e2 e3 => ?_⟩
    have hji : j ≠ i := fun z => by
      subst z
      rw [List.getElem?_set] at e2
      simp only [if_true] at e2
      split at e2 <;> cases e2
    rw [List.getElem?_set_ne (Ne.symm hji)] at e2
    obtain ⟨u, r, l⟩ := hv j x v' e1 e2 e3
    refine ⟨u, r, ?_⟩
    have hxn : x ≠ n := fun z => by
      subst z
      obtain ⟨l1, z1⟩ := List.getElem?_eq_some_iff.mp e1
      obtain ⟨l2, z2⟩ := List.getElem?_eq_some_iff.mp hi
      exact hji ((List.getElem_inj hN).mp (z1.trans z2.symm))
    rcases l with ⟨k, l⟩ | ⟨k, c, e, z⟩
    · exact .inl ⟨k, by show (if x = n then v else m x) = some u; rw [if_neg hxn]; exact l⟩
    · obtain ⟨o, ho, hd⟩ := z
      exact .inr ⟨k, c, e, o, at_ c o (cne x c e) ho, hd⟩
  · obtain ⟨v, o, ho, hd⟩ := i6 x c e
    exact ⟨v, o, at_ c o (cne x c e) ho, hd⟩
  · obtain ⟨a1, a2, a3, a4⟩ := i9 p hpp
    exact ⟨at_ p.1 p.2 a3 a1, a2, a3, a4⟩
  · refine (i10 b v q).stay (fun c u hc z => at_ c u ?_ z) (fun _ z => z) fun _ _ z => z
    intro y
    subst y
    rcases hc with hc | hc
    · rw [← hc, i7] at q; cases q
    · rw [i7] at hc; cases hc
/-! ### a call that may raise, at one state of the locals -/
def PEa (X : Cx) (pins : List (Addr × Obj)) (σ : St) (e : Expr) (t : TE) : Prop := ∀ (s : Shared) (H : Hp) (Q : VK), Inv X pins σ H s → t σ H Q → wpAny (model X.prog X.w) X.A (eval e X.env) (EP X pins σ Q) X.xe s
def PassA (CX : CXT) (X : Cx) (pins : List (Addr × Obj)) (σ : St) (E : XK) : Prop := ∀ (H : Hp) (s : Shared) (e : Value) (s' : Shared), Inv X pins σ H s → CX X.stack H s E e s' → X.xe e s'
variable {CX : CXT} {k : Nat} {f C : Addr} {fd : FuncData} {ps : List Str} {sp : Sp} {dvs : List V} {ds : List Value} {E : XK} {x m : Str} {p pos apos : Pos} {e o : Expr} {es : List Expr} {ta : TE} {t : TA}
theorem run_fnA {Q : VK} {us : List Value} {vs : List V} (F : FnOk X.prog X.w X.K X.mg X.base CX k f fd ps sp) (hr : Room k X.A) (hb : Binds X.K fd ps ds) (hd : Vals dvs ds) (hx : PassA CX X pins σ E)
    (I : Inv X pins σ H s) (r : Vals vs us) (h : sp (vs ++ dvs) H Q E) : wpAny (model X.prog X.w) X.A (call (.ref f) us) (EP X pins σ Q) X.xe s := by
  have r2 := r.append hd
  have hl : (us ++ ds).length = ps.length := (r2.length).symm.trans (F.len _ _ _ _ h)
  refine wpAny_call (codeAny_mono (F.run X.A X.stack s H ⟨us, []⟩ _ _ Q E hr I.env0 (hb s us I.kIn hl) r2 h) fun res s' hq => ?_)
  match res, hq with
  | .error ev, hq => exact hx H s ev s' I hq
  | .ok (.ret u), hq => exact I.after hq
theorem pe_callA (F : FnOk X.prog X.w X.K X.mg X.base CX k f fd ps sp) (hr : Room k X.A) (hg : Gl X x) (hm : X.mg x = some (.ref f)) (hk : PySem.W.keepIn X.K (.ref f) = true) (hb : Binds X.K fd ps ds) (hd : Vals dvs ds) (hx : PassA CX X pins σ E)
    (ha : PA X (e :: es) t) (hdb : (x == ("__debug__" : Str)) = false := by decide) (he : starEach (e :: es) X.env = (false, eval e X.env) :: starEach es X.env := by rfl) (hpl : (backTo pos (starEach es X.env)).any (·.1) = false := by rfl) :
    PEa X pins σ (.Call (.Name x p) (e :: es) [] pos) (tCall sp dvs E t) := by
  intro s H Q I h
  refine wpAny_Call_Name_kw (ld_glob I hg hm ?_ hdb)
  exact PySem.W.callWith_K (h₀ := X.base) I.ok.mod.kin hk (thn (ha pos pins s σ H _ I h) fun us s1 ⟨vs, H1, I1, r, q⟩ => ⟨I1.kIn, run_fnA F hr hb hd hx I1 r q⟩) he hpl
theorem pe_methFA {pl : Sem Bool} {dom : Addr → Prop} {spF : Addr → Sp} (he : PE X o ta) (F : Fam X.prog X.w X.K X.mg X.base CX k dom m ps spF) (hr : Room k X.A) (hx : PassA CX X pins σ E) (ha : PA X (e :: es) t)
    (hst : starEach (e :: es) X.env = (false, eval e X.env) :: starEach es X.env := by rfl) (hpl : (backTo pos (starEach es X.env)).any (·.1) = false := by rfl)
    (ht : eval (.Call (.Attribute o m apos) (e :: es) [] pos) X.env = (do
      let ov ← eval o X.env
      standAt apos.atName
      let (f, first) ← holding [ov] (getMethod ov m pl)
      callWith pos f first (backTo pos (starEach (e :: es) X.env)) (backToKw pos (keywordEach [] X.env))) := by rfl) :
    PEa X pins σ (.Call (.Attribute o m apos) (e :: es) [] pos) (tMethF dom m spF E ta t) := by
  intro s H Q I h
  refine PySem.W.methodCall_KW (pl := pl) (thn (he pins s σ H _ I h) fun u s1 ⟨x, H1, I1, rx, a, C, dx, fs, ex, ea, hd, l, q⟩ => ?_) ht
  subst ex
  obtain rfl : u = Value.ref a := rx
  obtain ⟨f, fd, c, hm, G, hb⟩ := F C hd
  refine getmeth_ok I1 ea c hm l ?_
  refine PySem.W.callWith_K (first := [.ref a]) (h₀ := X.base) I.ok.mod.kin hm.kp (thn (ha pos pins s1 σ H1 _ I1 q) fun us s2 ⟨vs, H2, I2, r, q2⟩ => ⟨I2.kIn, ?_⟩) hst hpl
  exact run_fnA (us := .ref a :: us) (vs := .ref a :: vs) G hr hb .nil hx I2 (.cons rfl r) (by rw [List.append_nil]; exact q2)
end
end L2
set_option maxHeartbeats 4000000
namespace L2
open PySem PySem.Spec PyProof.Rows
section
variable {X : Cx} {pins : List (Addr × Obj)} {σ : St} {H : Hp} {s : Shared}
/-- behind the suite of an except .. as n -/
theorem gone {M : Model} {A : Around} {E : Value → Shared → Prop} {i : Nat} {n : Str} {pos : Pos} {Q : Unit → Shared → Prop} (I : Inv X pins σ H s) (hN : X.N.Nodup) (hi : X.N[i]? = some n) (hloc : X.env.scope.names.lookup n = some .local)
    (h : ∀ s', Inv X pins (σ.set i none) H s' → Q () s') : wpAny M A (do bindName X.env n .none; unbindBehindTheSuite X.env n pos) Q E s := by
  refine wpAny_bind (wpAny_bindName (store_ok (v := .non) I hN hi (Or.inl hloc) rfl (fun s1 I1 => ?_) (.inr hloc)))
  have hiσ : i < σ.length := by rw [I.len]; exact (List.getElem?_eq_some_iff.mp hi).1
  obtain ⟨m, hm, hv⟩ := id I1.loc
  obtain ⟨u, r, l⟩ := hv i n .non hi (by rw [List.getElem?_set_self hiσ]) (.inl hloc)
  have hk : X.env.kindOf n = some .local := hloc
  have hmn : m n = some u := by
    rcases l with ⟨_, l⟩ | ⟨z, _⟩
    · exact l
    · rw [hk] at z; rcases z with z | z <;> cases z
  have hp : (X.env.scope.kind == .class || (X.env.scope.kind == .module && X.env.locals != X.env.globals)) = false := by rw [I.ok.kind]; rfl
  unfold unbindBehindTheSuite
  refine wpAny_onRaise ?_
  unfold unbindName
  refine wpAny_bind (wpAny_point (wpAny_bind ?_))
  unfold deleteName
  simp only [hk, hp]
  rw [if_neg (by decide)]
  refine wpAny_bind (wpAny_nsDel_keeps hm fun h2 v hn2 hs2 => ?_)
  rw [hmn]
  simp only [if_true, Option.isSome_some, Bool.not_true, Bool.false_eq_true, if_false]
  refine wpAny_pure (wpAny_point (h _ ?_))
  have D := I1.drop (h' := h2) (t' := s1.toks) hN hi hv hn2 hs2
  rw [List.set_set] at D
  exact D
end
/-- try: a call; except C as n: a suite that raises nothing -/
def tTry1 (C : Addr) (te : XK → TE) (th : TS) (i : Nat) : TS := fun D σ H =>
  te (fun c _ H' => c = .ref C ∧ ∀ e, H' e = none → th { nx := fun σ' H2 => D.nx (σ'.set i none) H2, rt := D.rt, bk := fun σ' H2 => D.bk (σ'.set i none) H2, ct := fun σ' H2 => D.ct (σ'.set i none) H2 } (σ.set i (some (.ref e))) (upd H' e (ExcO e C))) σ H (fun _ H' => D.nx σ H')
theorem ps_try1 {X : Cx} {callE : Expr} {b₀ : Stmt} {bs : List Stmt} {n x : Str} {i : Nat} {C : Addr} {Bn newId initId : String} {bm : List Value} {te : XK → TE} {th : TS} {p1 np hp pos : Pos}
    (hst : X.stack = X.env :: X.outer) (hex : X.ex = []) (hfr : X.env.frame = some X.env.locals)
    (hcall : ∀ (xe : Value → Shared → Prop) (E : XK) (pins : List (Addr × Obj)) (σ : St), PassA (CXe X.prog X.w) (cxT X xe) pins σ E → PEa (cxT X xe) pins σ callE (te E))
    (O : OwnCls x C bm newId X.mg X.base) (FB : ExcBaseFacts Bn newId initId bm) (hgl : Gl X x) (hN : X.N.Nodup) (hi : X.N[i]? = some n) (hloc : X.env.scope.names.lookup n = some .local)
    (hs : ∀ e : Addr, PSs (cxH X e) (b₀ :: bs) th) (hsw : swapsWith callE none p1.line X.env = pure false := by rfl) (hdb : (x == ("__debug__" : Str)) = false := by decide) :
    PS X (.Try [.Expr callE p1] [.ExceptHandler (some (.Name x np)) (some n) (b₀ :: bs) hp] [] [] pos) (tTry1 C te th i) := by
  intro pins s σ H D I h
  refine wpAny_Try_except ?_
  refine wpAny_execs_cons (wpAny_Expr_any (thn (hcall (fun ev s₁ => wpAny (model X.prog X.w) X.A (noteFrame ev X.env) (fun _ s₂ => wpAny (model X.prog X.w) X.A (setFlight ev none) (fun _ s₃ => wpAny (model X.prog X.w) X.A (handleBy ev X.env [.ExceptHandler (some (.Name x np)) (some n) (b₀ :: bs) hp]) (SP X pins D) X.xe s₃) X.xe s₂) X.xe s₁) _ pins σ ?_ s H _ (I.toT _) h) fun v s1 ⟨x', H1, I1, r1, q1⟩ => ?_) I.quiet hsw)
  · rintro H1 s1 ev s' I1t ⟨e, C', a0, H', B, rfl, os, bare, un, ok, fly, fb, ec, q⟩
    have I1 := I1t.ofT
    cases ec
    obtain ⟨oe, vs, Tt, oT, ts, he, ⟨hcls, _⟩, hdt, _⟩ := id fly.2.2.2
    have hne : H' e = none := by
      cases z : H' e with
      | none => rfl
      | some u =>
        have := fb e oe he (.inl (by rw [z]; simp))
        rw [fly.2.1] at this; cases this
    have e0 : s1.heap.get? e = none := by
      cases z : s1.heap.get? e with
      | none => rfl
      | some o =>
        by_cases hb : e ∈ frs X.stack
        · obtain ⟨_, o', z', d⟩ := fly.2.2.1.mem hb
          rw [he] at z'; cases z'
          exact absurd hdt (d vs)
        · have := fb e oe he (.inr ⟨⟨o, z⟩, hb⟩)
          rw [fly.2.1] at this; cases this
    have fly' : Heap.FlyingW B (X.env :: X.outer) e (.ref C) a0 s'.heap := by
      have z : Heap.FlyingW B X.stack e (.ref C) a0 s'.heap := fly
      rw [hst] at z
      exact z
    have frames' : X.A.frames = some (X.env :: X.outer) := by rw [← hst]; exact I1.ok.frames
    have un' : Un (frs (X.env :: X.outer)) [] H1 H' s1.heap s'.heap := by
      have z : Un (frs X.stack) [] H1 H' s1.heap s'.heap := un
      rw [hst] at z
      exact z
    have fb' : FlyB B (X.env :: X.outer) H' s1.heap s'.heap := by
      have z : FlyB B X.stack H' s1.heap s'.heap := fb
      rw [hst] at z
      exact z
    refine wpAny_looks_onW frames' hfr fly' fun h4 held us4 => ?_
    refine wpAny_landsW (s := { s' with heap := h4 }) held fun h5 fly5 us5 => ?_
    obtain ⟨un5, ok5, fb5⟩ := settle un' ok fb' fly'.2.2.1 fly5.1 (us4.trans us5)
    have no : ∀ b ∈ ([] : List Addr), (b ∈ X.ex ∨ X.s₀.heap.objs.size ≤ b) ∧ b ≠ X.env.locals ∧ (∀ x c, X.env.cells.lookup x = some c → c ≠ b) ∧ ∀ p ∈ X.pn ++ pins, p.1 ≠ b := fun b z => by cases z
    have I5 : Inv X pins σ H' { s' with heap := h5 } := I1.call' (s' := { s' with heap := h5 }) os (by rw [hst]; exact un5) ok5 bare no
    have I5h := I5.toH e
    refine wpAny_handleBy_cons (codeAny_handlers_test (ld_glob (X := cxH X e) I5h hgl O.bound ?_ hdb)) (by intro z; cases z)
    obtain ⟨tl, Nn, nm, qq, bss, hdct, sn, sub, ab, col, dd, k0, k1, k2, k3, k5, mN, hC, hNn, hni, T⟩ := (O.keeps I5.bk).obj
    obtain ⟨ob, hob, hobc⟩ := fly5.there
    refine wpAny_excMatches_sub_self hC hob hobc (T.hasType FB.hasBase) ?_
    refine codeAny_handlers_suite_as ?_
    refine lands_againW (s := { s' with heap := h5 }) fly5 fun h6 fly6 us6 => ?_
    obtain ⟨un6, ok6, fb6⟩ := settle un5 ok5 fb5 fly5.2.2.1 fly6.1 us6
    have I6 : Inv X pins σ H' { s' with heap := h6 } := I1.call' (s' := { s' with heap := h6 }) os (by rw [hst]; exact un6) ok6 bare no
    obtain ⟨oe6, vs6, _, _, _, he6, ⟨hcls6, _⟩, hdt6, _⟩ := id fly6.2.2.2
    have s0e : X.s₀.heap.get? e = none := by
      cases z : X.s₀.heap.get? e with
      | none => rfl
      | some o =>
        obtain ⟨o', z'⟩ := I1.base.there e o z (fun y => by rw [hex] at y; cases y)
        rw [e0] at z'; cases z'
    have I6' : Inv X pins σ (upd H' e (ExcO e C)) { s' with heap := h6 } := by
      refine I6.track s0e (fun z => ?_) (fun y c hy z => ?_) (fun p hpp z => ?_) hne ⟨⟨oe6, vs6, he6, hcls6, hdt6⟩, ⟨oe6, he6⟩, fun h1 h2 y k => ?_⟩
      · obtain ⟨m, ⟨o, _, _, ho, _⟩, _⟩ := I1.loc
        rw [← z, e0] at ho; cases ho
      · obtain ⟨v, o, ho, _⟩ := I1.cell y c hy
        rw [z, e0] at ho; cases ho
      · have := (I1.pin p hpp).1
        rw [z, e0] at this; cases this
      · obtain ⟨o, vs', y1, y2, y3⟩ := y
        exact ⟨o, vs', k o y1, y2, y3⟩
    refine store_ok (X := cxH X e) (v := .ref e) (I6'.toH e) hN hi (Or.inl hloc) rfl (fun s7 I7 => ?_) (.inr hloc)
    refine wpAny_mono ((hs e) pins s7 _ _ _ I7 (q e hne)) (fun f s8 sp => ?_) (fun _ _ z => z.elim)
    cases f with
    | next => obtain ⟨σ', H2, I8, q8⟩ := sp; exact gone (I8.ofH I.ok.hd) hN hi hloc fun s9 I9 => ⟨_, H2, I9, q8⟩
    | brk => obtain ⟨σ', H2, I8, q8⟩ := sp; exact gone (I8.ofH I.ok.hd) hN hi hloc fun s9 I9 => ⟨_, H2, I9, q8⟩
    | cont => obtain ⟨σ', H2, I8, q8⟩ := sp; exact gone (I8.ofH I.ok.hd) hN hi hloc fun s9 I9 => ⟨_, H2, I9, q8⟩
    | ret u => obtain ⟨v, σ', H2, I8, r8, q8⟩ := sp; exact gone (I8.ofH I.ok.hd) hN hi hloc fun s9 I9 => ⟨v, _, H2, I9, r8, q8⟩
  · exact wpAny_execs_nil (wpAny_execs_nil ⟨σ, H1, I1.ofT, q1⟩)
end L2
set_option maxHeartbeats 4000000
namespace L2
open PySem PySem.Spec PyProof.Rows PySem.Calls
/-! ### isinstance of a caught exception -/
/-- an object of the class at D, whatever its own names are -/
def TypeAt (x D : Addr) (h : Heap) : Prop := ∃ o : Obj, h.get? x = some o ∧ o.cls = .ref D
theorem TypeAt.type {M : Model} {h : Heap} {x D : Addr} (I : TypeAt x D h) : PySem.W.Looks M h (typeOf (.ref x)) (.ref D) := by
  obtain ⟨o, h1, h2⟩ := I
  exact h2 ▸ (PySem.W.Looks.ld h1).andThen .now
/-- what __class__ asks of a class -/
structure ClsE (K : PySem.W.Frag) (D : Addr) : Prop where
  ga : PySem.W.findIn K (.ref D) "__getattribute__" = some (some (.builtin "BaseException.__getattribute__"))
  gt : PySem.W.findIn K (.ref D) "__getattr__" = some none
  bx : PySem.W.mroIn K D (.type "BaseException") = some true
  cls : (PySem.W.clsIn K D).isSome = true
  ha : PySem.W.findIn K (.ref D) "__class__" = some (some (.builtin "object.__class__"))
  hn : PySem.W.specialIn K (.builtin "object.__class__") "__get__" = some (some (.builtin "getset_descriptor.__get__"))
  htk : PySem.W.takesIn K (.builtin "object.__class__") = some true
  hm : PySem.W.mroIn K D (.type "object") = some true
section
open Builtin Builtin.ObjectAttr Builtin.Getset_descriptor PySem.W
variable {prog : Program} {w : World} {A : Around} {E : Value → Shared → Prop} {s : Shared} {K : PySem.W.Frag} {x D : Addr}
theorem exc_find {M : Model} {h : Heap} (C : ClsE K D) (X : K.In h) : Looks M h (find (.ref x) (.ref D) "__class__") (.bind (.builtin "getset_descriptor.__get__") (.builtin "object.__class__")) := by
  have L1 := looks_findIn (M := M) X C.ha
  have L2 : Looks M h (getOf (some (.builtin "object.__class__"))) (some (.builtin "getset_descriptor.__get__")) := looks_specialIn X C.hn
  have L3 := looks_takesIn (M := M) X C.htk
  refine L1.andThen (L2.andThen ?_)
  exact (show Looks M h (dataDescriptor? (some (.builtin "object.__class__")) (some (.builtin "getset_descriptor.__get__"))) (some (.builtin "getset_descriptor.__get__", .builtin "object.__class__")) from L3.andThen .now).andThen (Looks.tag .now)
theorem exc_get {tp : Value} {R : Result → Shared → Prop} (C : ClsE K D) (X : K.In s.heap) (I : TypeAt x D s.heap)
    (h : R (.ok (.ret (.ref D))) s) : codeAny (model prog w) A (.call (.builtin "getset_descriptor.__get__") ⟨[.builtin "object.__class__", .ref x, tp], []⟩) R s := by
  obtain ⟨hh, g, dr, t, os⟩ := s
  have L0 := I.type (M := model prog w)
  have L1 := looks_mroIn (M := model prog w) X C.hm
  refine codeAny_call_builtin KF.slot_gs.plain KF.entry_gs (KF.slot_gs.check _ _ _ _ _ _ _ _ KF.type_class (KF.args_gs _ _ _) ?_)
  unfold Builtin.«getset_descriptor.__get__» descrGet
  rw [dga_obj]
  refine wpAny_bind (wpAny_pure ?_)
  unfold descrGetter descrCheckInstance descrNameAndClass isInstance
  simp only [KF.owner_class]
  repeat lk
  refine ⟨Code.quiet_builtin _ (by decide +kernel), codeAny_builtin KF.entry_class ?_⟩
  unfold Builtin.«object.__class__» shownTypeOf
  repeat lk
  exact h
theorem exc_entry {tk : Tok} {P : Value → Shared → Prop} (C : ClsE K D) (X : K.In s.heap) (I : TypeAt x D s.heap)
    (h : wpAny (model prog w) A (call (.builtin "getset_descriptor.__get__") [.builtin "object.__class__", .ref x, .ref D]) P E s) :
    wpAny (model prog w) A (Builtin.«object.__getattribute__» ⟨[.ref x, .str "__class__" tk], []⟩) (fun fin s' => ∃ v, fin = .done (.ret v) ∧ P v s') E s := by
  obtain ⟨hh, gg, d, t, os⟩ := s
  have L0 := I.type (M := model prog w)
  have L1 := exc_find (M := model prog w) (x := x) C X
  refine wpAny_bind (wpAny_pure ?_)
  refine wpAny_bind (m := attrName _) (wpAny_pure ?_)
  refine wpAny_bind (L0.at (wpAny_bind (L1.at ?_)))
  show wpAny _ _ (holding [.builtin "object.__class__"] (call (.builtin "getset_descriptor.__get__") [.builtin "object.__class__", .ref x, .ref D]) >>= ret) _ _ _
  exact wpAny_bind (wpAny_holding (wpAny_mono h (fun v s' z => wpAny_pure ⟨v, rfl, z⟩) fun _ _ z => z))
theorem exc_check {nameV : Value} {Q : Unit → Shared → Prop} (C : ClsE K D) (X : K.In s.heap) (I : TypeAt x D s.heap) (hq : Q () s) : wpAny (model prog w) A (checkBuiltinCall "BaseException.__getattribute__" ⟨[.ref x, nameV], []⟩) Q E s := by
  have hk : builtinKind "BaseException.__getattribute__" = some .slot := by decide +kernel
  have hsplit : splitId "BaseException.__getattribute__" = some ("BaseException", "__getattribute__") := by decide +kernel
  have ha := F.args_bexc_ga (.ref x) nameV
  obtain ⟨hh, gg, d, t, os⟩ := s
  have L0 := I.type (M := model prog w)
  have L1 := looks_mroIn (M := model prog w) X C.bx
  have LI : Looks (model prog w) hh (isInstance (.ref x) (.type "BaseException")) true := L0.andThen L1
  simp only [checkBuiltinCall, hk, hsplit]
  refine wpAny_bind (LI.at ?_)
  simp only [Bool.not_true, Bool.false_eq_true, if_false]
  cases hsig : Manifest.signature? "BaseException.__getattribute__" with
  | none => exact wpAny_pure hq
  | some sig =>
    simp only [argsOk, hsig] at ha
    have h2 : Bind.checkArgs "BaseException.__getattribute__" sig ⟨[.ref x, nameV], []⟩ = pure () := ha
    show wpAny _ _ (Bind.checkArgs "BaseException.__getattribute__" sig ⟨[.ref x, nameV], []⟩) Q E _
    rw [h2]; exact wpAny_pure hq
theorem exc_open {Q : Option Value → Shared → Prop} (C : ClsE K D) (X : K.In s.heap) (I : TypeAt x D s.heap)
    (h : wpAny (model prog w) A.in1 (call (.builtin "getset_descriptor.__get__") [.builtin "object.__class__", .ref x, .ref D]) (fun v s' => wpAny (model prog w) A (handedOut v) (fun v s'' => Q (some v) s'') (fun _ _ => False) s') (fun _ _ => False) { s with toks := s.toks + 1 }) :
    wpAny (model prog w) A (getAttr? (.ref x) "__class__") Q E s := by
  obtain ⟨hh, g, d, t, os⟩ := s
  have L0 := I.type (M := model prog w)
  have L1 := looks_findIn (M := model prog w) X C.ga
  have L2 := looks_findIn (M := model prog w) X C.gt
  have f3 := F.excAttr_ValueError.ga.bind (.ref x)
  have hx2 : (Value.builtin "BaseException.__getattribute__" == Value.builtin "object.__getattribute__") = false := by decide +kernel
  unfold getAttr? getAttrBy? getAttrBy
  refine wpAny_bind (wpAny_mkText (wpAny_bind (wpAny_attempt (wpAny_holding (wpAny_bind (L0.at (wpAny_bind (L1.at ?_))))))))
  dsimp only
  rw [if_neg (by rw [hx2, Bool.and_false]; decide)]
  unfold getAttrByItsOwn hookBefore
  refine wpAny_bind ?_
  rw [if_pos (show onTheHeap (Value.ref D) = true from rfl)]
  refine L2.at ?_
  refine wpAny_bind (wpAny_attempt (wpAny_holding ?_))
  unfold callGetattribute
  rw [if_neg (by simp)]
  unfold boundAndCalled
  rw [f3]
  refine wpAny_bind (wpAny_pure ?_)
  dsimp only
  refine wpAny_call (codeAny_call_builtin F.excAttr_ValueError.ga.plain F.entry_bexc_ga (exc_check (s := ⟨hh, g, d, t + 1, os⟩) C X I (wpAny_mono (exc_entry (s := ⟨hh, g, d, t + 1, os⟩) C X I h) (fun fin s' z => ?_) fun _ _ z => z.elim)))
  obtain ⟨v, rfl, z⟩ := z
  exact wpAny_mono z (fun v s'' hv => wpAny_pure hv) (fun _ _ z => z.elim)
theorem exc_class {Q : Option Value → Shared → Prop} (C : ClsE K D) (X : K.In s.heap) (I : TypeAt x D s.heap) (h : Q (some (.ref D)) { s with toks := s.toks + 1 }) : wpAny (model prog w) A (getAttr? (.ref x) "__class__") Q E s :=
  exc_open C X I (wpAny_call (exc_get (s := { s with toks := s.toks + 1 }) C X I (handed_on rfl h)))
theorem kitx_exc (C : ClsE K D) : KitX K (.ref x) (.ref D) (TypeAt x D) where
  ty := fun _ _ _ I => I.type
  it := fun _ _ X _ => by
    obtain ⟨cdD, hcD⟩ := Option.isSome_iff_exists.mp C.cls
    unfold clsIn at hcD
    split at hcD
    · rename_i c' d' cd' sl' ho
      intro A' Q' E' s' k q
      unfold isType loadHead
      exact wpAny_bind (wpAny_loadPart (k _ _ (X _ _ ho)) (wpAny_pure q))
    · cases hcD
  ne := fun h tp dd its n sl X htp => by
    obtain ⟨cdD, hcD⟩ := Option.isSome_iff_exists.mp C.cls
    refine Bool.eq_false_iff.mpr fun q => ?_
    have e : D = tp := Value.ref.inj (beq_iff_eq.mp q)
    subst e
    unfold clsIn at hcD
    split at hcD
    · rename_i c' d' cd' sl' ho
      have z := (X _ _ ho).symm.trans htp
      cases z
    · cases hcD
  ca := fun X I k => exc_class C X I k
end
section
variable {X : Cx}
/-- isinstance(e, a class) -/
def rIsE (K : PySem.W.Frag) : List V → Hp → (V → Hp → Prop) → Prop := fun xs H Q => ∃ (a D : Addr) (cv : V) (c : Value) (b : Bool), xs = [.ref a, cv] ∧ (∀ u, RelV cv u → u = c) ∧ H a = some (ExcO a D) ∧ ClsE K D ∧ PySem.W.kitOne K (.ref D) c = some b ∧ Q (.bl b) H
theorem ExcO.at_ {pins : List (Addr × Obj)} {σ : St} {H : Hp} {s : Shared} {a D : Addr} (I : Inv X pins σ H s) (e : H a = some (ExcO a D)) : TypeAt a D s.heap := by
  obtain ⟨⟨o, vs, h1, h2, _⟩, _⟩ := (show ObjOk X.prog X.w H s.heap a (.ext fun h => ∃ o vs, h.get? a = some o ∧ o.cls = .ref D ∧ o.data = .fields vs) from I.hok a _ e)
  exact ⟨o, h1, h2⟩
theorem call_isE {K : PySem.W.Frag} (hK : X.K = K) : CallR X (.builtin "isinstance") (rIsE K) := by
  subst hK
  intro pins s σ H xs us Q I r h
  obtain ⟨a, D, cv, c, b, rfl, hc, ea, C, e, q⟩ := h
  obtain ⟨u, w', rfl, r1, r2⟩ := vals2 r
  have := hc _ r2
  subst this
  obtain rfl : u = Value.ref a := r1
  exact PySem.W.kia_one (kitx_exc C) I.kIn (ExcO.at_ I ea) e (fun z => nomatch z) fun tk => ⟨.bl b, H, I.tok tk, rfl, q⟩
/-- isinstance(e, a tuple of classes) -/
def rIsT (K : PySem.W.Frag) : List V → Hp → (V → Hp → Prop) → Prop := fun xs H Q => ∃ (a D tp : Addr) (cvs : List V) (cs : List Value) (b : Bool), xs = [.ref a, .ref tp] ∧ H tp = some (.tup cvs) ∧ (∀ us, Vals cvs us → us = cs) ∧ H a = some (ExcO a D) ∧ ClsE K D ∧ PySem.W.kitAny K (.ref D) cs = some b ∧ Q (.bl b) H
theorem call_isT {K : PySem.W.Frag} (hK : X.K = K) : CallR X (.builtin "isinstance") (rIsT K) := by
  subst hK
  intro pins s σ H xs us Q I r h
  obtain ⟨a, D, tp, cvs, cs, b, rfl, et, hc, ea, C, e, q⟩ := h
  obtain ⟨u, w', rfl, r1, r2⟩ := vals2 r
  obtain rfl : u = Value.ref a := r1
  obtain rfl : w' = Value.ref tp := r2
  obtain ⟨_, its, rv, o, h1, h2, n, h3⟩ := (show ObjOk X.prog X.w H s.heap tp (.tup cvs) from I.hok tp _ et)
  have := hc _ rv
  subst this
  obtain ⟨oc, odd, oda, osl⟩ := o
  dsimp only at h2 h3
  subst h2; subst h3
  exact PySem.W.kia_tup (kitx_exc C) I.kIn (ExcO.at_ I ea) h1 e (fun z => nomatch z) fun tk => ⟨.bl b, H, I.tok tk, rfl, q⟩
end
end L2
set_option maxHeartbeats 4000000
namespace L2
open PySem PySem.Spec PyProof.Rows
section
variable {X : Cx}
theorem bls_at : ∀ {bs : List Bool} {its : List Value}, Vals (bs.map V.bl) its → ∀ (i : Nat) (v : Value), its[i]? = some v → v = .bool (bs.getD i true)
  | [], _, .nil, i, v, e => by simp at e
  | b :: r, _, .cons h t, 0, v, e => by
    simp at e
    subst e
    exact h
  | b :: r, _, .cons h t, i + 1, v, e => by
    have := bls_at t i v (by simpa using e)
    simpa using this
theorem range_all_id (bs : List Bool) : ((List.range bs.length).all fun i => bs.getD i true) = bs.all id := by
  rw [Bool.eq_iff_iff, List.all_eq_true, List.all_eq_true]
  refine ⟨fun h b hb => ?_, fun h i hi => ?_⟩
  · obtain ⟨i, hi, e⟩ := List.getElem_of_mem hb
    have z := h i (List.mem_range.mpr hi)
    rw [List.getD_eq_getElem?_getD, List.getElem?_eq_getElem hi] at z
    subst e
    exact z
  · have hi' := List.mem_range.mp hi
    rw [List.getD_eq_getElem?_getD, List.getElem?_eq_getElem hi']
    exact h _ (List.getElem_mem hi')
/-- all(a list of truths) -/
theorem call_all_bls (hc : X.calm = true) : CallR X (.builtin "all") (fun xs H Q => ∃ (p : Addr) (bs : List Bool), xs = [.ref p] ∧ SqL X.K H p (bs.map V.bl) ∧ Q (.bl (bs.all id)) H) := by
  intro pins s σ H xs us Q I r h
  obtain ⟨p, bs, rfl, hq, q⟩ := h
  obtain ⟨u, rfl, rx⟩ := vals1 r
  cases rx
  obtain ⟨its, r', pl, hz⟩ := I.list hq
  have hlen := r'.length
  rw [List.length_map] at hlen
  obtain ⟨op, hop, _⟩ := id pl.isList
  have hlt : p < s.heap.objs.size := Heap.lt_size hop
  have hh : X.A.in1.handled = none := by simp [I.ok.hd hc]
  refine call_all_walk (wpAny_pyIter_list pl.isList ⟨s.heap.objs.size, _, _, its.toArray.size, _, _, fun i => bs.getD i true, rfl, Walks.list hh _ p (Nat.ne_of_lt hlt) its.toArray, ⟨⟨_, Heap.get?_push_size _ rfl, rfl, rfl⟩, pl.isList.push _⟩, fun i v s' R E' hP hR => ?_, fun h' tk hk => ?_⟩)
  · have e := bls_at r' i v (by simpa using hP)
    subst e
    exact wpAny_truthy_bool hR
  · have hk' : ∀ b o, s.heap.get? b = some o → h'.get? b = some o := fun b o e =>
      hk b o (fun hI => absurd (Heap.lt_size e) (by rw [List.mem_singleton.mp hI]; exact Nat.lt_irrefl _)) (Heap.get?_push_of_some _ e)
    have e1 : ((List.range its.toArray.size).all fun i => bs.getD i true) = bs.all id := by
      rw [List.size_toArray, ← hlen, range_all_id]
    rw [e1]
    exact ⟨.bl (bs.all id), H, I.kept (t' := tk) hk', rfl, q⟩
end
end L2
set_option maxHeartbeats 4000000
namespace L2
open PySem PySem.Spec PyProof.Rows
section
variable {X : Cx} {pins : List (Addr × Obj)} {σ : St} {H : Hp} {s : Shared} {h' : Heap}
/-- several untracked records of ours have turned -/
theorem Inv.turnedM {t' : Nat} {fp : List Addr} (I : Inv X pins σ H s) (k : ∀ b o, b ∉ fp → s.heap.get? b = some o → h'.get? b = some o) (hf : ∀ b ∈ fp, FpOk X pins H b) : Inv X pins σ H { s with heap := h', toks := t' } := by
  have nit : ∀ b u, H b = some u → b ∉ fp := fun b u e z => by rw [(hf b z).1] at e; cases e
  have nL : X.env.locals ∉ fp := fun z => (hf _ z).2.1 rfl
  refine I.step (g' := s.gens) (d' := s.drawn) (ch := fp) (fun b hb => ?_) (fun b o _ _ hc e _ => k b o hc e) (fun b o _ _ hc e _ => ⟨o.slots, k b o hc e⟩) (fun _ _ _ _ n => n)
    (fun b o hc e => ⟨o, k b o hc e⟩) (fun _ _ e => e) (fun _ _ _ e => e) (fun b ps e => ⟨#[], by rw [e]; simp⟩) (fun m hm => ?_) (fun b u e => ?_) I.bare
  · obtain ⟨f0, f1, f2, f3, f4, f5⟩ := hf b hb
    exact ⟨f3, f1, f4, f5⟩
  · obtain ⟨o, es, ep, ho, r⟩ := hm
    exact ⟨o, es, ep, k _ o nL ho, r⟩
  · refine (I.hok b u e).stay (fun c v hc q => k c v ?_ q) (fun _ q => q) fun _ _ q => q
    rcases hc with z | z
    · rw [z]; exact nit b u e
    · exact nit c _ z
end
/-- the pairs of two lists' items -/
def Itzl (K : PySem.W.Frag) (a b : Addr) : It :=
  ⟨fun i H => ∃ xs ys x y, SqL K H a xs ∧ SqL K H b ys ∧ xs[i]? = some x ∧ ys[i]? = some y,
   fun i H v H' => ∃ T, v = .ref T ∧ H T = none ∧ ∀ xs ys x y, SqL K H a xs → SqL K H b ys → xs[i]? = some x → ys[i]? = some y → H' = upd H T (.tup [x, y]),
   fun i H => ∃ xs ys, SqL K H a xs ∧ SqL K H b ys ∧ (xs.length ≤ i ∨ ys.length ≤ i)⟩
def ZipAtL (z TI TO i1 i2 a b : Addr) (i : Nat) (h : Heap) : Prop := IsZip h z TI TO .none ∧ IsPair h TI (.ref i1) (.ref i2) ∧ (∃ u v, IsPair h TO u v) ∧ h.IsListIter i1 a i ∧ h.IsListIter i2 b i
theorem turn_zipL {P : Program} {w : World} {K : PySem.W.Frag} {elts : List Expr} {kk : Nat} {pos : Pos} {z TI TO i1 i2 a b : Addr} (D : ZipApart z TI TO i1 i2 a b) : Turn P w K (.Tuple elts kk pos) (Itzl K a b) [z, TI, TO, i1, i2] z (ZipAtL z TI TO i1 i2 a b) where
  mem := by simp
  obj := fun i h st c hc => by
    obtain ⟨ez, eI, ⟨u, v, eO⟩, ⟨o1, e1, c1, d1⟩, ⟨o2, e2, c2, d2⟩⟩ := st
    simp only [List.mem_cons, List.not_mem_nil, or_false] at hc
    rcases hc with rfl | rfl | rfl | rfl | rfl
    · exact ⟨_, ez, fun v y => by cases y⟩
    · exact ⟨_, eI, fun v y => by cases y⟩
    · exact ⟨_, eO, fun v y => by cases y⟩
    · exact ⟨o1, e1, fun v y => by rw [d1] at y; cases y⟩
    · exact ⟨o2, e2, fun v y => by rw [d2] at y; cases y⟩
  keep := fun i h h' st k => by
    obtain ⟨ez, eI, ⟨u, v, eO⟩, s1, s2⟩ := st
    exact ⟨k z (by simp) _ ez, k TI (by simp) _ eI, ⟨u, v, k TO (by simp) _ eO⟩, s1.at fun o e => k i1 (by simp) o e, s2.at fun o e => k i2 (by simp) o e⟩
  item := by
    intro X hP hw hK hc i pins s σ H E I hf st hg
    subst hP hw hK
    obtain ⟨ez, eI, ⟨u, v, eO⟩, s1, s2⟩ := st
    obtain ⟨xs, ys, x, y, q1, q2, g1, g2⟩ := hg
    obtain ⟨its1, r1, p1, z1⟩ := I.list q1
    obtain ⟨its2, r2, p2, z2⟩ := I.list q2
    obtain ⟨ux, hx, rx⟩ := r1.get g1
    obtain ⟨uy, hy, ry⟩ := r2.get g2
    refine wpAny_pyNext_zip_item D ez eI eO s1 s2 p1.isList p2.isList (x := ux) (y := uy) (by simpa using hx) (by simpa using hy) fun h' a1 a2 a3 a4 a5 a6 a7 => ⟨_, rfl, ?_⟩
    refine wpAny_letOwnedTupleGo_zip (s := { s with heap := h' }) a1 fun h2 b1 b2 => ?_
    have zlt : z < s.heap.objs.size := Heap.lt_size ez
    have olt : TO < s.heap.objs.size := Heap.lt_size eO
    have Ilt : TI < s.heap.objs.size := Heap.lt_size eI
    obtain ⟨o1, e1, _⟩ := id s1
    obtain ⟨o2, e2, _⟩ := id s2
    have lt1 : i1 < s.heap.objs.size := Heap.lt_size e1
    have lt2 : i2 < s.heap.objs.size := Heap.lt_size e2
    have fr : H s.heap.objs.size = none := I.hok.fresh (Nat.le_refl _)
    have I0 : Inv X pins σ (upd H s.heap.objs.size (.tup [x, y])) { s with heap := s.heap.push { cls := .type "tuple", data := .seq #[ux, uy] } } := by
      refine I.laid (t' := s.toks) (fun c o e => Heap.get?_push_of_some _ e) (Nat.le_refl _) ?_
      exact ⟨by show 2 ≤ sizeLine; exact Nat.le_of_lt (small1000 (by decide)), [ux, uy], .cons rx (.cons ry .nil), ⟨_, Heap.get?_push_size _ rfl, rfl, _, rfl⟩⟩
    have nlt : ∀ c ∈ [z, TI, TO, i1, i2], c ≠ s.heap.objs.size := by
      intro c hc
      simp only [List.mem_cons, List.not_mem_nil, or_false] at hc
      rcases hc with rfl | rfl | rfl | rfl | rfl
      · exact Nat.ne_of_lt zlt
      · exact Nat.ne_of_lt Ilt
      · exact Nat.ne_of_lt olt
      · exact Nat.ne_of_lt lt1
      · exact Nat.ne_of_lt lt2
    have hf0 : ∀ c ∈ [z, TI, TO, i1, i2], FpOk X pins (upd H s.heap.objs.size (.tup [x, y])) c := fun c hc => by
      obtain ⟨f0, f1⟩ := hf c hc
      exact ⟨by rw [upd_ne (nlt c hc)]; exact f0, f1⟩
    have I1 : Inv X pins σ (upd H s.heap.objs.size (.tup [x, y])) { s with heap := h2 } := by
      refine Inv.turnedM (s := { s with heap := s.heap.push { cls := .type "tuple", data := .seq #[ux, uy] } }) (h' := h2) (t' := s.toks) (fp := [z, TI, TO, i1, i2]) I0 (fun c o nc e => ?_) hf0
      simp only [List.mem_cons, List.not_mem_nil, or_false, not_or] at nc
      obtain ⟨n1, n2, n3, n4, n5⟩ := nc
      rcases Heap.get?_push_cases e with ⟨rfl, rfl⟩ | e
      · exact b2.extBut _ _ n1 a5
      · exact b2.extBut _ _ n1 (a7 c o n1 n3 n4 n5 e)
    refine ⟨.ref s.heap.objs.size, _, I1, rfl, ⟨_, rfl, fr, fun xs' ys' x' y' q1' q2' g1' g2' => ?_⟩, ⟨b1, b2.extBut _ _ D.TIz (a7 _ _ D.TIz D.TITO D.TIi1 D.TIi2 eI), ⟨_, _, b2.extBut _ _ D.TOz a2⟩, a3.at fun o e => b2.extBut _ _ D.i1z e, a4.at fun o e => b2.extBut _ _ D.i2z e⟩, fun c hc => (hf0 c hc).1⟩
    have ex : xs' = xs := I.list_inj q1' q1
    have ey : ys' = ys := I.list_inj q2' q2
    subst ex ey
    rw [g1] at g1'
    rw [g2] at g2'
    cases g1'
    cases g2'
    rfl
  done := by
    intro X hP hw hK hc i pins s σ H E I hf st hg
    subst hP hw hK
    obtain ⟨ez, eI, ⟨u, v, eO⟩, s1, s2⟩ := st
    obtain ⟨xs, ys, q1, q2, g⟩ := hg
    obtain ⟨its1, r1, p1, z1⟩ := I.list q1
    obtain ⟨its2, r2, p2, z2⟩ := I.list q2
    have l1 := r1.length
    have l2 := r2.length
    refine wpAny_pyNext_zip_end (I.ok.hd hc) D ez eI eO s1 s2 p1.isList p2.isList ?_ fun h' kk => ⟨rfl, ?_⟩
    · rcases g with g | g
      · left; simp; omega
      · right; simp; omega
    · refine I.turnedM (t' := s.toks) (fp := [z, TI, TO, i1, i2]) (fun c o nc e => ?_) hf
      simp only [List.mem_cons, List.not_mem_nil, or_false, not_or] at nc
      obtain ⟨n1, n2, n3, n4, n5⟩ := nc
      exact kk c o n1 n3 n4 n5 e
  self := fun _ _ _ _ _ st h => wpAny_pyIter_zip st.1 h
theorem zipL_apart {n a b : Nat} (ha : a < n) (hb : b < n) : ZipApart (n + 4) (n + 2) (n + 3) n (n + 1) a b := by
  constructor <;> exact fun (e : @Eq Nat _ _) => absurd e (by omega)
section
variable {X : Cx}
def iZipL (K : PySem.W.Frag) (ta : TA) : TI := fun σ H R => ta σ H fun vs H1 => ∃ a b xs ys, vs = [.ref a, .ref b] ∧ SqL K H1 a xs ∧ SqL K H1 b ys ∧ R (Itzl K a b) H1
theorem pi_zipL {a b : Expr} {ta : TA} {p pos : Pos} {elts : List Expr} {kk : Nat} {tp : Pos} (hg : Gl X "zip") (hm : X.mg "zip" = none) (ha : PA X [a, b] ta) (hs : starEach [a, b] X.env = [(false, eval a X.env), (false, eval b X.env)] := by rfl) (hs2 : starEach [b] X.env = [(false, eval b X.env)] := by rfl) :
    PI X (.Tuple elts kk tp) (.Call (.Name "zip" p) [a, b] [] pos) (iZipL X.K ta) := by
  intro pins s σ H R I h
  refine Call_ (ld_blt I hg hm boot_zip (PyProof.Rows.callWith_type1 (thn (ha pos pins s σ H _ I h) fun us s1 ⟨vs, H1, I1, r1, q1⟩ => ?_) (by rw [hs, hs2]) (by rw [hs2]; rfl)))
  obtain ⟨ea, eb, xs, ys, rfl, h1, h2, q⟩ := q1
  obtain ⟨u1, u2, rfl, rr1, rr2⟩ := vals2 r1
  cases rr1
  cases rr2
  obtain ⟨its1, v1, p1, z1⟩ := I1.list h1
  obtain ⟨its2, v2, p2, z2⟩ := I1.list h2
  obtain ⟨oa, eoa, _⟩ := id p1.isList
  obtain ⟨ob, eob, _⟩ := id p2.isList
  have la : ea < s1.heap.objs.size := Heap.lt_size eoa
  have lb : eb < s1.heap.objs.size := Heap.lt_size eob
  refine call_zip_2 p1.isList p2.isList fun h' c1 c2 c3 c4 c5 c6 c7 => ?_
  refine wpAny_pyIter_zip (s := { s1 with heap := h' }) c1 ?_
  have D : ZipApart (s1.heap.objs.size + 4) (s1.heap.objs.size + 2) (s1.heap.objs.size + 3) s1.heap.objs.size (s1.heap.objs.size + 1) ea eb := by
    exact zipL_apart la lb
  refine ⟨s1.heap.objs.size + 4, [s1.heap.objs.size + 4, s1.heap.objs.size + 2, s1.heap.objs.size + 3, s1.heap.objs.size, s1.heap.objs.size + 1], _, _, H1, rfl, I1.kept (t' := s1.toks) c7, turn_zipL D, ⟨c1, c2, ⟨_, _, c3⟩, c4, c5⟩, fun c hc => ?_, q⟩
  have hge : s1.heap.objs.size ≤ c := by
    simp only [List.mem_cons, List.not_mem_nil, or_false] at hc
    rcases hc with rfl | rfl | rfl | rfl | rfl
    · exact Nat.le_add_right _ 4
    · exact Nat.le_add_right _ 2
    · exact Nat.le_add_right _ 3
    · exact Nat.le_refl _
    · exact Nat.le_add_right _ 1
  exact I1.fpOk hge (I1.hok.fresh hge)
/-- over the pairs of two lists of one length -/
theorem for_zipL {K : PySem.W.Frag} {a b : Addr} {xs ys : List V} {g : TG} {tb : TS} {D : Ends} {σ : St} {H : Hp} (hlen : xs.length = ys.length) (Pv : Nat → St → Hp → Prop) (h0 : Pv 0 σ H) (hl : ∀ i σ H, i ≤ xs.length → Pv i σ H → SqL K H a xs ∧ SqL K H b ys)
    (hs : ∀ i x y T σ H, xs[i]? = some x → ys[i]? = some y → H T = none → Pv i σ H → g (.ref T) σ (upd H T (.tup [x, y])) fun σ2 H2 => tb { D with nx := Pv (i + 1), ct := Pv (i + 1), bk := D.nx } σ2 H2) (hd : ∀ σ H, Pv xs.length σ H → D.nx σ H) :
    ∃ W : Nat → Nat → St → Hp → Prop, (∃ m, W 0 m σ H) ∧ ∀ i m σ H, W i m σ H →
      ((Itzl K a b).stop i H ∧ D.nx σ H) ∨ ((Itzl K a b).go i H ∧ ∃ N : St → Hp → Prop, (∀ σ' H', N σ' H' → ∃ m', m' < m ∧ W (i + 1) m' σ' H') ∧ ∀ x H', (Itzl K a b).yld i H x H' → g x σ H' fun σ2 H2 => tb { D with nx := N, ct := N, bk := D.nx } σ2 H2) := by
  refine ⟨fun i m σ H => m = xs.length - i ∧ i ≤ xs.length ∧ Pv i σ H, ⟨xs.length, rfl, Nat.zero_le _, h0⟩, ?_⟩
  rintro i m σ H ⟨rfl, hi, p⟩
  obtain ⟨q1, q2⟩ := hl i σ H hi p
  rcases Nat.lt_or_ge i xs.length with hlt | hge
  · have hlt2 : i < ys.length := by omega
    refine .inr ⟨⟨xs, ys, xs[i], ys[i], q1, q2, List.getElem?_eq_getElem hlt, List.getElem?_eq_getElem hlt2⟩, Pv (i + 1), fun σ' H' p' => ⟨xs.length - (i + 1), by omega, rfl, hlt, p'⟩, fun x H' y => ?_⟩
    obtain ⟨T, e1, e2, e3⟩ := y
    have e := e3 xs ys _ _ q1 q2 (List.getElem?_eq_getElem hlt) (List.getElem?_eq_getElem hlt2)
    subst e e1
    exact hs i _ _ T σ H (List.getElem?_eq_getElem hlt) (List.getElem?_eq_getElem hlt2) e2 p
  · have e : i = xs.length := Nat.le_antisymm hi hge
    subst e
    exact .inl ⟨⟨xs, ys, q1, q2, .inl (Nat.le_refl _)⟩, hd σ H p⟩
/-! ### the values of a dict walked -/
def Itv (d : Addr) (o : Obj) (kvs : List (Key × V)) : It :=
  ⟨fun i H => H d = some (.frz o (.dK kvs)) ∧ i < kvs.length,
   fun i H x H' => H' = H ∧ ∃ k, kvs[i]? = some (k, x),
   fun i H => H d = some (.frz o (.dK kvs)) ∧ kvs.length ≤ i⟩
theorem kv_get {kvs : List (Key × V)} {vs : List (Key × Value)} (h : KV kvs vs) : ∀ {i : Nat} {k : Key} {u : Value}, vs[i]? = some (k, u) → ∃ x, kvs[i]? = some (k, x) ∧ RelV x u := by
  induction h with
  | nil => intro i k u e; simp at e
  | @cons a b l₁ l₂ r t ih =>
    intro i k u e
    cases i with
    | zero =>
      simp at e
      subst e
      obtain ⟨a1, a2⟩ := a
      obtain ⟨r1, r2⟩ := r
      dsimp only at r1 r2
      subst r1
      exact ⟨a2, rfl, r2⟩
    | succ i =>
      obtain ⟨x, e1, e2⟩ := ih (i := i) (k := k) (u := u) (by simpa using e)
      exact ⟨x, by simpa using e1, e2⟩
theorem turn_vals {P : Program} {w : World} {K : PySem.W.Frag} {tg : Expr} (d it : Addr) (o : Obj) (kvs : List (Key × V)) {es : Array DictEntry} {ep : Nat} (hod : o.data = .dict es ep) : Turn P w K tg (Itv d o kvs) [it] it (fun i h => h.IsValIter it d i kvs.length ep) where
  mem := by simp
  obj := fun i h st b hb => by
    have e : b = it := by simpa using hb
    subst e
    obtain ⟨o, e, c, d⟩ := st
    exact ⟨o, e, fun v z => by rw [d] at z; cases z⟩
  keep := fun i h h' st k => st.at fun o e => k it (by simp) o e
  item := by
    intro X hP hw hK hc i pins s σ H E I hf st hg
    subst hP hw hK
    obtain ⟨hq, hi⟩ := hg
    obtain ⟨vs, hv, hD⟩ := frz_at I.hok hq hod
    have hl := hv.length
    have hi' : i < vs.length := by omega
    obtain ⟨f0, f1, f2, f3, f4, f5⟩ := hf it (by simp)
    have hx : vs[i]? = some (vs[i].1, vs[i].2) := List.getElem?_eq_getElem hi'
    obtain ⟨x, hk, rx⟩ := kv_get hv hx
    rw [hl] at st
    refine wpAny_pyNext_values_item st hD hx fun h' st' sb => ?_
    have I1 : Inv X pins σ H { s with heap := h' } := I.turned (t' := s.toks) (fun b o hb e => sb.extBut b o hb e) f0 f1 f3 f4 f5
    rw [← hl] at st'
    obtain ⟨oi, ei, ci, di⟩ := id st'
    exact ⟨_, rfl, go_of (s := { s with heap := h' }) ei ci di (by decide) ⟨x, H, I1, rx, ⟨rfl, _, hk⟩, st', fun b hb => (hf b hb).1⟩⟩
  done := by
    intro X hP hw hK hc i pins s σ H E I hf st hg
    subst hP hw hK
    obtain ⟨hq, hi⟩ := hg
    obtain ⟨vs, hv, hD⟩ := frz_at I.hok hq hod
    have hl := hv.length
    obtain ⟨f0, f1, f2, f3, f4, f5⟩ := hf it (by simp)
    rw [hl] at st
    exact wpAny_pyNext_values_end (I.ok.hd hc) st hD (List.getElem?_eq_none (by omega)) fun h' eb => ⟨rfl, I.turned (t' := s.toks) (fun b o hb e => eb b o hb e) f0 f1 f3 f4 f5⟩
  self := fun _ _ _ _ _ st h => wpAny_pyIter_valiter st h
def iVals (tl : TE) : TI := fun σ H R => tl σ H fun v H1 => ∃ a d kvs, v = .ref a ∧ H1 a = some (ValsO a d) ∧ H1 d = some (.dK kvs) ∧ ∀ o, R (Itv d o kvs) (upd H1 d (.frz o (.dK kvs)))
theorem pi_vals {tg l : Expr} {tl : TE} (hl : PE X l tl) : PI X tg l (iVals tl) := by
  intro pins s σ H R I h
  refine thn (hl pins s σ H _ I h) fun v s1 ⟨x, H1, I1, r1, q1⟩ => ?_
  obtain ⟨a, d, kvs, e, hv, hq, q⟩ := q1
  subst e
  cases r1
  obtain ⟨hz, hy, vs, hk, o, es, ep, h1, h2, h3, h4⟩ := (show ObjOk X.prog X.w H1 s1.heap d (.dK kvs) from I1.hok d _ hq)
  have hD : s1.heap.DictAt (mixKind X.prog X.w) d vs ep := ⟨o, es, h1, h2, h3, h4⟩
  have hview : s1.heap.IsValuesView a d := (show ObjOk X.prog X.w H1 s1.heap a (ValsO a d) from I1.hok a _ hv).1
  have hl := hk.length
  refine wpAny_pyIter_values hview hD ?_
  have I2 := I1.freeze hq h1
  refine ⟨s1.heap.objs.size, [s1.heap.objs.size], _, _, _, rfl, I2.kept (t' := s1.toks) fun b o e => Heap.get?_push_of_some _ e, turn_vals d _ o kvs h3, ⟨_, Heap.get?_push_size _ rfl, rfl, by rw [hl]; rfl⟩, fun b hb => ?_, q o⟩
  have e : b = s1.heap.objs.size := by simpa using hb
  subst e
  exact I2.fpOk (Nat.le_refl _) (I2.hok.fresh (Nat.le_refl _))
theorem lcg_valsR {d : Addr} {o : Obj} {kvs : List (Key × V)} {D : Addr} {g : TG} {tt : TT} {te : TE} {R : Hp → Prop} {σ0 : St} {H1 : Hp} (Pv : Nat → St → Hp → Prop) (h0 : Pv 0 σ0 (upd H1 D (.lst []))) (hl : ∀ i σ H, i ≤ kvs.length → Pv i σ H → H d = some (.frz o (.dK kvs)))
    (hs : ∀ i k x σ H, kvs[i]? = some (k, x) → Pv i σ H → g x σ H fun σ3 H3 => tt σ3 H3 fun b H4 => if b = true then te σ3 H4 fun y H5 => ∃ zs, H5 D = some (.lst zs) ∧ zs.length < sizeLine ∧ Pv (i + 1) σ3 (upd H5 D (.lst (zs ++ [y]))) else Pv (i + 1) σ3 H4) (hd : ∀ σ H, Pv kvs.length σ H → R H) :
    ∃ W : Nat → Nat → St → Hp → Prop, (∃ m, W 0 m σ0 (upd H1 D (.lst []))) ∧ ∀ i m σ' H', W i m σ' H' →
      ((Itv d o kvs).stop i H' ∧ R H') ∨ ((Itv d o kvs).go i H' ∧ ∃ N : St → Hp → Prop, (∀ σ2 H2, N σ2 H2 → ∃ m', m' < m ∧ W (i + 1) m' σ2 H2) ∧
        ∀ x H2, (Itv d o kvs).yld i H' x H2 → g x σ' H2 fun σ3 H3 => tt σ3 H3 fun b H4 => if b = true then te σ3 H4 fun y H5 => ∃ zs, H5 D = some (.lst zs) ∧ zs.length < sizeLine ∧ N σ3 (upd H5 D (.lst (zs ++ [y]))) else N σ3 H4) := by
  refine ⟨fun i m σ H => m = kvs.length - i ∧ i ≤ kvs.length ∧ Pv i σ H, ⟨kvs.length, rfl, Nat.zero_le _, h0⟩, ?_⟩
  rintro i m σ H ⟨rfl, hi, p⟩
  have q1 := hl i σ H hi p
  rcases Nat.lt_or_ge i kvs.length with hlt | hge
  · refine .inr ⟨⟨q1, hlt⟩, Pv (i + 1), fun σ' H' p' => ⟨kvs.length - (i + 1), by omega, rfl, hlt, p'⟩, fun x H' y => ?_⟩
    obtain ⟨e, k, hk⟩ := y
    subst e
    exact hs i k x σ _ hk p
  · have e : i = kvs.length := Nat.le_antisymm hi hge
    subst e
    exact .inl ⟨⟨q1, Nat.le_refl _⟩, hd σ H p⟩
/-- a dict let go behind an expression -/
def tThawE (H0 : Hp) (t : TE) : TE := fun σ H Q => t σ H fun v H1 => ∃ d o kvs, H1 d = some (.frz o (.dK kvs)) ∧ (∀ o u, H0 d ≠ some (.frz o u)) ∧ Q v (upd H1 d (.dK kvs))
theorem pe_thaw {e : Expr} {t : TE} (h : PE X e t) : PE X e (tThawE X.H₀ t) := by
  intro pins s σ H Q I q
  refine thn (h pins s σ H _ I q) fun u s' ⟨v, H1, I1, r1, d, o, kvs, e1, h0, q1⟩ => ⟨v, _, I1.thaw e1 h0, r1, q1⟩
/-! ### xs.insert(i, x) -/
def rInsert : V → List V → Hp → VK → Prop := fun x vs H Q => ∃ (l : Addr) (xs : List V) (i : Nat) (y : V), x = .ref l ∧ vs = [.int i, y] ∧ H l = some (.lst xs) ∧ i ≤ xs.length ∧ xs.length < 1000 ∧ Q .non (upd H l (.lst (xs.take i ++ y :: xs.drop i)))
theorem vals_take {xs : List V} {us : List Value} (h : Vals xs us) (n : Nat) : Vals (xs.take n) (us.take n) ∧ Vals (xs.drop n) (us.drop n) := by
  induction h generalizing n with
  | nil => simp; exact .nil
  | cons r t ih =>
    cases n with
    | zero => exact ⟨.nil, .cons r t⟩
    | succ n => exact ⟨.cons r (ih n).1, (ih n).2⟩
theorem mt_insert : MtM X "list.insert" rInsert := by
  intro pins s σ H x vs v us Q I rx rv h
  obtain ⟨l, xs, i, y, rfl, rfl, hH, hi, hz, q⟩ := h
  cases rx
  obtain ⟨u1, u2, rfl, ⟨t, e1⟩, r2⟩ := vals2 rv
  subst e1
  obtain ⟨z, its, n, r, hl, e⟩ := I.lstM hH
  obtain ⟨x, hx⟩ : ∃ x : Int, x = (i : Int) := ⟨_, rfl⟩
  rw [← hx]
  have hsz : its.toArray.size ≤ sizeLine := by rw [List.size_toArray]; omega
  have hfit : Builtin.List.listFitsIndex x = true := by
    unfold Builtin.List.listFitsIndex
    rw [Bool.and_eq_true]
    exact ⟨decide_eq_true (by omega), decide_eq_true (by omega)⟩
  have hk : (if x < 0 then (x + ((its.toArray.size : Nat) : Int)).toNat else min x.toNat its.toArray.size) = i := by
    rw [if_neg (by omega), hx, Int.toNat_natCast, List.size_toArray]
    omega
  have hv : Vals (xs.take i ++ y :: xs.drop i) (its.take i ++ u2 :: its.drop i) := (vals_take r i).1.append (.cons r2 (vals_take r i).2)
  have hkk : (its.toArray.extract 0 (if x < 0 then (x + ((its.toArray.size : Nat) : Int)).toNat else min x.toNat its.toArray.size)).push u2 ++ its.toArray.extract (if x < 0 then (x + ((its.toArray.size : Nat) : Int)).toNat else min x.toNat its.toArray.size) = (its.take i ++ u2 :: its.drop i).toArray := by
    rw [hk]
    exact PySem.W.kl_ins_eq its i u2
  clear hk
  refine call_meets PySem.F.slot_list_insert ⟨_, e, rfl⟩ PySem.F.entry_list_insert (PySem.F.args_list_insert_3 _ _ _) (PySem.AutoSeq1.list_insert_list_int_val_1 l its.toArray n x t u2 (fun z => by rw [hfit] at z; cases z) hsz) ⟨e, ?_⟩
  refine ⟨.non, _, I.lset (its' := its.take i ++ u2 :: its.drop i) hH e hkk hv ?_, rfl, q⟩
  rw [List.length_append, List.length_cons, List.length_take, List.length_drop]
  exact Nat.le_of_lt (small1000 (by omega))
end
end L2
set_option maxHeartbeats 4000000
namespace L2
open PySem PySem.Spec PyProof.Rows
/-! ### xs == ys, which hold the same -/
inductive EqL (K : PySem.W.Frag) (H : Hp) : V → V → Prop
  | flat {x : V} : flatV x = true → EqL K H x x
  | lst {a b : Addr} {xs : List V} : SqL K H a xs → SqL K H b xs → (∀ x ∈ xs, flatV x = true) → EqL K H (.ref a) (.ref b)
section
variable {X : Cx} {pins : List (Addr × Obj)} {σ : St} {H : Hp} {s : Shared} {A : Around}
theorem eqL_at {x y : V} {u v : Value} (I : Inv X pins σ H s) (e : EqL X.K H x y) (ru : RelV x u) (rv : RelV y v) (hu : A.units + 4 < cLine) : SeqAt.EqAt A s u v true := by
  cases e with
  | flat f =>
    have z := eqAt_V (A := A) (s := s) ru rv f f
    rw [eqV_self f] at z
    exact z
  | @lst a b xs h1 h2 hf =>
    cases ru
    cases rv
    by_cases hab : a = b
    · subst hab
      exact SeqAt.EqAt.same _
    · obtain ⟨i1, r1, p1, z1⟩ := I.list h1
      obtain ⟨i2, r2, p2, z2⟩ := I.list h2
      have l1 := r1.length
      have l2 := r2.length
      have q := SeqAt.RcAt.lists (A := A) (e := fun _ => true) p1.isList p2.isList (by simp; omega) (by omega) (fun j j1 j2 => by
        have j1' : j < i1.length := by simpa using j1
        have j2' : j < i2.length := by simpa using j2
        have jx : j < xs.length := by omega
        obtain ⟨u1, e1, w1⟩ := r1.get (i := j) (x := xs[j]) (List.getElem?_eq_getElem jx)
        obtain ⟨u2, e2, w2⟩ := r2.get (i := j) (x := xs[j]) (List.getElem?_eq_getElem jx)
        rw [List.getElem?_eq_getElem j1'] at e1
        rw [List.getElem?_eq_getElem j2'] at e2
        have f := hf _ (List.getElem_mem jx)
        have z := eqAt_V (A := A.in1) (s := s) w1 w2 f f
        rw [eqV_self f] at z
        have g1 : i1.toArray[j] = u1 := by simpa using Option.some.inj e1
        have g2 : i2.toArray[j] = u2 := by simpa using Option.some.inj e2
        rw [g1, g2]
        exact z)
      have qt : ((List.range i1.toArray.size).all fun _ => true) = true := by simp
      rw [qt] at q
      exact SeqAt.EqAt.of_refs hab q
theorem op_eq_deep (hu : X.A.units + 8 < cLine) : OpR X (compareOp .Eq) (fun x y H Q => ∃ a b xs ys, x = .ref a ∧ y = .ref b ∧ SqL X.K H a xs ∧ SqL X.K H b ys ∧ Paired (EqL X.K H) xs ys ∧ Q (.bl true) H) := by
  intro pins s σ H x y v u Q I r1 r2 h
  obtain ⟨a, b, xs, ys, rfl, rfl, h1, h2, hp, q⟩ := h
  cases r1
  cases r2
  obtain ⟨i1, w1, p1, z1⟩ := I.list h1
  obtain ⟨i2, w2, p2, z2⟩ := I.list h2
  have l1 := w1.length
  have l2 := w2.length
  have l3 := Paired.length hp
  have pg : ∀ {xs ys : List V}, Paired (EqL X.K H) xs ys → ∀ (j : Nat) (x y : V), xs[j]? = some x → ys[j]? = some y → EqL X.K H x y := by
    intro xs ys h
    induction h with
    | nil => intro j x y e; simp at e
    | cons r _ ih =>
      intro j x y e e'
      cases j with
      | zero => simp at e e'; subst e; subst e'; exact r
      | succ j => exact ih j x y (by simpa using e) (by simpa using e')
  have qt : ((List.range i1.toArray.size).all fun _ => true) = true := by simp
  refine SeqAt.RcAt.lists (A := X.A) (e := fun _ => true) p1.isList p2.isList (by simp; omega) (by omega) (fun j j1 j2 => ?_) _ _ _ _ (by rw [qt]; exact ⟨.bl true, H, I, rfl, q⟩)
  have j1' : j < i1.length := by simpa using j1
  have j2' : j < i2.length := by simpa using j2
  have jx : j < xs.length := by omega
  have jy : j < ys.length := by omega
  obtain ⟨u1, q1, t1⟩ := w1.get (i := j) (x := xs[j]) (List.getElem?_eq_getElem jx)
  obtain ⟨u2, q2, t2⟩ := w2.get (i := j) (x := ys[j]) (List.getElem?_eq_getElem jy)
  rw [List.getElem?_eq_getElem j1'] at q1
  rw [List.getElem?_eq_getElem j2'] at q2
  have g1 : i1.toArray[j] = u1 := by simpa using Option.some.inj q1
  have g2 : i2.toArray[j] = u2 := by simpa using Option.some.inj q2
  rw [g1, g2]
  exact eqL_at I (pg hp j _ _ (List.getElem?_eq_getElem jx) (List.getElem?_eq_getElem jy)) t1 t2 (by show X.A.units + 1 + 4 < cLine; omega)
end
section
variable {X : Cx} {o e : Expr} {es : List Expr} {to : TE} {t : TA} {name : Str} {apos cpos : Pos} {T id : String} {r : V → List V → Hp → VK → Prop}
theorem tBM_K {K : PySem.W.Frag} {ex : Expr} (hK : X.K = K) (h : PE X ex (tBM X.K T r to t)) : PE X ex (tBM K T r to t) := by
  subst hK
  exact h
end
theorem boot_ValueError : bootBuiltins "ValueError" = some (.type "ValueError") := by decide +kernel
theorem vals_refs : ∀ (cs : List Addr) (us : List Value), Vals (cs.map V.ref) us → us = cs.map Value.ref
  | [], _, .nil => rfl
  | c :: r, _, .cons h t => by rw [vals_refs r _ t, (show _ = Value.ref c from h)]; rfl
end L2
namespace HD
open PySem PySem.W PyProof.Rows
/-! ### the top's run, at one go, over a tree -/
noncomputable def topRunT (tb : String → Option Builtin) (p : Program) (w : World) (n₀ : Nat) (ann : Option Value) : Nat → SharedT → Thread → Option SharedT
  | 0, _, _ => none
  | n + 1, s, t => match through t with
    | true => some s
    | false => match stepOk n₀ ann t with
      | false => none
      | true => match stepT (denote tb) p w s t with
        | some r => topRunT tb p w n₀ ann n r.1 r.2
        | none => none
theorem topRun_of {tb : String → Option Builtin} {p : Program} {w : World} {n₀ : Nat} {ann : Option Value} : ∀ {n : Nat} {s s' : SharedT} {t : Thread}, topRunT tb p w n₀ ann n s t = some s' → topRun tb p w n₀ ann n s.abs t = some s'.abs
  | 0, _, _, _, h => by cases h
  | n + 1, s, s', t, h => by
    unfold topRunT at h
    unfold topRun
    cases hth : through t with
    | true => rw [hth] at h; cases h; rfl
    | false =>
      rw [hth] at h
      cases hb : stepOk n₀ ann t with
      | false => rw [hb] at h; cases h
      | true =>
        rw [hb] at h
        cases hst : stepT (denote tb) p w s t with
        | none => rw [hst] at h; cases h
        | some r =>
          obtain ⟨sB, tB⟩ := r
          rw [hst] at h
          rw [stepT_spec hst]
          exact topRun_of h
/-- the objects of a list behind those of a tree -/
def grow : List Obj → BT → Nat → Option BT
  | [], t, _ => some t
  | o :: r, t, n => match ((t.ins n o).get n).isSome with
    | true => grow r (t.ins n o) (n + 1)
    | false => none
theorem grow_abs {life : Life} : ∀ {l : List Obj} {t t' : BT} {n : Nat}, grow l t n = some t' → absHeap t' (n + l.length) life = ⟨(absHeap t n life).objs ++ l.toArray, life⟩
  | [], t, t', n, h => by
    cases h
    show absHeap t n life = _
    simp [absHeap]
  | o :: r, t, t', n, h => by
    unfold grow at h
    cases e : ((t.ins n o).get n).isSome with
    | false => rw [e] at h; cases h
    | true =>
      rw [e] at h
      have ih := grow_abs (life := life) h
      rw [absHeap_ins e] at ih
      rw [List.length_cons, show n + (r.length + 1) = n + 1 + r.length by omega, ih]
      show Heap.mk (((absHeap t n life).push o).objs ++ r.toArray) life = _
      show Heap.mk (((absHeap t n life).objs.push o) ++ r.toArray) life = _
      congr 1
      apply Array.toList_inj.mp
      simp
theorem grow_all {h : Heap} {t : BT} (e : grow h.objs.toList .nil 0 = some t) : absHeap t h.objs.size h.life = h := by
  have := grow_abs (life := h.life) e
  rw [Nat.zero_add, Array.length_toList] at this
  rw [this]
  cases h
  simp [absHeap, BT.list]
/-- what is seen behind it -/
noncomputable def seenT (p q : Program) (loose : List Str) (Xt : Shared → Bool) (as : List Addr) (s₀ s : Shared) :=
  ((staticsOk (importedModules p.main.body) s₀.heap s.heap && namesBound p s.heap && gensDone s && laidKept s₀.heap s.heap), openSeen q loose (importedModules p.main.body) Xt true s, as.map s.heap.get?)
noncomputable def bigT (p q : Program) (loose : List Str) (Xt : Shared → Bool) (as : List Addr) (N : Nat) (H₀ : Params → Heap) (w : World) (os : OsState) :=
  (grow (H₀ w.params).objs.toList .nil 0).bind fun t =>
    (topRunT treeTable p w (H₀ w.params).objs.size ((H₀ w.params).nsMap mainGlobals "__annotations__") N ⟨t, (H₀ w.params).objs.size, (H₀ w.params).life, Array.mk [], boot_drawn, boot_toks, os⟩ (topStub p)).map fun s =>
      ((H₀ w.params).isNs mainGlobals, seenT p q loose Xt as ⟨H₀ w.params, Array.mk [], boot_drawn, boot_toks, os⟩ s.abs)
theorem left_big {p q : Program} {loose : List Str} {Xt : Shared → Bool} {K : Params → Frag} {as : List Addr} {N : Nat}
    (o : ∀ w : World, (fencedOpening treeTable p w N).map (fun s => (s.heap, s.gens, s.drawn, s.toks)) = some (boot_heap w.params, Array.mk [], boot_drawn, boot_toks))
    (h : ∀ (w : World) (os : OsState), bigT p q loose Xt as N boot_heap w os = some (true, true, openGood q loose, (K w.params).map fun p => some p.2)) : LeftO p q loose Xt (fun s => as.map s.heap.get?) (fun w => (K w.params).map fun p => some p.2) N := fun w => by
  obtain ⟨⟨hh, gs, d, k, os⟩, e, e'⟩ := Option.map_eq_some_iff.mp (o w)
  obtain ⟨rfl, rfl, rfl, rfl⟩ : hh = boot_heap w.params ∧ gs = Array.mk [] ∧ d = boot_drawn ∧ k = boot_toks := by simpa using e'
  obtain ⟨t, h1, h2⟩ := Option.bind_eq_some_iff.mp (h w os)
  obtain ⟨s, h3, h4⟩ := Option.map_eq_some_iff.mp h2
  have ha := grow_all h1
  have h5 := topRun_of h3
  have e0 : (SharedT.mk t (boot_heap w.params).objs.size (boot_heap w.params).life #[] boot_drawn boot_toks os).abs = ⟨boot_heap w.params, Array.mk [], boot_drawn, boot_toks, os⟩ := by
    unfold SharedT.abs
    rw [ha]
  rw [e0] at h5
  obtain ⟨i1, i2⟩ := Prod.mk.inj h4
  unfold seenT at i2
  obtain ⟨i3, i4⟩ := Prod.mk.inj i2
  obtain ⟨i5, i6⟩ := Prod.mk.inj i4
  have z : ((boot_heap w.params).isNs mainGlobals && (Array.mk [] : Array GenState).size == 0) = true := by rw [i1]; rfl
  have t' : topFrom treeTable p w N ⟨boot_heap w.params, Array.mk [], boot_drawn, boot_toks, os⟩ = some s.abs := by
    unfold topFrom
    dsimp only
    rw [z, h5]
    show (match staticsOk (importedModules p.main.body) (boot_heap w.params) s.abs.heap && namesBound p s.abs.heap && gensDone s.abs && laidKept (boot_heap w.params) s.abs.heap with | true => some s.abs | false => none) = some s.abs
    rw [i3]
  unfold openEnds
  rw [e]
  show (topFrom treeTable p w N _).map _ = _
  rw [t']
  exact congrArg some (Prod.ext i5 i6)
noncomputable def goodT (q : Program) (loose : List Str) := openGood q loose
end HD
lay_quick HD.bigT
lay_quick HD.goodT

namespace HD
open PySem PySem.W PyProof.Rows
theorem left_quick {p q : Program} {loose : List Str} {Xt : Shared → Bool} {K : Params → Frag} {as : List Addr} {N : Nat}
    (o : ∀ w : World, (fencedOpening treeTable p w N).map (fun s => (s.heap, s.gens, s.drawn, s.toks)) = some (boot_heap w.params, Array.mk [], boot_drawn, boot_toks))
    (h : ∀ (w : World) (os : OsState), PySem.W.Fast.tw7652524407582654731 p q loose Xt as N boot_heap w os = some (true, true, PySem.W.Fast.tw17311637784456860124 q loose, (K w.params).map fun p => some p.2)) : LeftO p q loose Xt (fun s => as.map s.heap.get?) (fun w => (K w.params).map fun p => some p.2) N :=
  left_big o fun w os => by
    rw [PySem.W.Fast.te7652524407582654731]
    refine (h w os).trans ?_
    rw [← PySem.W.Fast.te17311637784456860124]
    rfl
end HD
namespace M16
/-- alike, pair by pair: x.1 what the one has at a gap, x.2 what the other has -/
def alikeB (vs : List Int) (p : List (Int × Int)) : Bool :=
  p.all fun x => (vs.all fun w => (x.1 == w) == (x.2 == w)) && p.all fun y => (x.1 == y.1) == (x.2 == y.2)
theorem beq_iff_iff (a b c d : Int) : ((a == b) == (c == d)) = true ↔ (a = b ↔ c = d) := by
  rw [beq_iff_eq, Bool.eq_iff_iff, beq_iff_eq, beq_iff_eq]
theorem alikeB_iff (vs : List Int) (p : List (Int × Int)) : alikeB vs p = true ↔
    (∀ x ∈ p, ∀ w ∈ vs, (x.1 = w ↔ x.2 = w)) ∧ ∀ x ∈ p, ∀ y ∈ p, (x.1 = y.1 ↔ x.2 = y.2) := by
  unfold alikeB
  simp only [List.all_eq_true, Bool.and_eq_true, beq_iff_iff]
  constructor
  · intro h; exact ⟨fun x hx => (h x hx).1, fun x hx => (h x hx).2⟩
  · intro h x hx; exact ⟨h.1 x hx, h.2 x hx⟩
theorem alikeB_snoc (vs : List Int) (p : List (Int × Int)) (v x : Int) : alikeB vs (p ++ [(v, x)]) = true ↔
    alikeB vs p = true ∧ (∀ w ∈ vs, (v = w ↔ x = w)) ∧ ∀ y ∈ p, (v = y.1 ↔ x = y.2) := by
  simp only [alikeB_iff, List.mem_append, List.mem_singleton]
  constructor
  · rintro ⟨h1, h2⟩
    exact ⟨⟨fun y hy => h1 y (.inl hy), fun y hy z hz => h2 y (.inl hy) z (.inl hz)⟩, h1 (v, x) (.inr rfl), fun y hy => h2 (v, x) (.inr rfl) y (.inl hy)⟩
  · rintro ⟨⟨h1, h2⟩, h3, h4⟩
    refine ⟨?_, ?_⟩
    · rintro y (hy | rfl)
      · exact h1 y hy
      · exact h3
    · rintro y (hy | rfl) z (hz | rfl)
      · exact h2 y hy z hz
      · have := h4 y hy
        constructor
        · intro e; exact (this.mp e.symm).symm
        · intro e; exact (this.mpr e.symm).symm
      · exact h4 z hz
      · exact ⟨fun _ => rfl, fun _ => rfl⟩
/-- all choices, gap by gap: the values so far, how many fresh ones -/
def stepL (R F : List Int) (L : List (List Int × Nat)) : List (List Int × Nat) :=
  L.flatMap fun e => (R ++ F.take (e.2 + 1)).map fun v => (e.1 ++ [v], if some v = F[e.2]? then e.2 + 1 else e.2)
def kindsL (R F : List Int) : Nat → List (List Int × Nat)
  | 0 => [([], 0)]
  | k + 1 => stepL R F (kindsL R F k)
structure Good (vs R F : List Int) : Prop where
  vn : vs.Nodup
  pm : R.Perm vs
  fn : F.Nodup
  dj : ∀ v ∈ F, v ∉ vs
structure Kept (vs F : List Int) (k : Nat) (e : List Int × Nat) : Prop where
  len : e.1.length = k
  le : e.2 ≤ k
  sub : ∀ v ∈ e.1, v ∈ vs ∨ v ∈ F.take e.2
  all : ∀ v ∈ F.take e.2, v ∈ e.1
theorem take_mem {α : Type} {F : List α} {i j : Nat} (h : i ≤ j) {v : α} (hv : v ∈ F.take i) : v ∈ F.take j := by
  have : F.take i = (F.take j).take i := by rw [List.take_take, Nat.min_eq_left h]
  rw [this] at hv
  exact List.mem_of_mem_take hv
theorem take_succ_mem {F : List Int} {u : Nat} {v : Int} : v ∈ F.take (u + 1) ↔ v ∈ F.take u ∨ F[u]? = some v := by
  rw [List.take_add_one, List.mem_append]
  cases h : F[u]? <;> simp [eq_comm]
theorem not_take {F : List Int} (hn : F.Nodup) {u : Nat} {v : Int} (h : F[u]? = some v) : v ∉ F.take u := by
  intro hm
  obtain ⟨i, hi, e⟩ := List.mem_iff_getElem.mp hm
  rw [List.length_take] at hi
  rw [List.getElem_take] at e
  obtain ⟨hu, e2⟩ := List.getElem?_eq_some_iff.mp h
  have hp := List.pairwise_iff_getElem.mp hn
  exact hp i u (by omega) hu (by omega) (e.trans e2.symm)
theorem kindsL_kept {vs R F : List Int} (g : Good vs R F) : ∀ k, k ≤ F.length → ∀ e ∈ kindsL R F k, Kept vs F k e
  | 0, _, e, he => by
    simp only [kindsL, List.mem_singleton] at he
    subst he
    exact ⟨rfl, Nat.le_refl _, by simp, by simp⟩
  | k + 1, hk, e, he => by
    simp only [kindsL, stepL, List.mem_flatMap, List.mem_map] at he
    obtain ⟨d, hd, v, hv, rfl⟩ := he
    have K := kindsL_kept g k (by omega) d hd
    refine ⟨by simp [K.len], ?_, ?_, ?_⟩
    · have := K.le
      dsimp only
      split <;> omega
    · intro x hx
      dsimp only at hx ⊢
      rw [List.mem_append, List.mem_singleton] at hx
      rcases hx with hx | rfl
      · rcases K.sub x hx with h | h
        · exact .inl h
        · right
          split
          · exact take_mem (Nat.le_succ _) h
          · exact h
      · rw [List.mem_append] at hv
        rcases hv with hv | hv
        · exact .inl (g.pm.mem_iff.mp hv)
        · right
          split
          · exact hv
          · rename_i hne
            rcases take_succ_mem.mp hv with h | h
            · exact h
            · exact absurd h.symm hne
    · intro x hx
      dsimp only at hx ⊢
      rw [List.mem_append, List.mem_singleton]
      split at hx
      · rename_i heq
        rcases take_succ_mem.mp hx with h | h
        · exact .inl (K.all x h)
        · right; rw [h] at heq; exact (Option.some.inj heq).symm
      · exact .inl (K.all x hx)
theorem filter_one {W : List Int} (hn : W.Nodup) {v0 : Int} (h0 : v0 ∈ W) {q : Int → Bool} (hq : ∀ v ∈ W, (q v = true ↔ v = v0)) : (W.filter q).length = 1 := by
  induction W with
  | nil => cases h0
  | cons a r ih =>
    rw [List.nodup_cons] at hn
    by_cases ha : a = v0
    · subst ha
      have hr : r.filter q = [] := by
        rw [List.filter_eq_nil_iff]
        intro v hv hqv
        have := (hq v (List.mem_cons_of_mem _ hv)).mp hqv
        exact hn.1 (this ▸ hv)
      rw [List.filter_cons_of_pos ((hq a List.mem_cons_self).mpr rfl), hr]
      rfl
    · have hqa : ¬ q a = true := fun h => ha ((hq a List.mem_cons_self).mp h)
      rw [List.filter_cons_of_neg hqa]
      refine ih hn.2 ?_ fun v hv => hq v (List.mem_cons_of_mem _ hv)
      rcases List.mem_cons.mp h0 with h | h
      · exact absurd h.symm ha
      · exact h
theorem flat_len {α β : Type} (L : List α) (g : α → List β) (a : α → Bool) (q : β → Bool) (h1 : ∀ e ∈ L, a e = true → ((g e).filter q).length = 1) (h0 : ∀ e ∈ L, a e = false → (g e).filter q = []) :
    ((L.flatMap g).filter q).length = (L.filter a).length := by
  induction L with
  | nil => rfl
  | cons e r ih =>
    have ih' := ih (fun x hx => h1 x (List.mem_cons_of_mem _ hx)) fun x hx => h0 x (List.mem_cons_of_mem _ hx)
    rw [List.flatMap_cons, List.filter_append, List.length_append, ih']
    cases ha : a e with
    | true => rw [List.filter_cons_of_pos ha, h1 e List.mem_cons_self ha, List.length_cons]; omega
    | false => rw [List.filter_cons_of_neg (by rw [ha]; exact Bool.false_ne_true), h0 e List.mem_cons_self ha]; simp
theorem zip_snoc {α β : Type} {c : List α} {f : List β} (h : c.length = f.length) (v : α) (x : β) : (c ++ [v]).zip (f ++ [x]) = c.zip f ++ [(v, x)] := by
  rw [List.zip_append h]; rfl
/-- the one value that goes on -/
theorem one_on {vs R F : List Int} (g : Good vs R F) {k : Nat} (hk : k < F.length) {e : List Int × Nat} (K : Kept vs F k e) {f : List Int} (hf : f.length = k) (ha : alikeB vs (e.1.zip f) = true) (x : Int) :
    ∃ v0 ∈ R ++ F.take (e.2 + 1), ∀ v ∈ R ++ F.take (e.2 + 1), (alikeB vs ((e.1 ++ [v]).zip (f ++ [x])) = true ↔ v = v0) := by
  have hl : e.1.length = f.length := by rw [K.len, hf]
  have key : ∀ v, alikeB vs ((e.1 ++ [v]).zip (f ++ [x])) = true ↔ (∀ w ∈ vs, (v = w ↔ x = w)) ∧ ∀ y ∈ e.1.zip f, (v = y.1 ↔ x = y.2) := by
    intro v
    rw [zip_snoc hl, alikeB_snoc]
    exact ⟨fun h => h.2, fun h => ⟨ha, h⟩⟩
  obtain ⟨a1, a2⟩ := (alikeB_iff vs _).mp ha
  by_cases hx : x ∈ vs
  · refine ⟨x, List.mem_append_left _ (g.pm.mem_iff.mpr hx), fun v hv => ?_⟩
    rw [key]
    constructor
    · intro h; exact (h.1 x hx).mpr rfl
    · rintro rfl
      refine ⟨fun w _ => Iff.rfl, fun y hy => ?_⟩
      have := a1 y hy v hx
      constructor
      · intro e'; exact (this.mp e'.symm).symm
      · intro e'; exact (this.mpr e'.symm).symm
  · by_cases hxf : ∃ y ∈ e.1.zip f, x = y.2
    · obtain ⟨y0, hy0, e0⟩ := hxf
      have m1 : y0.1 ∈ e.1 := (List.of_mem_zip (a := y0.1) (b := y0.2) hy0).1
      have n1 : y0.1 ∉ vs := fun hm => hx (e0 ▸ ((a1 y0 hy0 y0.1 hm).mp rfl) ▸ hm)
      have t1 : y0.1 ∈ F.take e.2 := (K.sub _ m1).resolve_left n1
      refine ⟨y0.1, List.mem_append_right _ (take_mem (Nat.le_succ _) t1), fun v hv => ?_⟩
      rw [key]
      constructor
      · intro h; exact (h.2 y0 hy0).mpr e0
      · rintro rfl
        refine ⟨fun w hw => ⟨fun e' => absurd (e' ▸ hw) n1, fun e' => absurd (e' ▸ hw) hx⟩, fun y hy => ?_⟩
        rw [e0]; exact a2 y0 hy0 y hy
    · have hu : e.2 < F.length := Nat.lt_of_le_of_lt K.le hk
      have hFu : F[e.2]? = some F[e.2] := List.getElem?_eq_getElem hu
      have mF : F[e.2] ∈ F := List.getElem_mem hu
      refine ⟨F[e.2], List.mem_append_right _ (take_succ_mem.mpr (.inr hFu)), fun v hv => ?_⟩
      rw [key]
      constructor
      · intro h
        rw [List.mem_append] at hv
        rcases hv with hv | hv
        · exact absurd ((h.1 v (g.pm.mem_iff.mp hv)).mp rfl ▸ (g.pm.mem_iff.mp hv)) hx
        · rcases take_succ_mem.mp hv with h' | h'
          · exfalso
            obtain ⟨i, hi, ei⟩ := List.mem_iff_getElem.mp (K.all v h')
            have hif : i < f.length := by rw [← hl]; exact hi
            have hz : (e.1[i], f[i]) ∈ e.1.zip f := by
              rw [List.mem_iff_getElem]
              exact ⟨i, by rw [List.length_zip]; omega, by rw [List.getElem_zip]⟩
            exact hxf ⟨_, hz, (h.2 _ hz).mp ei.symm⟩
          · rw [hFu] at h'; exact (Option.some.inj h').symm
      · rintro rfl
        refine ⟨fun w hw => ⟨fun e' => absurd (e' ▸ hw) (g.dj _ mF), fun e' => absurd (e' ▸ hw) hx⟩, fun y hy => ⟨fun e' => ?_, fun e' => absurd ⟨y, hy, e'⟩ hxf⟩⟩
        exfalso
        have m1 : y.1 ∈ e.1 := (List.of_mem_zip (a := y.1) (b := y.2) hy).1
        rcases K.sub _ m1 with h | h
        · exact g.dj _ mF (e' ▸ h)
        · exact not_take g.fn hFu (e' ▸ h)
theorem nodup_w {vs R F : List Int} (g : Good vs R F) (n : Nat) : (R ++ F.take n).Nodup := by
  rw [List.nodup_append]
  refine ⟨(g.pm.nodup_iff).mpr g.vn, g.fn.sublist (List.take_sublist _ _), fun a ha b hb e => ?_⟩
  subst e
  exact g.dj a (List.mem_of_mem_take hb) (g.pm.mem_iff.mp ha)
/-- each filling is of just one of the kinds -/
theorem one_kind {vs R F : List Int} (g : Good vs R F) : ∀ (k : Nat), k ≤ F.length → ∀ f : List Int, f.length = k → ((kindsL R F k).filter fun e => alikeB vs (e.1.zip f)).length = 1
  | 0, _, f, hf => by
    have : f = [] := List.eq_nil_of_length_eq_zero hf
    subst this
    rfl
  | k + 1, hk, f, hf => by
    obtain ⟨f', x, rfl⟩ : ∃ f' x, f = f' ++ [x] := by
      have hne : f ≠ [] := by intro e; rw [e] at hf; cases hf
      exact ⟨f.dropLast, f.getLast hne, (List.dropLast_concat_getLast hne).symm⟩
    have hf' : f'.length = k := by rw [List.length_append, List.length_singleton] at hf; omega
    have ih := one_kind g k (by omega) f' hf'
    refine Eq.trans ?_ ih
    show ((stepL R F (kindsL R F k)).filter _).length = _
    unfold stepL
    refine flat_len _ _ (fun (e : List Int × Nat) => alikeB vs (e.1.zip f')) _ (fun e he ha => ?_) (fun e he ha => ?_)
    · have K := kindsL_kept g k (by omega) e he
      obtain ⟨v0, h0, hq⟩ := one_on g (by omega) K hf' ha x
      rw [List.filter_map, List.length_map]
      exact filter_one (nodup_w g _) h0 hq
    · have K := kindsL_kept g k (by omega) e he
      rw [List.filter_map, List.map_eq_nil_iff, List.filter_eq_nil_iff]
      intro v hv h
      have h' : alikeB vs ((e.1 ++ [v]).zip (f' ++ [x])) = true := h
      rw [zip_snoc (by rw [K.len, hf']), alikeB_snoc] at h'
      have : alikeB vs (e.1.zip f') = false := ha
      rw [h'.1] at this; cases this
/-- by lookups -/
def alikeG {α : Type} (vs : List Int) (gs : List α) (a b : α → Int) : Bool := alikeB vs (gs.map fun g => (a g, b g))
theorem alikeG_iff {α : Type} (vs : List Int) (gs : List α) (a b : α → Int) : alikeG vs gs a b = true ↔
    (∀ g ∈ gs, ∀ w ∈ vs, (a g = w ↔ b g = w)) ∧ ∀ g ∈ gs, ∀ h ∈ gs, (a g = a h ↔ b g = b h) := by
  unfold alikeG
  rw [alikeB_iff]
  simp only [List.mem_map]
  constructor
  · rintro ⟨h1, h2⟩
    exact ⟨fun g hg w hw => h1 _ ⟨g, hg, rfl⟩ w hw, fun g hg h hh => h2 _ ⟨g, hg, rfl⟩ _ ⟨h, hh, rfl⟩⟩
  · rintro ⟨h1, h2⟩
    refine ⟨?_, ?_⟩
    · rintro _ ⟨g, hg, rfl⟩ w hw; exact h1 g hg w hw
    · rintro _ ⟨g, hg, rfl⟩ _ ⟨h, hh, rfl⟩; exact h2 g hg h hh
theorem alikeG_symm {α : Type} {vs : List Int} {gs : List α} {a b : α → Int} (h : alikeG vs gs a b = true) : alikeG vs gs b a = true := by
  rw [alikeG_iff] at h ⊢
  exact ⟨fun g hg w hw => (h.1 g hg w hw).symm, fun g hg k hk => (h.2 g hg k hk).symm⟩
theorem alikeG_comm {α : Type} (vs : List Int) (gs : List α) (a b : α → Int) : alikeG vs gs b a = alikeG vs gs a b := by
  cases e : alikeG vs gs a b with
  | true => exact alikeG_symm e
  | false =>
    cases e2 : alikeG vs gs b a with
    | false => rfl
    | true => rw [alikeG_symm e2] at e; cases e
theorem alikeG_trans {α : Type} {vs : List Int} {gs : List α} {a b c : α → Int} (h : alikeG vs gs a b = true) (h' : alikeG vs gs b c = true) : alikeG vs gs a c = true := by
  rw [alikeG_iff] at h h' ⊢
  exact ⟨fun g hg w hw => (h.1 g hg w hw).trans (h'.1 g hg w hw), fun g hg k hk => (h.2 g hg k hk).trans (h'.2 g hg k hk)⟩
theorem alikeG_refl {α : Type} (vs : List Int) (gs : List α) (a : α → Int) : alikeG vs gs a a = true := by
  rw [alikeG_iff]; exact ⟨fun _ _ _ _ => Iff.rfl, fun _ _ _ _ => Iff.rfl⟩
end M16
set_option maxHeartbeats 4000000
namespace K15
open PySem L2
def top (i : Nat) : Stmt := PySem.Challenge.pw_maybetables_k15_whole_kinds_told.main.body.getD i (.Pass ⟨0, 0, 0, 0⟩)
abbrev sBound : Stmt := top 13
abbrev sCheck : Stmt := top 14
abbrev sFresh : Stmt := top 15
abbrev sLength : Stmt := top 16
abbrev sKinds : Stmt := top 17
abbrev sAt : Stmt := top 19
abbrev sNames : Stmt := top 20
abbrev sValue : Stmt := top 21
abbrev sGaps : Stmt := top 22
abbrev sValues : Stmt := top 23
abbrev sNext : Stmt := top 24
abbrev sDue : Stmt := top 25
abbrev sTold : Stmt := top 26
abbrev sRefused : Stmt := top 27
abbrev sLaw : Stmt := top 28
/-- what stands under the built-in names, and the one constant -/
structure Txt (mg : Str → Option Value) : Prop where
  range : mg "range" = none
  len : mg "len" = none
  sorted : mg "sorted" = none
  list : mg "list" = none
  dict : mg "dict" = none
  isi : mg "isinstance" = none
  bool : mg "bool" = none
  int : mg "int" = none
  zip : mg "zip" = none
  all : mg "all" = none
  ve : mg "ValueError" = none
  most : ∃ t, mg "MOST_KINDS" = some (.int 1000 t)
/-- a def of the text that keeps its promise -/
def Cal (P : Program) (w : World) (K : PySem.W.Frag) (mg : Str → Option Value) (base : Heap) (x : Str) (k : Nat) (ps : List Str) (sp : Sp) : Prop :=
  ∃ f fd, FnOk P w K mg base CX0 k f fd ps sp ∧ Binds K fd ps [] ∧ PySem.W.keepIn K (.ref f) = true ∧ mg x = some (.ref f)
/-- a def of the text that may raise -/
def CalE (P : Program) (w : World) (K : PySem.W.Frag) (mg : Str → Option Value) (base : Heap) (x : Str) (k : Nat) (ps : List Str) (sp : Sp) : Prop :=
  ∃ f fd, FnOk P w K mg base (CXe P w) k f fd ps sp ∧ Binds K fd ps [] ∧ PySem.W.keepIn K (.ref f) = true ∧ mg x = some (.ref f)
theorem Fun.okE {P : Program} {w : World} {K : PySem.W.Frag} {mg : Str → Option Value} {base : Heap} {x qual : Str} {st : Stmt} {f : Addr} {fd : FuncData} {N ps : List Str} {k : Nat} {sp : Sp} (F : Fun K x qual st f fd) (S : FnScope N ps (defScope st)) (len : ∀ vs H Q E, sp vs H Q E → vs.length = ps.length)
    (hbody : ∀ (cdv : Value) (A : Around) (outer : List Env) (s : Shared) (H : Hp) (vs : List V) (Q : VK) (E : XK), Room k (A.deeper (PyProof.Rows.envOfC qual (defScope st) s.heap.objs.size f cdv)) → sp vs H Q E →
      ∃ t, PSs (cxOf (CXe P w) P w K mg base N qual (defScope st) f cdv A outer s H E) (defBody st) t ∧ t { nx := fun _ H' => Q .non H', rt := Q } (start N vs) H) : FnOk P w K mg base (CXe P w) (k + 1) f fd ps sp := by
  obtain ⟨oc, od, kV, doc, pm, an, cdv, ct, osl, rfl, lk, hcd⟩ := F.ex
  refine fn_of lk hcd S len fun A outer s H vs Q E hr hsp => ?_
  obtain ⟨t, h, q⟩ := hbody cdv A outer s H vs Q E hr hsp
  exact ⟨t, h, q⟩
theorem same_new {H : Hp} {p : Addr} (h : H p = none) (o : HO) : Same H (upd H p o) := fun b u q => by rw [upd_ne (ne_of_none q h)]; exact q
theorem same_upd {H H' : Hp} {p : Addr} (s : Same H H') (h : H p = none) (o : HO) : Same H (upd H' p o) := fun b u q => by rw [upd_ne (ne_of_none q h)]; exact s b u q
theorem small {n : Nat} (h : n ≤ 1000) : n ≤ sizeLine := Nat.le_of_lt (small1000 h)
def prodF (v : Int) : Nat → Int
  | 0 => 1
  | n + 1 => prodF v n * (v + (0 + n) + 1)
theorem inV_ints (k : Int) : ∀ ns : List Int, inV (.int k) (ns.map V.int) = decide (k ∈ ns)
  | [] => rfl
  | n :: r => by
    have ih := inV_ints k r
    unfold inV at ih ⊢
    rw [List.map_cons, List.any_cons, ih]
    have e : eqV (.int n) (.int k) = decide (k = n) := by
      show (n == k) = _
      by_cases h : k = n
      · subst h; simp
      · have h' : ¬ n = k := fun z => h z.symm
        simp [h, h']
    rw [e]
    by_cases h : k = n
    · simp [h]
    · simp [h]
theorem flat_ints (ns : List Int) : (ns.map V.int).all flatV = true := by
  rw [List.all_map, List.all_eq_true]
  intro x _
  rfl
def cnt (ns : List Int) (k : Int) : Nat := (ns.filter fun x => decide (k ≤ x)).length
theorem cnt_le (k : Int) : ∀ ns : List Int, cnt ns (k + 1) ≤ cnt ns k
  | [] => Nat.le_refl _
  | n :: r => by
    have ih := cnt_le k r
    unfold cnt at ih ⊢
    by_cases h1 : k + 1 ≤ n
    · rw [List.filter_cons_of_pos (by simpa using h1), List.filter_cons_of_pos (by simp; omega)]
      simp only [List.length_cons]; omega
    · rw [List.filter_cons_of_neg (by simpa using h1)]
      by_cases h2 : k ≤ n
      · rw [List.filter_cons_of_pos (by simpa using h2)]; simp only [List.length_cons]; omega
      · rw [List.filter_cons_of_neg (by simpa using h2)]; exact ih
theorem cnt_lt {k : Int} : ∀ {ns : List Int}, k ∈ ns → cnt ns (k + 1) < cnt ns k
  | [], h => by cases h
  | n :: r, h => by
    unfold cnt
    by_cases e : k = n
    · subst e
      rw [List.filter_cons_of_neg (by simp; omega), List.filter_cons_of_pos (by simp)]
      have := cnt_le k r
      unfold cnt at this
      simp only [List.length_cons]; omega
    · have hr : k ∈ r := (List.mem_cons.mp h).resolve_left e
      have ih := cnt_lt hr
      unfold cnt at ih
      by_cases h1 : k + 1 ≤ n
      · rw [List.filter_cons_of_pos (by simpa using h1), List.filter_cons_of_pos (by simp; omega)]
        simp only [List.length_cons]; omega
      · rw [List.filter_cons_of_neg (by simpa using h1)]
        by_cases h2 : k ≤ n
        · rw [List.filter_cons_of_pos (by simpa using h2)]; simp only [List.length_cons]; omega
        · rw [List.filter_cons_of_neg (by simpa using h2)]; exact ih
/-! the promises -/
def spBound : Sp := fun vs H Q _ => ∃ (g v : Int), vs = [.int g, .int v] ∧ 0 ≤ g ∧ g ≤ 100 ∧ 0 ≤ v ∧ v ≤ 100 ∧ Q (.int (prodF v g.toNat)) H
def spCheck (C : Addr) : Sp := fun vs H Q E => ∃ (g v : Int), vs = [.int g, .int v] ∧ 0 ≤ g ∧ g ≤ 100 ∧ 0 ≤ v ∧ v ≤ 100 ∧ (prodF v g.toNat ≤ 1000 → Q .non H) ∧ (1000 < prodF v g.toNat → E (.ref C) none H)
/-- fresh: each the first from 0 on that is neither a value nor ahead of it -/
def Frs (ns F : List Int) : Prop := ∀ u x, F[u]? = some x → 0 ≤ x ∧ x ∉ ns ∧ x ∉ F.take u ∧ ∀ m, 0 ≤ m → m < x → m ∈ ns ∨ m ∈ F.take u
theorem Frs.snoc {ns F : List Int} {k : Int} (h : Frs ns F) (h0 : 0 ≤ k) (hk : k ∉ ns) (hF : ∀ x ∈ F, x < k) (ha : ∀ m, 0 ≤ m → m < k → m ∈ ns ∨ m ∈ F) : Frs ns (F ++ [k]) := by
  intro u x e
  rcases Nat.lt_or_ge u F.length with hu | hu
  · rw [List.getElem?_append_left hu] at e
    rw [List.take_append_of_le_length (by omega)]
    exact h u x e
  · have hu' : u = F.length := by
      have := (List.getElem?_eq_some_iff.mp e).1
      rw [List.length_append, List.length_singleton] at this
      omega
    subst hu'
    have e' : k = x := by simpa using e
    subst e'
    rw [List.take_append_of_le_length (Nat.le_refl _), List.take_length]
    exact ⟨h0, hk, fun z => absurd (hF _ z) (Int.lt_irrefl _), ha⟩
theorem Frs.next {ns F F' : List Int} (h : Frs ns F) (h' : Frs ns F') {u : Nat} {x x' : Int} (e : F[u]? = some x) (e' : F'[u]? = some x') (ht : F.take u = F'.take u) : x = x' := by
  obtain ⟨a1, a2, a3, a4⟩ := h u x e
  obtain ⟨b1, b2, b3, b4⟩ := h' u x' e'
  rcases Int.lt_trichotomy x x' with z | z | z
  · rcases b4 x a1 z with y | y
    · exact absurd y a2
    · rw [← ht] at y; exact absurd y a3
  · exact z
  · rcases a4 x' b1 z with y | y
    · exact absurd y b2
    · rw [ht] at y; exact absurd y b3
theorem Frs.uniq {ns F F' : List Int} (h : Frs ns F) (h' : Frs ns F') (hl : F.length = F'.length) : F = F' := by
  have key : ∀ u, u ≤ F.length → F.take u = F'.take u := by
    intro u
    induction u with
    | zero => intro _; rfl
    | succ u ih =>
      intro hu
      have i := ih (by omega)
      have e := List.getElem?_eq_getElem (l := F) (i := u) (by omega)
      have e' := List.getElem?_eq_getElem (l := F') (i := u) (by omega)
      rw [List.take_add_one, List.take_add_one, i, e, e', h.next h' e e' i]
  have := key F.length (Nat.le_refl _)
  rw [List.take_length, hl, List.take_length] at this
  exact this
theorem Frs.nodup {ns F : List Int} (h : Frs ns F) : F.Nodup := by
  refine List.pairwise_iff_getElem.mpr fun i j hi hj hij e => ?_
  have := (h j _ (List.getElem?_eq_getElem hj)).2.2.1
  refine this ?_
  rw [← e]
  exact List.mem_iff_getElem.mpr ⟨i, by rw [List.length_take]; omega, by rw [List.getElem_take]⟩
theorem Frs.out {ns F : List Int} (h : Frs ns F) : ∀ x ∈ F, x ∉ ns := fun x hx => by
  obtain ⟨u, hu⟩ := List.getElem?_of_mem hx
  exact (h u x hu).2.1
def spFresh (K : PySem.W.Frag) : Sp := fun vs H Q _ => ∃ (a : Addr) (ns : List Int) (n : Nat), vs = [.ref a, .int n] ∧ SqL K H a (ns.map V.int) ∧ n ≤ 100 ∧
  ∀ (r : Addr) (H' : Hp) (F : List Int), Same H H' → H' r = some (.lst (F.map V.int)) → F.length = n → Frs ns F → Q (.ref r) H'
section
variable {P : Program} {w : World} {K : PySem.W.Frag} {mg : Str → Option Value} {base : Heap} {f : Addr} {fd : FuncData}
theorem scB : FnScope ["gaps", "values", "product", "step"] ["gaps", "values"] (defScope sBound) := ⟨rfl, rfl, rfl, by decide +kernel, rfl, by decide +kernel, by decide +kernel⟩
theorem ok_bound (F : Fun K "bound" "bound" sBound f fd) (T : Txt mg) : FnOk P w K mg base CX0 1 f fd ["gaps", "values"] spBound := by
  refine F.ok scB (fun vs H Q E h => ?_) (fun cdv A outer s H vs Q E hr h => ?_)
  · obtain ⟨g, v, rfl, _⟩ := h
    rfl
  obtain ⟨g, v, rfl, g0, g1, v0, v1, q⟩ := h
  refine ⟨_, pss_cons (ps_set (i := 2) scB.nd rfl (Or.inl rfl) pe_int)
    (pss_cons (ps_for PassesOwn.never rfl (pi_range1 rfl T.range (pa_cons (pv 0) pa_nil)) (pg_name (i := 3) scB.nd rfl (Or.inl rfl))
      (pss_one (ps_set (i := 2) scB.nd rfl (Or.inl rfl) (pe_op op_mul (pv 2) (pe_op op_add (pe_op op_add (pv 1) (pv 3)) pe_int)))))
    (pss_one (ps_ret (pv 2)))), ?_⟩
  refine ⟨_, rfl, _, rfl, by omega, by omega, for_range (lo := 0) (n := g.toNat) (fun i σ H2 => H2 = H ∧ ∃ u, σ = [some (.int g), some (.int v), some (.int (prodF v i)), u]) ⟨rfl, none, rfl⟩ ?_ ?_⟩
  · rintro i σ H2 hi ⟨rfl, u, rfl⟩
    refine ⟨_, rfl, _, rfl, _, rfl, _, _, rfl, rfl, _, _, rfl, rfl, _, _, rfl, rfl, Or.inr ⟨by omega, by omega⟩, ?_⟩
    exact ⟨rfl, _, rfl⟩
  · rintro σ H2 ⟨rfl, u, rfl⟩
    exact ⟨_, rfl, q⟩
theorem scC : FnScope ["gaps", "values"] ["gaps", "values"] (defScope sCheck) := ⟨rfl, rfl, rfl, by decide +kernel, rfl, by decide +kernel, by decide +kernel⟩
theorem ok_check {C : Addr} {bm : List Value} {newId initId Bn : String} (F : Fun K "check_bound" "check_bound" sCheck f fd) (T : Txt mg) (O : PyProof.Rows.OwnCls "TooMany" C bm newId mg base) (FB : ExcBaseFacts Bn newId initId bm) (C1 : Cal P w K mg base "bound" 1 ["gaps", "values"] spBound) : FnOk P w K mg base (CXe P w) 2 f fd ["gaps", "values"] (spCheck C) := by
  obtain ⟨f1, d1, G1, b1, k1, m1⟩ := C1
  obtain ⟨t, mM⟩ := T.most
  refine Fun.okE F scC (fun vs H Q E h => ?_) (fun cdv A outer s H vs Q E hr h => ?_)
  · obtain ⟨g, v, rfl, _⟩ := h
    rfl
  obtain ⟨g, v, rfl, g0, g1, v0, v1, q1, q2⟩ := h
  refine ⟨_, pss_one (ps_if (pt_cmpR op_gt (pe_call G1 hr rfl m1 k1 b1 .nil pass0 (pa_cons (pv 0) (pa_cons (pv 1) pa_nil))) (pe_glob (v := .int 1000) rfl mM ⟨_, rfl⟩) (nomark _)) (pss_one (ps_raise0 O FB rfl)) pss_nil), ?_⟩
  refine ⟨_, rfl, _, rfl, g, v, rfl, g0, g1, v0, v1, _, _, rfl, rfl, _, rfl, ?_⟩
  refine ite2 (fun c => ?_) (fun c => ?_)
  · exact q2 (of_decide_eq_true c)
  · exact q1 (by have : ¬ prodF v g.toNat > 1000 := fun z => c (decide_eq_true z); omega)
theorem scF : FnScope ["values", "many", "fresh", "number"] ["values", "many"] (defScope sFresh) := ⟨rfl, rfl, rfl, by decide +kernel, rfl, by decide +kernel, by decide +kernel⟩
theorem ok_fresh (F : Fun K "fresh_values" "fresh_values" sFresh f fd) (T : Txt mg) : FnOk P w K mg base CX0 1 f fd ["values", "many"] (spFresh K) := by
  refine F.ok scF (fun vs H Q E h => ?_) (fun cdv A outer s H vs Q E hr h => ?_)
  · obtain ⟨a, ns, n, rfl, _⟩ := h
    rfl
  obtain ⟨a, ns, n, rfl, hS, hn, q⟩ := h
  refine ⟨_, pss_cons (ps_set (i := 2) scF.nd rfl (Or.inl rfl) (pe_lst pa_nil))
    (pss_cons (ps_set (i := 3) scF.nd rfl (Or.inl rfl) pe_int)
    (pss_cons (ps_while PassesOwn.never (pt_cmpR op_lt (pe_callB call_len_seq rfl T.len PySem.boot_len (pa_cons (pv 2) pa_nil)) (pv 1) (nomark _))
      (pss_cons (ps_if (pt_cmpR op_notIn_seq (pv 3) (pv 0) rfl) (pss_one (ps_expr (pe_bm PySem.F.plainAttrs_list PySem.F.slot_list_append PySem.F.type_list_append mt_append (pv 2) (pa_cons (pv 3) pa_nil)))) pss_nil)
      (pss_one (ps_set (i := 3) scF.nd rfl (Or.inl rfl) (pe_op op_add (pv 3) pe_int)))))
    (pss_one (ps_ret (pv 2))))), ?_⟩
  refine ⟨small (by decide), fun r hr => ?_⟩
  refine ⟨fun m σ H2 => ∃ (F : List Int) (k : Int), σ = [some (.ref a), some (.int n), some (.ref r), some (.int k)] ∧ Same H H2 ∧ H2 r = some (.lst (F.map V.int)) ∧ F.length ≤ n ∧ Frs ns F ∧ 0 ≤ k ∧ (∀ x ∈ F, x < k) ∧ (∀ m, 0 ≤ m → m < k → m ∈ ns ∨ m ∈ F) ∧ m = (n - F.length) + cnt ns k,
    ⟨_, [], 0, rfl, same_new hr _, upd_same, Nat.zero_le _, fun u x e => by simp at e, Int.le_refl _, by simp, fun m h0 h1 => absurd h0 (by omega), rfl⟩, ?_⟩
  rintro m σ H2 ⟨F, k, rfl, s2, hF, hl, nd, k0, hx, hall, rfl⟩
  refine ⟨_, rfl, r, _, rfl, .inl (SqL.of hF), _, rfl, _, _, rfl, rfl, _, rfl, ?_⟩
  rw [List.length_map]
  refine ite2 (fun c => ?_) (fun c => ?_)
  · have c' : (F.length : Int) < n := of_decide_eq_true c
    refine ⟨fun σ3 H3 => ∃ (F' : List Int), σ3 = [some (.ref a), some (.int n), some (.ref r), some (.int (k + 1))] ∧ Same H H3 ∧ H3 r = some (.lst (F'.map V.int)) ∧ F'.length ≤ n ∧ Frs ns F' ∧ 0 ≤ k + 1 ∧ (∀ x ∈ F', x < k + 1) ∧ (∀ m, 0 ≤ m → m < k + 1 → m ∈ ns ∨ m ∈ F') ∧ (n - F'.length) + cnt ns (k + 1) < (n - F.length) + cnt ns k, ?_, ?_⟩
    · rintro σ3 H3 ⟨F', e1, e2, e3, e4, e5, e6, e7, e8, e9⟩
      exact ⟨_, e9, F', k + 1, e1, e2, e3, e4, e5, e6, e7, e8, rfl⟩
    · refine ⟨_, rfl, _, rfl, a, _, rfl, .inl (s2.seq hS), rfl, flat_ints ns, _, rfl, ?_⟩
      rw [if_pos rfl, inV_ints]
      by_cases hk : k ∈ ns
      · rw [decide_eq_true hk]
        refine iteF ?_
        refine ⟨_, rfl, _, _, rfl, rfl, F, rfl, s2, hF, hl, nd, by omega, fun x z => Int.lt_trans (hx x z) (by omega), fun m h0 h1 => ?_, ?_⟩
        · rcases Int.lt_or_le m k with z | z
          · exact hall m h0 z
          · have : m = k := by omega
            exact .inl (this ▸ hk)
        have := cnt_lt hk
        omega
      · rw [decide_eq_false hk]
        refine iteT ?_
        refine ⟨_, rfl, .inl ⟨rfl, _, SqL.of hF⟩, _, rfl, r, _, _, rfl, rfl, hF, small1000 (by rw [List.length_map]; omega), ?_⟩
        refine ⟨_, rfl, _, _, rfl, rfl, F ++ [k], rfl, same_upd s2 hr _, ?_, ?_, nd.snoc k0 hk hx hall, by omega, fun x z => ?_, fun m h0 h1 => ?_, ?_⟩
        · rw [upd_same, List.map_append]
          rfl
        · rw [List.length_append, List.length_singleton]; omega
        · rcases List.mem_append.mp z with z | z
          · exact Int.lt_trans (hx x z) (by omega)
          · have e : x = k := by simpa using z
            omega
        · rcases Int.lt_or_le m k with z | z
          · rcases hall m h0 z with y | y
            · exact .inl y
            · exact .inr (List.mem_append_left _ y)
          · have : m = k := by omega
            exact .inr (by rw [this]; simp)
        · have := cnt_le k ns
          rw [List.length_append, List.length_singleton]
          omega
  · have c' : ¬ (F.length : Int) < n := fun z => c (decide_eq_true z)
    exact ⟨_, rfl, q r H2 F s2 hF (by omega) nd⟩
end
end K15
set_option maxHeartbeats 4000000
namespace K15
open PySem L2 M16
/-- a filling's pairs -/
def dictOf (gs : List Str) (c : List Int) : List (Key × V) := (gs.zip c).map fun p => ((Sum.inr p.1 : Key), V.int p.2)
theorem dictOf_keys {gs : List Str} {c : List Int} (h : gs.length = c.length) : (dictOf gs c).map (·.1) = gs.map (Sum.inr : Str → Key) := by
  unfold dictOf
  rw [List.map_map]
  have e : (fun p : Str × Int => ((Sum.inr p.1 : Key))) = Sum.inr ∘ Prod.fst := rfl
  show (gs.zip c).map (fun p : Str × Int => (Sum.inr p.1 : Key)) = _
  rw [e, ← List.map_map, List.map_fst_zip (by omega)]
theorem inr_nodup {gs : List Str} (h : gs.Nodup) : (gs.map (Sum.inr : Str → Key)).Nodup := by
  induction gs with
  | nil => exact List.nodup_nil
  | cons a r ih =>
    obtain ⟨h1, h2⟩ := List.nodup_cons.mp h
    rw [List.map_cons]
    refine List.nodup_cons.mpr ⟨fun m => ?_, ih h2⟩
    obtain ⟨b, hb, e⟩ := List.mem_map.mp m
    exact h1 ((Sum.inr.inj e) ▸ hb)
theorem valV_none {κ : Type} [DecidableEq κ] {kvs : List (κ × V)} {k : κ} (h : k ∉ kvs.map (·.1)) : valV kvs k = none := by
  cases e : valV kvs k with
  | none => rfl
  | some v => exact absurd (valV_in e) h
theorem dictOf_put {gs : List Str} {c : List Int} {g : Str} {v : Int} (h : gs.length = c.length) (hg : g ∉ gs) : putK (dictOf gs c) (Sum.inr g : Key) (.int v) = dictOf (gs ++ [g]) (c ++ [v]) := by
  rw [putK_new]
  · unfold dictOf
    rw [List.zip_append h, List.map_append]
    rfl
  · refine valV_none ?_
    rw [dictOf_keys h]
    intro m
    obtain ⟨b, hb, e⟩ := List.mem_map.mp m
    exact hg ((Sum.inr.inj e) ▸ hb)
theorem dictOf_len {gs : List Str} {c : List Int} (h : gs.length = c.length) : (dictOf gs c).length = gs.length := by
  unfold dictOf
  rw [List.length_map, List.length_zip]
  omega
theorem pget {α β : Type} {R : α → β → Prop} : ∀ {xs : List α} {ys : List β}, Paired R xs ys → ∀ {i : Nat} {x : α}, xs[i]? = some x → ∃ y, ys[i]? = some y ∧ R x y
  | _, _, .nil, i, x, e => by simp at e
  | _, _, .cons r t, 0, x, e => by simp at e; subst e; exact ⟨_, rfl, r⟩
  | _, _, .cons r t, i + 1, x, e => by
    obtain ⟨y, h1, h2⟩ := pget t (i := i) (x := x) (by simpa using e)
    exact ⟨y, by simpa using h1, h2⟩
theorem psnoc {α β : Type} {R : α → β → Prop} {a : α} {b : β} : ∀ {xs : List α} {ys : List β}, Paired R xs ys → R a b → Paired R (xs ++ [a]) (ys ++ [b])
  | _, _, .nil, r => .cons r .nil
  | _, _, .cons q t, r => .cons q (psnoc t r)
theorem pmap {α β : Type} {R S : α → β → Prop} (f : ∀ a b, R a b → S a b) : ∀ {xs : List α} {ys : List β}, Paired R xs ys → Paired S xs ys
  | _, _, .nil => .nil
  | _, _, .cons r t => .cons (f _ _ r) (pmap f t)
theorem plen {α β : Type} {R : α → β → Prop} : ∀ {xs : List α} {ys : List β}, Paired R xs ys → xs.length = ys.length
  | _, _, .nil => rfl
  | _, _, .cons _ t => by rw [List.length_cons, List.length_cons, plen t]
/-- a started filling and how many fresh values it has -/
def Fill1 (H : Hp) (gs : List Str) (x : V) (e : List Int × Nat) : Prop := ∃ t d, x = V.ref t ∧ H t = some (.tup [.ref d, .int (e.2 : Int)]) ∧ H d = some (.dK (dictOf gs e.1))
abbrev Fills (H : Hp) (gs : List Str) : List V → List (List Int × Nat) → Prop := Paired (Fill1 H gs)
/-- what is no list stays -/
def Keeps (H H' : Hp) : Prop := ∀ b o, H b = some o → (∀ xs, o ≠ HO.lst xs) → H' b = some o
theorem Fill1.keep {H H' : Hp} (k : Keeps H H') {gs : List Str} {x : V} {e : List Int × Nat} (h : Fill1 H gs x e) : Fill1 H' gs x e := by
  obtain ⟨t, d, e1, e2, e3⟩ := h
  exact ⟨t, d, e1, k _ _ e2 (fun _ z => nomatch z), k _ _ e3 (fun _ z => nomatch z)⟩
def goOn (F : List Int) (e : List Int × Nat) (v : Int) : List Int × Nat := (e.1 ++ [v], if some v = F[e.2]? then e.2 + 1 else e.2)
theorem step_snoc {R F : List Int} {L : List (List Int × Nat)} {i : Nat} {e : List Int × Nat} (h : L[i]? = some e) : stepL R F (L.take (i + 1)) = stepL R F (L.take i) ++ (R ++ F.take (e.2 + 1)).map (goOn F e) := by
  rw [List.take_add_one, h]
  unfold stepL
  rw [List.flatMap_append]
  show _ ++ List.flatMap _ [e] = _
  rw [List.flatMap_singleton]
  rfl
theorem cut_to (F : List Int) (u : Nat) : cutV (F.map V.int) none (some ((u : Int) + 1)) = (F.take (u + 1)).map V.int := by
  unfold cutV
  have e : ((u : Int) + 1) = ((u + 1 : Nat) : Int) := by push_cast; rfl
  rw [e, HT.sIx_nat, HT.sIx_none, List.drop_zero, Nat.sub_zero, List.length_map, ← List.map_take]
  congr 1
  rw [List.take_eq_take_iff]
  omega
def spLength (K : PySem.W.Frag) : Sp := fun vs H Q _ => ∃ (a r f : Addr) (g : Str) (gs : List Str) (xs : List V) (L : List (List Int × Nat)) (R F : List Int), vs = [.ref a, .str g, .ref r, .ref f] ∧ H a = some (.lst xs) ∧ Fills H gs xs L ∧
  H r = some (.lst (R.map V.int)) ∧ H f = some (.lst (F.map V.int)) ∧ (∀ e ∈ L, gs.length = e.1.length ∧ e.2 < F.length) ∧ g ∉ gs ∧ gs.length ≤ 100 ∧ L.length * (R.length + F.length) ≤ 1000 ∧ R.length + F.length ≤ 100 ∧
  ∀ (l : Addr) (H' : Hp) (ys : List V), Same H H' → H' l = some (.lst ys) → Fills H' (gs ++ [g]) ys (stepL R F L) → Q (.ref l) H'
section
variable {P : Program} {w : World} {K : PySem.W.Frag} {mg : Str → Option Value} {base : Heap} {f : Addr} {fd : FuncData}
theorem scG : FnScope ["started", "gap", "rising", "fresh", "longer", "filling", "used", "value", "grown"] ["started", "gap", "rising", "fresh"] (defScope sLength) := ⟨rfl, rfl, rfl, by decide +kernel, rfl, by decide +kernel, by decide +kernel⟩
theorem ok_length (Fn : Fun K "lengthened" "lengthened" sLength f fd) (T : Txt mg) : FnOk P w K mg base CX0 1 f fd ["started", "gap", "rising", "fresh"] (spLength K) := by
  refine Fn.ok scG (fun vs H Q E h => ?_) (fun cdv A outer s H vs Q E hr h => ?_)
  · obtain ⟨a, r, f, g, gs, xs, L, R, F, rfl, _⟩ := h
    rfl
  obtain ⟨a, r, f0, g, gs, xs, L, R, F, rfl, hA, hL, hR, hF, hE, hg, gl, hz, hw, q⟩ := h
  have hu := hu_of hr
  refine ⟨_, pss_cons (ps_set (i := 4) scG.nd rfl (Or.inl rfl) (pe_lst pa_nil))
    (pss_cons (ps_for PassesOwn.never rfl (pi_list (pv 0)) (pg_tup rfl (pgs_cons (pg_name (i := 5) scG.nd rfl (Or.inl rfl)) (pgs_cons (pg_name (i := 6) scG.nd rfl (Or.inl rfl)) pgs_nil)))
      (pss_one (ps_for PassesOwn.never rfl (pi_list (pe_op op_cat (pv 2) (pe_slice sl_list (pv 3) po_none (po_some (pe_op op_add (pv 6) pe_int))))) (pg_name (i := 7) scG.nd rfl (Or.inl rfl))
        (pss_cons (ps_set (i := 8) scG.nd rfl (Or.inl rfl) (pe_callTy call_dict_of rfl T.dict PyProof.Rows.boot_dict (pa_cons (pv 5) pa_nil)))
        (pss_cons (ps_dput hu (pv 8) (pv 1) (pv 7) rfl)
        (pss_one (ps_expr (pe_bm PySem.F.plainAttrs_list PySem.F.slot_list_append PySem.F.type_list_append mt_append (pv 4)
          (pa_cons (pe_tup (pa_cons (pv 8) (pa_cons (pe_ifExp (pt_cmpR op_eq (pv 7) (pe_ix ix_list (pv 3) (pv 6) (fun _ _ => rfl)) (nomark _)) (pe_op op_add (pv 6) pe_int) (pv 6)) pa_nil))) pa_nil)))))))))
    (pss_one (ps_ret (pv 4)))), ?_⟩
  refine ⟨small (by decide), fun l hl => ?_⟩
  refine ⟨_, rfl, a, rfl, ⟨_, SqL.of ((same_new hl _) _ _ hA)⟩, for_list (K := K) (a := a) (xs := xs) (fun i σ H1 => ∃ (ys : List V) (u1 u2 u3 u4 : Option V), σ = [some (.ref a), some (.str g), some (.ref r), some (.ref f0), some (.ref l), u1, u2, u3, u4] ∧
      Same H H1 ∧ H1 l = some (.lst ys) ∧ Fills H1 (gs ++ [g]) ys (stepL R F (L.take i)) ∧ ys.length ≤ i * (R.length + F.length))
    ⟨[], none, none, none, none, rfl, same_new hl _, upd_same, .nil, Nat.zero_le _⟩ (fun i σ H1 _ ⟨_, _, _, _, _, _, s1, _⟩ => SqL.of (s1 _ _ hA)) ?_ ?_⟩
  · rintro i x σ H1 hi ⟨ys, u1, u2, u3, u4, rfl, s1, hy, hYs, hyl⟩
    obtain ⟨e, he, t, d, rfl, ht, hd⟩ := pget hL hi
    have hiL : i < L.length := (List.getElem?_eq_some_iff.mp he).1
    obtain ⟨el, eu⟩ := hE e (List.mem_of_getElem? he)
    refine ⟨t, _, rfl, SqT.of (s1 _ _ ht), rfl, _, _, rfl, _, _, rfl, rfl, ?_⟩
    refine ⟨_, rfl, _, rfl, _, rfl, _, _, rfl, rfl, _, rfl, f0, _, rfl, SqL.of (s1 _ _ hF), fun p hp => ?_⟩
    have hcut := cut_to F e.2
    have lcut : ((F.take (e.2 + 1)).map V.int).length ≤ F.length := by rw [List.length_map, List.length_take]; omega
    refine ⟨r, p, _, _, rfl, rfl, (by rw [upd_ne (ne_of_none (s1 _ _ hR) hp)]; exact s1 _ _ hR), upd_same, (by rw [hcut]; exact small (by rw [List.length_map]; omega)), fun c hc => ?_⟩
    have hpH : H p = none := s1.free hp
    have s1p : Same H (upd H1 p (.lst (cutV (F.map V.int) none (some ((e.2 : Int) + 1))))) := same_upd s1 hpH _
    have hcH : H c = none := s1p.free hc
    have hyp : upd H1 p (.lst (cutV (F.map V.int) none (some ((e.2 : Int) + 1)))) l = some (.lst ys) := by rw [upd_ne (ne_of_none hy hp)]; exact hy
    have ncl : c ≠ l := (ne_of_none hyp hc).symm
    have k1 : Keeps H1 (upd (upd H1 p (.lst (cutV (F.map V.int) none (some ((e.2 : Int) + 1))))) c (.lst (R.map V.int ++ cutV (F.map V.int) none (some ((e.2 : Int) + 1))))) := fun b o h _ => by
      have h' : upd H1 p (.lst (cutV (F.map V.int) none (some ((e.2 : Int) + 1)))) b = some o := by rw [upd_ne (ne_of_none h hp)]; exact h
      rw [upd_ne (ne_of_none h' hc)]; exact h'
    have hW : R.map V.int ++ cutV (F.map V.int) none (some ((e.2 : Int) + 1)) = (R ++ F.take (e.2 + 1)).map V.int := by rw [hcut, List.map_append]
    refine ⟨c, rfl, ⟨_, SqL.of upd_same⟩, for_list (K := K) (a := c) (xs := (R ++ F.take (e.2 + 1)).map V.int) (fun j σ H2 => ∃ (zs : List V) (u3 u4 : Option V), σ = [some (.ref a), some (.str g), some (.ref r), some (.ref f0), some (.ref l), some (.ref d), some (.int e.2), u3, u4] ∧
        Same H H2 ∧ H2 c = some (.lst ((R ++ F.take (e.2 + 1)).map V.int)) ∧ H2 l = some (.lst zs) ∧ Fills H2 (gs ++ [g]) zs (stepL R F (L.take i) ++ ((R ++ F.take (e.2 + 1)).take j).map (goOn F e)) ∧ zs.length ≤ i * (R.length + F.length) + j)
      ⟨ys, _, _, rfl, same_upd s1p hcH _, (by rw [upd_same, hW]), (by rw [upd_ne ncl.symm]; exact hyp), (by rw [List.take_zero, List.map_nil, List.append_nil]; exact pmap (fun _ _ z => z.keep k1) hYs), by omega⟩ (fun j σ H2 _ ⟨_, _, _, _, _, z, _⟩ => SqL.of z) ?_ ?_⟩
    · rintro j y σ H2 hj ⟨zs, u5, u6, rfl, s2, hc2, hl2, hZ, hzl⟩
      obtain ⟨v, hv, rfl⟩ : ∃ v, (R ++ F.take (e.2 + 1))[j]? = some v ∧ y = V.int v := by
        rw [List.getElem?_map] at hj
        cases z : (R ++ F.take (e.2 + 1))[j]? with
        | none => rw [z] at hj; cases hj
        | some v => rw [z] at hj; exact ⟨v, rfl, (Option.some.inj hj).symm⟩
      have hjl : j < R.length + F.length := by
        have := (List.getElem?_eq_some_iff.mp hv).1
        rw [List.length_append, List.length_take] at this
        omega
      have tot : i * (R.length + F.length) + j < 1000 := by
        have : (i + 1) * (R.length + F.length) ≤ L.length * (R.length + F.length) := Nat.mul_le_mul_right _ hiL
        rw [Nat.succ_mul] at this
        omega
      refine ⟨_, rfl, d, _, rfl, s2 _ _ hd, fun p2 hp2 => ?_⟩
      refine ⟨_, rfl, _, rfl, _, rfl, p2, _, rfl, DPut.k (k := Sum.inr g) upd_same (small1000 (by rw [dictOf_len el]; omega)), ?_⟩
      have hp2H : H p2 = none := s2.free hp2
      have ep : ∀ b, b ≠ p2 → upd (upd H2 p2 (.dK (dictOf gs e.1))) p2 (.dK (putK (dictOf gs e.1) (Sum.inr g : Key) (.int v))) b = H2 b := fun b hb => by rw [upd_ne hb, upd_ne hb]
      have n2l : l ≠ p2 := ne_of_none hl2 hp2
      have hl3 : upd (upd H2 p2 (.dK (dictOf gs e.1))) p2 (.dK (putK (dictOf gs e.1) (Sum.inr g : Key) (.int v))) l = some (.lst zs) := by rw [ep l n2l]; exact hl2
      have hFu : F[e.2]? = some F[e.2] := List.getElem?_eq_getElem eu
      have hf3 : upd (upd H2 p2 (.dK (dictOf gs e.1))) p2 (.dK (putK (dictOf gs e.1) (Sum.inr g : Key) (.int v))) f0 = some (.lst (F.map V.int)) := by rw [ep f0 (ne_of_none (s2 _ _ hF) hp2)]; exact s2 _ _ hF
      have fin : ∀ (n' : Nat), n' = (if some v = F[e.2]? then e.2 + 1 else e.2) → ∀ t2, upd (upd H2 p2 (.dK (dictOf gs e.1))) p2 (.dK (putK (dictOf gs e.1) (Sum.inr g : Key) (.int v))) t2 = none →
          ∃ (zs' : List V) (u3 u4 : Option V), ([some (.ref a), some (.str g), some (.ref r), some (.ref f0), some (.ref l), some (.ref d), some (.int e.2), some (.int v), some (.ref p2)] : St) = [some (.ref a), some (.str g), some (.ref r), some (.ref f0), some (.ref l), some (.ref d), some (.int e.2), u3, u4] ∧
          Same H (upd (upd (upd (upd H2 p2 (.dK (dictOf gs e.1))) p2 (.dK (putK (dictOf gs e.1) (Sum.inr g : Key) (.int v)))) t2 (.tup [.ref p2, .int (n' : Int)])) l (.lst (zs ++ [.ref t2]))) ∧
          (upd (upd (upd (upd H2 p2 (.dK (dictOf gs e.1))) p2 (.dK (putK (dictOf gs e.1) (Sum.inr g : Key) (.int v)))) t2 (.tup [.ref p2, .int (n' : Int)])) l (.lst (zs ++ [.ref t2]))) c = some (.lst ((R ++ F.take (e.2 + 1)).map V.int)) ∧
          (upd (upd (upd (upd H2 p2 (.dK (dictOf gs e.1))) p2 (.dK (putK (dictOf gs e.1) (Sum.inr g : Key) (.int v)))) t2 (.tup [.ref p2, .int (n' : Int)])) l (.lst (zs ++ [.ref t2]))) l = some (.lst zs') ∧
          Fills (upd (upd (upd (upd H2 p2 (.dK (dictOf gs e.1))) p2 (.dK (putK (dictOf gs e.1) (Sum.inr g : Key) (.int v)))) t2 (.tup [.ref p2, .int (n' : Int)])) l (.lst (zs ++ [.ref t2]))) (gs ++ [g]) zs' (stepL R F (L.take i) ++ ((R ++ F.take (e.2 + 1)).take (j + 1)).map (goOn F e)) ∧ zs'.length ≤ i * (R.length + F.length) + (j + 1) := by
        intro n' hn' t2 ht2
        have s3 : Same H (upd (upd H2 p2 (.dK (dictOf gs e.1))) p2 (.dK (putK (dictOf gs e.1) (Sum.inr g : Key) (.int v)))) := same_upd (same_upd s2 hp2H _) hp2H _
        have ht2H : H t2 = none := s3.free ht2
        have n3l : l ≠ t2 := ne_of_none hl3 ht2
        have hc3 : upd (upd H2 p2 (.dK (dictOf gs e.1))) p2 (.dK (putK (dictOf gs e.1) (Sum.inr g : Key) (.int v))) c = some (.lst ((R ++ F.take (e.2 + 1)).map V.int)) := by rw [ep c (ne_of_none hc2 hp2)]; exact hc2
        have npt : p2 ≠ t2 := ne_of_none upd_same ht2
        have kk : Keeps H2 (upd (upd (upd (upd H2 p2 (.dK (dictOf gs e.1))) p2 (.dK (putK (dictOf gs e.1) (Sum.inr g : Key) (.int v)))) t2 (.tup [.ref p2, .int (n' : Int)])) l (.lst (zs ++ [.ref t2]))) := fun b o h nl => by
          have nb : b ≠ l := ne_of h hl2 (nl _)
          have nb2 : b ≠ p2 := ne_of_none h hp2
          have h3 : upd (upd H2 p2 (.dK (dictOf gs e.1))) p2 (.dK (putK (dictOf gs e.1) (Sum.inr g : Key) (.int v))) b = some o := by rw [ep b nb2]; exact h
          rw [upd_ne nb, upd_ne (ne_of_none h3 ht2)]
          exact h3
        refine ⟨zs ++ [.ref t2], _, _, rfl, same_upd (same_upd s3 ht2H _) hl _, ?_, upd_same, ?_, ?_⟩
        · rw [upd_ne ncl, upd_ne (ne_of_none hc3 ht2)]
          exact hc3
        · rw [List.take_add_one, hv, List.map_append, ← List.append_assoc]
          refine psnoc (pmap (fun _ _ z => z.keep kk) hZ) ⟨t2, p2, rfl, ?_, ?_⟩
          · rw [upd_ne n3l.symm, upd_same]
            show some (HO.tup [V.ref p2, V.int (n' : Int)]) = some (HO.tup [V.ref p2, V.int ((goOn F e v).2 : Int)])
            rw [hn']
            rfl
          · rw [upd_ne n2l.symm, upd_ne npt, upd_same, dictOf_put el hg]
            rfl
        · rw [List.length_append, List.length_singleton]; omega
      refine ⟨_, rfl, .inl ⟨rfl, _, SqL.of hl3⟩, _, rfl, _, rfl, _, rfl, _, rfl, f0, _, _, _, rfl, rfl, SqL.of hf3, atI_nat (v := V.int F[e.2]) (by rw [List.getElem?_map, hFu]; rfl), rfl, _, rfl, ?_⟩
      by_cases hvf : v = F[e.2]
      · rw [decide_eq_true (congrArg V.int hvf)]
        refine iteT ?_
        refine ⟨_, rfl, _, _, rfl, rfl, (by show 2 ≤ sizeLine; exact small (by decide)), fun t2 ht2 => ⟨l, zs, .ref t2, rfl, rfl, (by rw [upd_ne (ne_of_none hl3 ht2)]; exact hl3), small1000 (by omega), ?_⟩⟩
        exact fin (e.2 + 1) (by rw [if_pos (by rw [hFu, hvf])]) t2 ht2
      · rw [decide_eq_false fun z => hvf (by injection z)]
        refine iteF ?_
        refine ⟨_, rfl, (by show 2 ≤ sizeLine; exact small (by decide)), fun t2 ht2 => ⟨l, zs, .ref t2, rfl, rfl, (by rw [upd_ne (ne_of_none hl3 ht2)]; exact hl3), small1000 (by omega), ?_⟩⟩
        exact fin e.2 (by rw [if_neg (by rw [hFu]; intro z; exact hvf (Option.some.inj z))]) t2 ht2
    · rintro σ H2 ⟨zs, u5, u6, rfl, s2, hc2, hl2, hZ, hzl⟩
      refine ⟨zs, _, _, _, _, rfl, s2, hl2, ?_, ?_⟩
      · rw [step_snoc he]
        rw [List.length_map, List.take_length] at hZ
        exact hZ
      · rw [List.length_map, List.length_append, List.length_take] at hzl
        rw [Nat.succ_mul]
        omega
  · rintro σ H1 ⟨ys, u1, u2, u3, u4, rfl, s1, hy, hYs, hyl⟩
    refine ⟨_, rfl, q l H1 ys s1 hy ?_⟩
    rw [plen hL, List.take_length] at hYs
    exact hYs
end
end K15
set_option maxHeartbeats 4000000
namespace K15
open PySem L2 M16
/-! as many as the bound says, at most -/
def facN (v : Nat) : Nat → Nat
  | 0 => 1
  | n + 1 => facN v n * (v + n + 1)
theorem prod_fac (v : Nat) : ∀ n : Nat, prodF (v : Int) n = (facN v n : Int)
  | 0 => rfl
  | n + 1 => by
    show prodF (v : Int) n * ((v : Int) + (0 + n) + 1) = ((facN v n * (v + n + 1) : Nat) : Int)
    rw [prod_fac v n]
    push_cast
    rw [Int.zero_add]
theorem facN_pos (v : Nat) : ∀ n : Nat, 1 ≤ facN v n
  | 0 => Nat.le_refl _
  | n + 1 => Nat.mul_le_mul (facN_pos v n) (by omega : 1 ≤ v + n + 1)
theorem facN_mono (v : Nat) {i : Nat} : ∀ {n : Nat}, i ≤ n → facN v i ≤ facN v n
  | 0, h => by
    obtain rfl : i = 0 := by omega
    exact Nat.le_refl _
  | n + 1, h => by
    rcases Nat.lt_or_ge i (n + 1) with z | z
    · exact Nat.le_trans (facN_mono v (by omega : i ≤ n)) (Nat.le_mul_of_pos_right _ (by omega))
    · obtain rfl : i = n + 1 := by omega
      exact Nat.le_refl _
theorem step_fac (R F : List Int) (m : Nat) : ∀ L : List (List Int × Nat), (∀ e ∈ L, e.2 ≤ m) → (stepL R F L).length ≤ L.length * (R.length + m + 1)
  | [], _ => Nat.zero_le _
  | e :: r, h => by
    have ih := step_fac R F m r fun x hx => h x (List.mem_cons_of_mem _ hx)
    have he := h e List.mem_cons_self
    unfold stepL at ih ⊢
    rw [List.flatMap_cons, List.length_append, List.length_map, List.length_append, List.length_take, List.length_cons, Nat.succ_mul]
    omega
theorem kindsL_fac {vs R F : List Int} (g : Good vs R F) : ∀ k : Nat, k ≤ F.length → (kindsL R F k).length ≤ facN R.length k
  | 0, _ => Nat.le_refl _
  | k + 1, h => by
    have := step_fac R F k (kindsL R F k) fun e he => (kindsL_kept g k (by omega) e he).le
    exact Nat.le_trans this (Nat.mul_le_mul_right _ (kindsL_fac g k (by omega)))
/-! gone through gap by gap -/
def dueL (R F : List Int) : Nat → List Int × Nat → List (List Int × Nat)
  | 0, e => [e]
  | k + 1, e => (R ++ F.take (e.2 + 1)).flatMap fun v => dueL R F k (goOn F e v)
def fromL (R F : List Int) : Nat → List (List Int × Nat) → List (List Int × Nat)
  | 0, L => L
  | k + 1, L => fromL R F k (stepL R F L)
theorem step_app (R F : List Int) (L M : List (List Int × Nat)) : stepL R F (L ++ M) = stepL R F L ++ stepL R F M := by
  unfold stepL
  rw [List.flatMap_append]
theorem from_app (R F : List Int) : ∀ (k : Nat) (L M : List (List Int × Nat)), fromL R F k (L ++ M) = fromL R F k L ++ fromL R F k M
  | 0, _, _ => rfl
  | k + 1, L, M => by
    show fromL R F k (stepL R F (L ++ M)) = _
    rw [step_app, from_app R F k]
    rfl
theorem from_nil (R F : List Int) : ∀ k : Nat, fromL R F k [] = []
  | 0 => rfl
  | k + 1 => from_nil R F k
theorem from_flat (R F : List Int) (k : Nat) : ∀ L : List (List Int × Nat), fromL R F k L = L.flatMap fun e => fromL R F k [e]
  | [] => from_nil R F k
  | e :: r => by
    rw [List.flatMap_cons, ← from_flat R F k r, ← from_app]
    rfl
theorem due_from (R F : List Int) : ∀ (k : Nat) (e : List Int × Nat), dueL R F k e = fromL R F k [e]
  | 0, _ => rfl
  | k + 1, e => by
    show (R ++ F.take (e.2 + 1)).flatMap (fun v => dueL R F k (goOn F e v)) = fromL R F k (stepL R F [e])
    have h : stepL R F [e] = (R ++ F.take (e.2 + 1)).map (goOn F e) := by
      unfold stepL
      rw [List.flatMap_singleton]
      rfl
    rw [h, from_flat, List.flatMap_map]
    congr 1
    funext v
    exact due_from R F k _
theorem from_step (R F : List Int) : ∀ (k : Nat) (L : List (List Int × Nat)), fromL R F k (stepL R F L) = stepL R F (fromL R F k L)
  | 0, _ => rfl
  | k + 1, L => from_step R F k (stepL R F L)
theorem kinds_from (R F : List Int) : ∀ k : Nat, kindsL R F k = fromL R F k [([], 0)]
  | 0 => rfl
  | k + 1 => by
    show stepL R F (kindsL R F k) = fromL R F k (stepL R F [([], 0)])
    rw [kinds_from R F k, from_step]
theorem kinds_due (R F : List Int) (k : Nat) : kindsL R F k = dueL R F k ([], 0) := by rw [kinds_from, due_from]
theorem flat_take {α β : Type} (f : α → List β) (L : List α) (j : Nat) : ((L.take j).flatMap f).length ≤ (L.flatMap f).length := by
  have : L.flatMap f = (L.take j).flatMap f ++ (L.drop j).flatMap f := by rw [← List.flatMap_append, List.take_append_drop]
  rw [this, List.length_append]
  omega
theorem flat_mem {α β : Type} (f : α → List β) {L : List α} {a : α} (h : a ∈ L) : (f a).length ≤ (L.flatMap f).length := by
  obtain ⟨i, hi⟩ := List.getElem?_of_mem h
  have h1 := flat_take f L (i + 1)
  rw [List.take_add_one, hi, List.flatMap_append] at h1
  have : (f a).length ≤ ((L.take i).flatMap f ++ [a].flatMap f).length := by rw [List.length_append, List.flatMap_singleton]; omega
  exact Nat.le_trans this h1
theorem sorted_uniq : ∀ {a b : List Int}, a.Pairwise (· ≤ ·) → b.Pairwise (· ≤ ·) → a.Perm b → a = b
  | [], b, _, _, p => p.nil_eq
  | x :: r, b, ha, hb, p => by
    cases b with
    | nil => exact absurd p.eq_nil (by simp)
    | cons y t =>
      obtain ⟨a1, a2⟩ := List.pairwise_cons.mp ha
      obtain ⟨b1, b2⟩ := List.pairwise_cons.mp hb
      have hx : x ∈ y :: t := p.mem_iff.mp List.mem_cons_self
      have hy : y ∈ x :: r := p.mem_iff.mpr List.mem_cons_self
      have e : x = y := by
        rcases List.mem_cons.mp hx with z | z
        · exact z
        · rcases List.mem_cons.mp hy with z' | z'
          · exact z'.symm
          · exact Int.le_antisymm (a1 y z') (b1 x z)
      subst e
      rw [sorted_uniq a2 b2 (List.Perm.cons_inv p)]
/-! kinds -/
def Told1 (H : Hp) (gs : List Str) (y : V) (e : List Int × Nat) : Prop := ∃ d, y = V.ref d ∧ H d = some (.dK (dictOf gs e.1))
abbrev Told (H : Hp) (gs : List Str) : List V → List (List Int × Nat) → Prop := Paired (Told1 H gs)
/-- the values rising, and as many fresh ones as gaps -/
structure Ris (vs R F : List Int) : Prop where
  vn : vs.Nodup
  pm : R.Perm vs
  so : R.Pairwise (· ≤ ·)
  fr : Frs vs F
theorem Ris.good {vs R F : List Int} (h : Ris vs R F) : Good vs R F := ⟨h.vn, h.pm, h.fr.nodup, h.fr.out⟩
theorem Ris.uniq {vs R F R' F' : List Int} (h : Ris vs R F) (h' : Ris vs R' F') (hl : F.length = F'.length) : R = R' ∧ F = F' :=
  ⟨sorted_uniq h.so h'.so (h.pm.trans h'.pm.symm), h.fr.uniq h'.fr hl⟩
def spKinds (K : PySem.W.Frag) (C : Addr) : Sp := fun args H Q E => ∃ (a b : Addr) (gs : List Str) (vs : List Int), args = [.ref a, .ref b] ∧ SqL K H a (gs.map V.str) ∧ SqL K H b (vs.map V.int) ∧ gs.Nodup ∧ vs.Nodup ∧ gs.length ≤ 4 ∧ vs.length ≤ 31 ∧
  (facN vs.length gs.length ≤ 1000 → ∀ (l : Addr) (H' : Hp) (ys : List V) (R F : List Int), Same H H' → H l = none → Ris vs R F → F.length = gs.length → H' l = some (.lst ys) → Told H' gs ys (kindsL R F gs.length) → Q (.ref l) H') ∧
  (1000 < facN vs.length gs.length → E (.ref C) none H)
section
variable {P : Program} {w : World} {K : PySem.W.Frag} {mg : Str → Option Value} {base : Heap} {f : Addr} {fd : FuncData}
theorem scK : FnScope ["gaps", "values", "rising", "fresh", "started", "gap"] ["gaps", "values"] (defScope sKinds) := ⟨rfl, rfl, rfl, by decide +kernel, rfl, by decide +kernel, by decide +kernel⟩
theorem ndK : (["filling", "used"] : List Str).Nodup := by decide +kernel
theorem pg_pair {X : Cx} {sc : Scope} {s : Shared} {H : Hp} {ex : List Addr} {p1 p2 p3 : Pos} {k : Nat} (h1 : sc.names.lookup ("filling" : Str) = some .local) (h2 : sc.names.lookup ("used" : Str) = some .local) :
    PG (cxLC X ["filling", "used"] sc s H ex) (.Tuple [.Name "filling" p1, .Name "used" p2] k p3) (gTup X.K 2 (gCons (gName 0) (gCons (gName 1) gNil))) :=
  pg_tup (X := cxLC X ["filling", "used"] sc s H ex) rfl (pgs_cons (pg_name (X := cxLC X ["filling", "used"] sc s H ex) (i := 0) ndK rfl (Or.inl h1) (.inl rfl)) (pgs_cons (pg_name (X := cxLC X ["filling", "used"] sc s H ex) (i := 1) ndK rfl (Or.inl h2) (.inl rfl)) pgs_nil))
theorem pv_pair {X : Cx} {sc : Scope} {s : Shared} {H : Hp} {ex : List Addr} {p1 : Pos} (h1 : sc.names.lookup ("filling" : Str) = some .local) : PE (cxLC X ["filling", "used"] sc s H ex) (.Name "filling" p1) (tVar 0) :=
  pe_var (X := cxLC X ["filling", "used"] sc s H ex) (i := 0) rfl (Or.inl h1)
theorem ok_kinds (Fn : Fun K "kinds" "kinds" sKinds f fd) (T : Txt mg) {C : Addr} (C1 : CalE P w K mg base "check_bound" 2 ["gaps", "values"] (spCheck C)) (C2 : Cal P w K mg base "fresh_values" 1 ["values", "many"] (spFresh K))
    (C3 : Cal P w K mg base "lengthened" 1 ["started", "gap", "rising", "fresh"] (spLength K)) : FnOk P w K mg base (CXe P w) 3 f fd ["gaps", "values"] (spKinds K C) := by
  obtain ⟨f1, d1, G1, b1, k1, m1⟩ := C1
  obtain ⟨f2, d2, G2, b2, k2, m2⟩ := C2
  obtain ⟨f3, d3, G3, b3, k3, m3⟩ := C3
  refine Fun.okE Fn scK (fun vs H Q E h => ?_) (fun cdv A outer s H vs Q E hr h => ?_)
  · obtain ⟨a, b, gs, vs, rfl, _⟩ := h
    rfl
  obtain ⟨a, b, gs, vs, rfl, hA, hB, gn, vn, gl, vl, q, qE⟩ := h
  have hu := hu_of hr
  have hr1 : Room 1 _ := hr.mono (by decide)
  refine ⟨_, pss_cons (ps_expr (pe_call G1 hr rfl m1 k1 b1 .nil passesE (pa_cons (pe_callB call_len_seq rfl T.len PySem.boot_len (pa_cons (pv 0) pa_nil)) (pa_cons (pe_callB call_len_seq rfl T.len PySem.boot_len (pa_cons (pv 1) pa_nil)) pa_nil))))
    (PSs.nox (pss_cons (ps_set (i := 2) scK.nd rfl (Or.inl rfl) (pe_callB call_sorted_ints rfl T.sorted PyProof.Rows.boot_sorted (pa_cons (pv 1) pa_nil)))
    (pss_cons (ps_set (i := 3) scK.nd rfl (Or.inl rfl) (pe_call G2 hr1 rfl m2 k2 b2 .nil pass0 (pa_cons (pv 2) (pa_cons (pe_callB call_len_seq rfl T.len PySem.boot_len (pa_cons (pv 0) pa_nil)) pa_nil))))
    (pss_cons (ps_set (i := 4) scK.nd rfl (Or.inl rfl) (pe_lst (pa_cons (pe_tup (pa_cons pe_dnewK (pa_cons pe_int pa_nil))) pa_nil)))
    (pss_cons (ps_for PassesOwn.never rfl (pi_list (pv 0)) (pg_name (i := 5) scK.nd rfl (Or.inl rfl))
      (pss_one (ps_set (i := 4) scK.nd rfl (Or.inl rfl) (pe_call G3 hr1 rfl m3 k3 b3 .nil pass0 (pa_cons (pv 4) (pa_cons (pv 5) (pa_cons (pv 2) (pa_cons (pv 3) pa_nil))))))))
    (pss_one (ps_ret (pe_lc (N' := ["filling", "used"]) rfl (pi_list (pv 4)) rfl (by decide +kernel) (by decide +kernel) (by decide +kernel)
      (fun s H ex => pg_pair rfl rfl) (fun s H ex => pv_pair rfl))))))))), ?_⟩
  have gL : (gs.map V.str).length = gs.length := List.length_map _
  have vL : (vs.map V.int).length = vs.length := List.length_map _
  refine ⟨_, rfl, a, _, rfl, .inl hA, _, rfl, b, _, rfl, .inl hB, _, _, rfl, by omega, by omega, by omega, by omega, fun hfac => ?_, fun hfac => ?_⟩
  rotate_left
  · rw [Int.toNat_natCast, gL, vL, prod_fac] at hfac
    exact qE (by omega)
  rw [Int.toNat_natCast, gL, vL, prod_fac] at hfac
  have hfc : facN vs.length gs.length ≤ 1000 := by omega
  refine ⟨_, rfl, b, vs, rfl, hB, by omega, fun rl R hrl pm so => ?_⟩
  refine ⟨_, rfl, _, rfl, a, _, rfl, .inl ((same_new hrl _).seq hA), rl, R, (gs.map V.str).length, rfl, SqL.of upd_same, by omega, fun fl H2 F s2 hF fl' frs => ?_⟩
  have sA : Same H H2 := (same_new hrl _).trans s2
  have hR2 : H2 rl = some (.lst (R.map V.int)) := s2 _ _ upd_same
  have hmm : ∀ x : Int, x ∈ R ↔ x ∈ vs := fun x => pm.mem_iff
  have ris : Ris vs R F := ⟨vn, pm, so, fun u x e => by
    obtain ⟨y1, y2, y3, y4⟩ := frs u x e
    exact ⟨y1, fun z => y2 ((hmm x).mpr z), y3, fun m m0 m1 => (y4 m m0 m1).imp (hmm m).mp id⟩⟩
  have good : Good vs R F := ris.good
  have FL : F.length = gs.length := fl'.trans gL
  have RL : R.length = vs.length := pm.length_eq
  refine fun d0 hd0 => ⟨(by show 2 ≤ sizeLine; exact small (by decide)), fun t0 ht0 => ⟨(by show 1 ≤ sizeLine; exact small (by decide)), fun l0 hl0 => ?_⟩⟩
  have sB : Same H2 (upd (upd (upd H2 d0 (.dK [])) t0 (.tup [.ref d0, .int 0])) l0 (.lst [.ref t0])) := (same_new hd0 _).trans ((same_new ht0 _).trans (same_new hl0 _))
  have hA2 := sA.seq hA
  refine ⟨_, rfl, a, rfl, ⟨_, sB.seq hA2⟩, for_list (K := K) (a := a) (xs := gs.map V.str) (fun i σ H3 => ∃ (l : Addr) (ys : List V) (u : Option V), σ = [some (.ref a), some (.ref b), some (.ref rl), some (.ref fl), some (.ref l), u] ∧
      Same H2 H3 ∧ H3 l = some (.lst ys) ∧ Fills H3 (gs.take i) ys (kindsL R F i))
    ⟨l0, [.ref t0], none, rfl, sB, upd_same, .cons ⟨t0, d0, rfl, (same_new hl0 _) _ _ upd_same, (same_new hl0 _) _ _ ((same_new ht0 _) _ _ upd_same)⟩ .nil⟩ (fun i σ H3 _ ⟨_, _, _, _, s3, _⟩ => s3.seq hA2) ?_ ?_⟩
  · rintro i x σ H3 hi ⟨l, ys, u, rfl, s3, hl, hY⟩
    obtain ⟨g, hg, rfl⟩ : ∃ g, gs[i]? = some g ∧ x = V.str g := by
      rw [List.getElem?_map] at hi
      cases z : gs[i]? with
      | none => rw [z] at hi; cases hi
      | some v => rw [z] at hi; exact ⟨v, rfl, (Option.some.inj hi).symm⟩
    have hig : i < gs.length := (List.getElem?_eq_some_iff.mp hg).1
    have tl : (gs.take i).length = i := by rw [List.length_take]; omega
    refine ⟨_, rfl, _, rfl, _, rfl, _, rfl, l, rl, fl, g, gs.take i, ys, kindsL R F i, R, F, rfl, hl, hY, s3 _ _ hR2, s3 _ _ hF, fun e he => ?_, ?_, by omega, ?_, by omega, fun l' H4 ys' s4 hl' hY' => ?_⟩
    · have kp := kindsL_kept good i (by omega) e he
      have := kp.le
      exact ⟨by rw [tl, kp.len], by omega⟩
    · intro hm
      obtain ⟨j, hj, e⟩ := List.mem_iff_getElem.mp hm
      rw [List.getElem_take] at e
      have hp := List.pairwise_iff_getElem.mp gn
      obtain ⟨h1, h2⟩ := List.getElem?_eq_some_iff.mp hg
      exact hp j i (by omega) h1 (by omega) (e.trans h2.symm)
    · have h1 := kindsL_fac good i (by omega)
      have h2 : facN R.length (i + 1) ≤ facN R.length gs.length := facN_mono _ (by omega)
      rw [RL] at h1 h2
      rcases Nat.lt_or_ge (i + 1) gs.length with hlt | hge
      · have h3 : facN vs.length i * (vs.length + gs.length) ≤ facN vs.length (gs.length - 1) * (vs.length + gs.length) := Nat.mul_le_mul_right _ (facN_mono _ (by omega))
        obtain ⟨m, hm⟩ : ∃ m, gs.length = m + 1 := ⟨gs.length - 1, by omega⟩
        have h4 : facN vs.length (m + 1) = facN vs.length m * (vs.length + m + 1) := rfl
        rw [hm] at h3 hfc FL
        rw [h4] at hfc
        have h5 : (kindsL R F i).length * (vs.length + (m + 1)) ≤ facN vs.length i * (vs.length + (m + 1)) := Nat.mul_le_mul_right _ h1
        rw [RL, FL]
        exact Nat.le_trans h5 (Nat.le_trans h3 hfc)
      · have hm : gs.length = i + 1 := by omega
        have h4 : facN vs.length (i + 1) = facN vs.length i * (vs.length + i + 1) := rfl
        rw [hm] at hfc FL
        rw [h4] at hfc
        have h5 : (kindsL R F i).length * (vs.length + (i + 1)) ≤ facN vs.length i * (vs.length + (i + 1)) := Nat.mul_le_mul_right _ h1
        rw [RL, FL]
        exact Nat.le_trans h5 hfc
    · refine ⟨l', ys', _, rfl, s3.trans s4, hl', ?_⟩
      rw [List.take_add_one, hg]
      exact hY'
  · rintro σ H3 ⟨l, ys, u, rfl, s3, hl, hY⟩
    refine ⟨_, rfl, l, rfl, ⟨_, SqL.of hl⟩, fun D hD => ?_⟩
    rw [gL, List.take_length] at hY
    refine lc_list (K := K) (a := l) (xs := ys) (fun i σ H4 => ∃ (zs : List V) (u1 u2 : Option V), σ = [u1, u2] ∧ Same H3 H4 ∧ H4 D = some (.lst zs) ∧ zs.length = i ∧ Paired (Told1 H3 gs) zs ((kindsL R F gs.length).take i))
      ⟨[], none, none, rfl, same_new hD _, upd_same, rfl, .nil⟩ (fun i σ H4 _ ⟨_, _, _, _, s4, _⟩ => SqL.of (s4 _ _ hl)) ?_ ?_
    · rintro i x σ H4 hi ⟨zs, u1, u2, rfl, s4, hz, zl, hT⟩
      obtain ⟨e, he, t, d, rfl, ht, hd⟩ := pget hY hi
      have hil := (List.getElem?_eq_some_iff.mp hi).1
      have hyl := plen hY
      refine ⟨t, _, rfl, SqT.of (s4 _ _ ht), rfl, _, _, rfl, _, _, rfl, rfl, _, rfl, zs, hz, ?_, zs ++ [.ref d], _, _, rfl, same_upd s4 hD _, upd_same, by rw [List.length_append, List.length_singleton, zl], ?_⟩
      · have h1 := kindsL_fac good gs.length (by omega)
        rw [RL] at h1
        exact small1000 (by omega)
      · rw [List.take_add_one, he]
        exact psnoc hT ⟨d, rfl, hd⟩
    · rintro σ H4 ⟨zs, u1, u2, rfl, s4, hz, zl, hT⟩
      rw [plen hY, List.take_length] at hT
      exact q hfc D H4 zs R F (sA.trans (s3.trans s4)) ((sA.trans s3).free hD) ris FL hz (pmap (fun y e ⟨d, e1, e2⟩ => ⟨d, e1, s4 _ _ e2⟩) hT)
end
end K15
set_option maxHeartbeats 4000000
namespace K15
open PySem L2 M16
theorem of_str {gs : List Str} {i : Nat} {x : V} (hi : (gs.map V.str)[i]? = some x) : ∃ g, gs[i]? = some g ∧ g ∈ gs ∧ x = V.str g := by
  rw [List.getElem?_map] at hi
  cases z : gs[i]? with
  | none => rw [z] at hi; cases hi
  | some v => rw [z] at hi; exact ⟨v, rfl, List.mem_of_getElem? z, (Option.some.inj hi).symm⟩
theorem of_int {gs : List Int} {i : Nat} {x : V} (hi : (gs.map V.int)[i]? = some x) : ∃ g, gs[i]? = some g ∧ g ∈ gs ∧ x = V.int g := by
  rw [List.getElem?_map] at hi
  cases z : gs[i]? with
  | none => rw [z] at hi; cases hi
  | some v => rw [z] at hi; exact ⟨v, rfl, List.mem_of_getElem? z, (Option.some.inj hi).symm⟩
theorem cut_at (ns : List Int) (k : Int) (h0 : 0 ≤ k) : atI (cutV (ns.map V.int) (some k) (some (k + 1)) ++ [V.int 0]) 0 = some (V.int (ns.getD k.toNat 0)) := by
  obtain ⟨j, rfl⟩ := Int.eq_ofNat_of_zero_le h0
  have e : ((j : Int) + 1) = ((j + 1 : Nat) : Int) := by push_cast; rfl
  unfold cutV
  rw [e, HT.sIx_nat, HT.sIx_nat, List.length_map, Int.toNat_natCast]
  have z : (0 : Int) = ((0 : Nat) : Int) := rfl
  rw [z]
  refine atI_nat ?_
  rcases Nat.lt_or_ge j ns.length with hj | hj
  · have e1 : min j ns.length = j := by omega
    have e2 : min (j + 1) ns.length - j = 1 := by omega
    rw [e1, e2, ← List.map_drop, List.drop_eq_getElem_cons hj, List.getD_eq_getElem?_getD, List.getElem?_eq_getElem hj]
    rfl
  · have e1 : min j ns.length = ns.length := by omega
    have e2 : min (j + 1) ns.length - ns.length = 0 := by omega
    have e3 : ns[j]? = none := List.getElem?_eq_none hj
    rw [e1, e2, List.take_zero, List.getD_eq_getElem?_getD, e3]
    rfl
abbrev lets : Str := "abcdefghijklmnopqrstuvwxyz"
theorem lets_len : lets.cps.toList.length = 26 := by decide +kernel
theorem lets_small : lets.length ≤ sizeLine := small (by decide +kernel)
theorem lets_inj : ∀ i : Nat, i < 26 → ∀ j : Nat, j < 26 → lets.cps.toList.getD i 0 = lets.cps.toList.getD j 0 → i = j := by decide +kernel
theorem at26 (z : Int) : atI lets.cps.toList (z % 26) = some (lets.cps.toList.getD (z % 26).toNat 0) := by
  have h0 : 0 ≤ z % 26 := Int.emod_nonneg _ (by decide)
  have h1 : z % 26 < 26 := Int.emod_lt_of_pos _ (by decide)
  obtain ⟨j, e⟩ := Int.eq_ofNat_of_zero_le h0
  rw [e, Int.toNat_natCast]
  have hj : j < lets.cps.toList.length := by rw [lets_len]; omega
  refine atI_nat ?_
  rw [List.getD_eq_getElem?_getD, List.getElem?_eq_getElem hj]
  rfl
def sgn (c : Int) (k : Nat) : Nat := lets.cps.toList.getD ((c / 98 + 3 * (0 + (k : Int))) % 26).toNat 0
def nmA (c : Int) (b : Str) (at' : Int) (k : Nat) : Str := (Txt.slice b none (some at') ++ (⟨#[sgn c k]⟩ : Str)) ++ Txt.slice b (some at') none
def nmB (b : Str) (k : Nat) : Str := Txt.slice b none (some 3) ++ Txt.slice ("uuuu" : Str) (some (0 + (k : Int))) none
def nm (c : Int) (b : Str) (at' : Int) (k : Nat) : Str := if c / 7 % 2 = 0 then nmA c b at' k else nmB b k
theorem app_cps (x y : Str) : (x ++ y).cps.toList = x.cps.toList ++ y.cps.toList := Array.toList_append
theorem len_app (x y : Str) : (x ++ y).length = x.length + y.length := by
  show (x ++ y).cps.size = x.cps.size + y.cps.size
  rw [← Array.length_toList, app_cps, List.length_append, Array.length_toList, Array.length_toList]
theorem dd_len : ∀ k : Nat, k < 4 → (Txt.slice ("uuuu" : Str) (some (0 + (k : Int))) none).length = 4 - k := by decide +kernel
theorem nm_inj (c : Int) (b : Str) (at' : Int) {i j : Nat} (hi : i < 4) (hj : j < 4) (h : nm c b at' i = nm c b at' j) : i = j := by
  unfold nm at h
  by_cases hc : c / 7 % 2 = 0
  · rw [if_pos hc, if_pos hc] at h
    unfold nmA at h
    have h' := congrArg (fun z : Str => z.cps.toList) h
    simp only [app_cps] at h'
    have h2 := List.append_cancel_right h'
    have h3 := List.append_cancel_left h2
    have h4 : sgn c i = sgn c j := by simpa using h3
    unfold sgn at h4
    have a1 : 0 ≤ (c / 98 + 3 * (0 + (i : Int))) % 26 := Int.emod_nonneg _ (by decide)
    have a2 : (c / 98 + 3 * (0 + (i : Int))) % 26 < 26 := Int.emod_lt_of_pos _ (by decide)
    have a3 : 0 ≤ (c / 98 + 3 * (0 + (j : Int))) % 26 := Int.emod_nonneg _ (by decide)
    have a4 : (c / 98 + 3 * (0 + (j : Int))) % 26 < 26 := Int.emod_lt_of_pos _ (by decide)
    have h5 := lets_inj _ (by omega) _ (by omega) h4
    omega
  · rw [if_neg hc, if_neg hc] at h
    unfold nmB at h
    have h' := congrArg Str.length h
    rw [len_app, len_app, dd_len i hi, dd_len j hj] at h'
    omega
theorem nodup_map {α β : Type} {g : α → β} : ∀ {l : List α}, l.Nodup → (∀ x ∈ l, ∀ y ∈ l, g x = g y → x = y) → (l.map g).Nodup
  | [], _, _ => List.nodup_nil
  | a :: r, h, hi => by
    obtain ⟨h1, h2⟩ := List.nodup_cons.mp h
    rw [List.map_cons]
    refine List.nodup_cons.mpr ⟨fun m => ?_, nodup_map h2 fun x hx y hy => hi x (List.mem_cons_of_mem _ hx) y (List.mem_cons_of_mem _ hy)⟩
    obtain ⟨b, hb, e⟩ := List.mem_map.mp m
    have := hi b (List.mem_cons_of_mem _ hb) a List.mem_cons_self e
    exact h1 (this ▸ hb)
theorem nm_nodup (c : Int) (b : Str) (at' : Int) : ((List.range 4).map (nm c b at')).Nodup :=
  nodup_map List.nodup_range fun x hx y hy e => nm_inj c b at' (List.mem_range.mp hx) (List.mem_range.mp hy) e
theorem at2 (c : Int) (x y : V) : atI [x, y] (c / 7 % 2) = some (if c / 7 % 2 = 0 then x else y) := by
  have h0 : c / 7 % 2 = 0 ∨ c / 7 % 2 = 1 := by omega
  rcases h0 with h | h
  · rw [h, if_pos rfl]; rfl
  · rw [h, if_neg (by decide)]; rfl
def spAt (K : PySem.W.Frag) : Sp := fun args H Q _ => ∃ (a : Addr) (ns : List Int) (k : Int), args = [.ref a, .int k] ∧ 0 ≤ k ∧ SqL K H a (ns.map V.int) ∧ ∀ (H' : Hp), Same H H' → Q (.int (ns.getD k.toNat 0)) H'
def spNames : Sp := fun args H Q _ => ∃ (c : Int), args = [.int c] ∧ ∀ (r : Addr) (H' : Hp) (names : List Str), Same H H' → H' r = some (.lst (names.map V.str)) → names.length = 4 → names.Nodup → Q (.ref r) H'
def spValue : Sp := fun args H Q _ => ∃ (c : Int), args = [.int c] ∧ ∀ z : Int, Q (.int z) H
def spGaps (K : PySem.W.Frag) : Sp := fun args H Q _ => ∃ (a : Addr) (ns : List Int), args = [.ref a] ∧ SqL K H a (ns.map V.int) ∧ ∀ (r : Addr) (H' : Hp) (gs : List Str), Same H H' → H' r = some (.lst (gs.map V.str)) → gs.Nodup → gs.length ≤ 4 → H r = none → Q (.ref r) H'
def spValues (K : PySem.W.Frag) : Sp := fun args H Q _ => ∃ (a : Addr) (ns : List Int), args = [.ref a] ∧ SqL K H a (ns.map V.int) ∧ ∀ (r : Addr) (H' : Hp) (vs : List Int), Same H H' → H' r = some (.lst (vs.map V.int)) → vs.Nodup → vs.length ≤ 31 → H r = none → Q (.ref r) H'
section
variable {P : Program} {w : World} {K : PySem.W.Frag} {mg : Str → Option Value} {base : Heap} {f : Addr} {fd : FuncData}
theorem scAt : FnScope ["_law_script", "_law_k"] ["_law_script", "_law_k"] (defScope sAt) := ⟨rfl, rfl, rfl, by decide +kernel, rfl, by decide +kernel, by decide +kernel⟩
theorem ok_at (Fn : Fun K "_law_at" "_law_at" sAt f fd) : FnOk P w K mg base CX0 1 f fd ["_law_script", "_law_k"] (spAt K) := by
  refine Fn.ok scAt (fun vs H Q E h => ?_) (fun cdv A outer s H vs Q E hr h => ?_)
  · obtain ⟨a, ns, k, rfl, _⟩ := h
    rfl
  obtain ⟨a, ns, k, rfl, h0, hS, q⟩ := h
  refine ⟨_, pss_one (ps_ret (pe_ix ix_list (pe_op op_cat (pe_slice sl_list (pv 0) (po_some (pv 1)) (po_some (pe_op op_add (pv 1) pe_int))) (pe_lst (pa_cons pe_int pa_nil))) pe_int (fun _ _ => rfl))), ?_⟩
  refine ⟨_, rfl, _, rfl, _, rfl, _, rfl, _, _, rfl, rfl, _, rfl, a, _, rfl, hS, fun p hp => ?_⟩
  refine ⟨(by show 1 ≤ sizeLine; exact small (by decide)), fun l hl => ?_⟩
  have hpl : p ≠ l := ne_of_none upd_same hl
  have hz : (cutV (ns.map V.int) (some k) (some (k + 1))).length + 1 ≤ sizeLine := by
    obtain ⟨j, rfl⟩ := Int.eq_ofNat_of_zero_le h0
    have e : ((j : Int) + 1) = ((j + 1 : Nat) : Int) := by push_cast; rfl
    unfold cutV
    rw [e, HT.sIx_nat, HT.sIx_nat, List.length_take, List.length_drop]
    exact small (by omega)
  refine ⟨p, l, _, _, rfl, rfl, (by rw [upd_ne hpl, upd_same]), upd_same, hz, fun r hr' => ?_⟩
  refine ⟨r, _, _, _, rfl, rfl, SqL.of upd_same, cut_at ns k h0, ?_⟩
  exact q _ ((same_new hp _).trans ((same_new hl _).trans (same_new hr' _)))
theorem scV : FnScope ["_law_cell", "_law_number"] ["_law_cell"] (defScope sValue) := ⟨rfl, rfl, rfl, by decide +kernel, rfl, by decide +kernel, by decide +kernel⟩
theorem ten60 : (0 : Int) < 10 ^ (60 : Int).toNat := by decide +kernel
theorem ok_value (Fn : Fun K "_law_value" "_law_value" sValue f fd) : FnOk P w K mg base CX0 1 f fd ["_law_cell"] spValue := by
  refine Fn.ok scV (fun vs H Q E h => ?_) (fun cdv A outer s H vs Q E hr h => ?_)
  · obtain ⟨c, rfl, _⟩ := h
    rfl
  obtain ⟨c, rfl, q⟩ := h
  refine ⟨_, pss_cons (ps_if (pt_cmpR op_lt (pe_op op_mod (pv 0) pe_int) pe_int (nomark _)) (pss_one (ps_ret (pe_op op_sub (pe_op op_mod (pe_op op_fdiv (pv 0) pe_int) pe_int) pe_int))) pss_nil)
    (pss_cons (ps_set (i := 1) scV.nd rfl (Or.inl rfl) (pe_op op_mod (pe_op op_fdiv (pv 0) pe_int) (pe_op op_pow pe_int pe_int)))
    (pss_cons (ps_if (pt_cmpR op_eq (pe_op op_mod (pe_op op_fdiv (pv 0) pe_int) pe_int) pe_int (nomark _)) (pss_one (ps_set (i := 1) scV.nd rfl (Or.inl rfl) (pe_op op_sub (pe_op op_pow pe_int pe_int) pe_int))) pss_nil)
    (pss_cons (ps_if (pt_cmpR op_eq (pe_op op_mod (pe_op op_fdiv (pv 0) pe_int) pe_int) pe_int (nomark _)) (pss_one (ps_ret (pe_un un_neg (pv 1)))) pss_nil)
    (pss_one (ps_ret (pv 1)))))), ?_⟩
  refine ⟨_, rfl, _, _, rfl, rfl, (by show (0 : Int) < 3; decide), _, _, rfl, rfl, _, rfl, ?_⟩
  refine ite2 (fun _ => ?_) (fun _ => ?_)
  · exact ⟨_, rfl, _, _, rfl, rfl, ⟨by decide, by decide⟩, _, _, rfl, rfl, (by show (0 : Int) < 10; decide), _, _, rfl, rfl, q _⟩
  refine ⟨_, rfl, _, _, rfl, rfl, ⟨by decide, by decide⟩, _, _, rfl, rfl, ⟨by decide, by decide, by decide⟩, _, _, rfl, rfl, ten60, ?_⟩
  refine ⟨_, rfl, _, _, rfl, rfl, ⟨by decide, by decide⟩, _, _, rfl, rfl, (by show (0 : Int) < 5; decide), rfl, _, rfl, ?_⟩
  refine ite2 (fun _ => ?_) (fun _ => ?_)
  · refine ⟨_, _, rfl, rfl, ⟨by decide, by decide, by decide⟩, _, _, rfl, rfl, ?_⟩
    refine ⟨_, rfl, _, _, rfl, rfl, ⟨by decide, by decide⟩, _, _, rfl, rfl, (by show (0 : Int) < 2; decide), rfl, _, rfl, ?_⟩
    refine ite2 (fun _ => ?_) (fun _ => ?_)
    · exact ⟨_, rfl, _, rfl, q _⟩
    · exact ⟨_, rfl, q _⟩
  · refine ⟨_, rfl, _, _, rfl, rfl, ⟨by decide, by decide⟩, _, _, rfl, rfl, (by show (0 : Int) < 2; decide), rfl, _, rfl, ?_⟩
    refine ite2 (fun _ => ?_) (fun _ => ?_)
    · exact ⟨_, rfl, _, rfl, q _⟩
    · exact ⟨_, rfl, q _⟩
theorem scN : FnScope ["_law_cell", "_law_letters", "_law_base", "_law_k", "_law_at_here", "_law_names_here", "_law_sign", "_law_one"] ["_law_cell"] (defScope sNames) := ⟨rfl, rfl, rfl, by decide +kernel, rfl, by decide +kernel, by decide +kernel⟩
theorem ok_names (Fn : Fun K "_law_names" "_law_names" sNames f fd) (T : Txt mg) : FnOk P w K mg base CX0 1 f fd ["_law_cell"] spNames := by
  refine Fn.ok scN (fun vs H Q E h => ?_) (fun cdv A outer s H vs Q E hr h => ?_)
  · obtain ⟨c, rfl, _⟩ := h
    rfl
  obtain ⟨c, rfl, q⟩ := h
  refine ⟨_, pss_cons (ps_set (i := 1) scN.nd rfl (Or.inl rfl) pe_str)
    (pss_cons (ps_set (i := 2) scN.nd rfl (Or.inl rfl) pe_str)
    (pss_cons (ps_for PassesOwn.never rfl (pi_range1 rfl T.range (pa_cons (pe_op op_mod (pv 0) pe_int) pa_nil)) (pg_name (i := 3) scN.nd rfl (Or.inl rfl))
      (pss_one (ps_set (i := 2) scN.nd rfl (Or.inl rfl) (pe_op op_add_str (pv 2) (pe_ix ix_str (pv 1) (pe_op op_mod (pe_op op_fdiv (pv 0) (pe_op op_add (pe_op op_mul pe_int (pv 3)) pe_int)) pe_int) (fun _ _ => rfl))))))
    (pss_cons (ps_set (i := 4) scN.nd rfl (Or.inl rfl) (pe_op op_mod (pe_op op_fdiv (pv 0) pe_int) (pe_op op_add (pe_callB call_len_str rfl T.len PySem.boot_len (pa_cons (pv 2) pa_nil)) pe_int)))
    (pss_cons (ps_set (i := 5) scN.nd rfl (Or.inl rfl) (pe_lst pa_nil))
    (pss_cons (ps_for PassesOwn.never rfl (pi_range1 rfl T.range (pa_cons pe_int pa_nil)) (pg_name (i := 3) scN.nd rfl (Or.inl rfl))
      (pss_cons (ps_set (i := 6) scN.nd rfl (Or.inl rfl) (pe_ix ix_str (pv 1) (pe_op op_mod (pe_op op_add (pe_op op_fdiv (pv 0) pe_int) (pe_op op_mul pe_int (pv 3))) pe_int) (fun _ _ => rfl)))
      (pss_cons (ps_set (i := 7) scN.nd rfl (Or.inl rfl) (pe_op op_add_str (pe_op op_add_str (pe_slice sl_str (pv 2) po_none (po_some (pv 4))) (pv 6)) (pe_slice sl_str (pv 2) (po_some (pv 4)) po_none)))
      (pss_one (ps_expr (pe_bm PySem.F.plainAttrs_list PySem.F.slot_list_append PySem.F.type_list_append mt_append (pv 5)
        (pa_cons (pe_ix ix_list (pe_lst (pa_cons (pv 7) (pa_cons (pe_op op_add_str (pe_slice sl_str (pv 2) po_none (po_some pe_int)) (pe_slice sl_str pe_str (po_some (pv 3)) po_none)) pa_nil))) (pe_op op_mod (pe_op op_fdiv (pv 0) pe_int) pe_int) (fun _ _ => rfl)) pa_nil)))))))
    (pss_one (ps_ret (pv 5)))))))), ?_⟩
  have c0 : 0 ≤ c % 7 := Int.emod_nonneg _ (by decide)
  have c1 : c % 7 < 7 := Int.emod_lt_of_pos _ (by decide)
  refine ⟨_, rfl, _, _, rfl, rfl, (by show (0 : Int) < 7; decide), _, rfl, by omega, by omega, for_range (lo := 0) (n := (c % 7).toNat) (fun i σ H2 => H2 = H ∧ ∃ (b : Str) (u : Option V), σ = [some (.int c), some (.str lets), some (.str b), u, none, none, none, none] ∧ b.length = i)
    ⟨rfl, _, none, rfl, rfl⟩ ?_ ?_⟩
  · rintro i σ H2 hi ⟨rfl, b, u, rfl, hb⟩
    refine ⟨_, rfl, _, rfl, _, rfl, _, rfl, _, _, rfl, rfl, .inl ⟨by decide, by decide⟩, _, _, rfl, rfl, _, _, rfl, rfl, ⟨by omega, by omega⟩, _, _, rfl, rfl, (by show (0 : Int) < 26; decide), _, _, _, rfl, rfl, lets_small, at26 _, _, _, rfl, rfl, ?_, ?_⟩
    · show b.length + 1 ≤ sizeLine
      exact small (by omega)
    · refine ⟨rfl, _, _, rfl, ?_⟩
      rw [len_app, hb]
      rfl
  rintro σ H2 ⟨rfl, b, u, rfl, hb⟩
  have bz : b.length ≤ 6 := by omega
  refine ⟨_, rfl, _, _, rfl, rfl, ⟨by decide, by decide⟩, _, rfl, _, rfl, small (by omega), _, _, rfl, rfl, _, _, rfl, rfl, (by show (0 : Int) < (b.length : Int) + 1; omega), ?_⟩
  refine ⟨small (by decide), fun r hr' => ?_⟩
  obtain ⟨at', hat⟩ : ∃ z : Int, z = c / 14 % ((b.length : Int) + 1) := ⟨_, rfl⟩
  have sl1 : (Txt.slice b none (some at')).length ≤ 6 := Nat.le_trans (Txt.slice_le _ _ _) bz
  have sl2 : (Txt.slice b (some at') none).length ≤ 6 := Nat.le_trans (Txt.slice_le _ _ _) bz
  have sl3 : (Txt.slice b none (some 3)).length ≤ 6 := Nat.le_trans (Txt.slice_le _ _ _) bz
  refine ⟨_, rfl, by decide, by decide, for_range (lo := 0) (n := 4) (fun i σ H3 => ∃ (u v t : Option V), σ = [some (.int c), some (.str lets), some (.str b), u, some (.int at'), some (.ref r), v, t] ∧ Same H2 H3 ∧ H3 r = some (.lst (((List.range i).map (nm c b at')).map V.str)))
    ⟨u, none, none, (by rw [hat]; rfl), same_new hr' _, upd_same⟩ ?_ ?_⟩
  · rintro i σ H3 hi ⟨u, v, t, rfl, s3, h3⟩
    refine ⟨_, rfl, _, rfl, _, _, rfl, rfl, ⟨by decide, by decide⟩, _, rfl, _, _, rfl, rfl, .inl ⟨by decide, by decide⟩, _, _, rfl, rfl, _, _, rfl, rfl, (by show (0 : Int) < 26; decide), _, _, _, rfl, rfl, lets_small, at26 _, ?_⟩
    have dz : (Txt.slice ("uuuu" : Str) (some (0 + (i : Int))) none).length ≤ 4 := by rw [dd_len i hi]; omega
    refine ⟨_, rfl, _, rfl, _, rfl, _, rfl, small (by omega), _, rfl, _, _, rfl, rfl, ?_, _, rfl, _, rfl, _, rfl, _, rfl, small (by omega), _, _, rfl, rfl, ?_, ?_⟩
    · show _ + 1 ≤ sizeLine
      exact small (by omega)
    · rw [len_app]
      show _ + 1 + _ ≤ sizeLine
      exact small (by omega)
    refine ⟨_, rfl, .inl ⟨rfl, _, SqL.of h3⟩, _, rfl, _, rfl, _, rfl, _, rfl, small (by omega), _, rfl, _, rfl, _, rfl, small (by decide +kernel), _, _, rfl, rfl, small (by omega), (by show 2 ≤ sizeLine; exact small (by decide)), fun l2 hl2 => ?_⟩
    refine ⟨_, rfl, _, _, rfl, rfl, ⟨by decide, by decide⟩, _, _, rfl, rfl, (by show (0 : Int) < 2; decide), l2, _, _, _, rfl, rfl, SqL.of upd_same, at2 c _ _, ?_⟩
    have nrl : r ≠ l2 := ne_of_none h3 hl2
    refine ⟨r, _, _, rfl, rfl, (by rw [upd_ne nrl]; exact h3), ?_, _, _, _, rfl, same_upd ((s3.trans (same_new hl2 _))) hr' _, ?_⟩
    · rw [List.length_map, List.length_map, List.length_range]
      exact small1000 (by omega)
    · rw [upd_same, List.range_succ, List.map_append, List.map_append]
      show some (HO.lst (_ ++ [_])) = some (HO.lst (_ ++ [V.str (nm c b at' i)]))
      unfold nm
      split <;> rfl
  · rintro σ H3 ⟨u, v, t, rfl, s3, h3⟩
    exact ⟨_, rfl, q r H3 _ s3 h3 (by rw [List.length_map, List.length_range]) (nm_nodup c b at')⟩
theorem nd2 {x y : Str} (h : x ≠ y) : ([x, y] : List Str).Nodup := by simp [h]
theorem lcg_rangeR {lo : Int} {n : Nat} {D : Addr} {g : TG} {tt : TT} {te : TE} {R : Hp → Prop} {σ0 : St} {H1 : Hp} (Pv : Nat → St → Hp → Prop) (h0 : Pv 0 σ0 (upd H1 D (.lst [])))
    (hs : ∀ i σ H, i < n → Pv i σ H → g (.int (lo + i)) σ H fun σ3 H3 => tt σ3 H3 fun b H4 => if b = true then te σ3 H4 fun y H5 => ∃ zs, H5 D = some (.lst zs) ∧ zs.length < sizeLine ∧ Pv (i + 1) σ3 (upd H5 D (.lst (zs ++ [y]))) else Pv (i + 1) σ3 H4) (hd : ∀ σ H, Pv n σ H → R H) :
    ∃ W : Nat → Nat → St → Hp → Prop, (∃ m, W 0 m σ0 (upd H1 D (.lst []))) ∧ ∀ i m σ' H', W i m σ' H' →
      ((Itr lo n).stop i H' ∧ R H') ∨ ((Itr lo n).go i H' ∧ ∃ N : St → Hp → Prop, (∀ σ2 H2, N σ2 H2 → ∃ m', m' < m ∧ W (i + 1) m' σ2 H2) ∧
        ∀ x H2, (Itr lo n).yld i H' x H2 → g x σ' H2 fun σ3 H3 => tt σ3 H3 fun b H4 => if b = true then te σ3 H4 fun y H5 => ∃ zs, H5 D = some (.lst zs) ∧ zs.length < sizeLine ∧ N σ3 (upd H5 D (.lst (zs ++ [y]))) else N σ3 H4) :=
  lcg_range (Q := fun _ H => R H) Pv h0 hs hd
theorem at4 (a b c d : Int) (z : Int) : ∃ x, (x = a ∨ x = b ∨ x = c ∨ x = d) ∧ atI [V.int a, V.int b, V.int c, V.int d] (z / 8 % 4) = some (V.int x) := by
  have h : z / 8 % 4 = 0 ∨ z / 8 % 4 = 1 ∨ z / 8 % 4 = 2 ∨ z / 8 % 4 = 3 := by omega
  rcases h with h | h | h | h <;> rw [h]
  · exact ⟨a, .inl rfl, rfl⟩
  · exact ⟨b, .inr (.inl rfl), rfl⟩
  · exact ⟨c, .inr (.inr (.inl rfl)), rfl⟩
  · exact ⟨d, .inr (.inr (.inr rfl)), rfl⟩
theorem ins_perm {α : Type} (l : List α) (p : Nat) (x : α) : (l.take p ++ x :: l.drop p).Perm (l ++ [x]) := by
  have h1 : (l.take p ++ x :: l.drop p).Perm (x :: (l.take p ++ l.drop p)) := List.perm_middle
  rw [List.take_append_drop] at h1
  exact h1.trans (List.perm_append_singleton x l).symm
theorem scGp : FnScope ["_law_script", "_law_names_here", "_law_gaps_here", "_law_many", "_law_k"] ["_law_script"] (defScope sGaps) := ⟨rfl, rfl, rfl, by decide +kernel, rfl, by decide +kernel, by decide +kernel⟩
theorem ok_gaps (Fn : Fun K "_law_gaps" "_law_gaps" sGaps f fd) (T : Txt mg) (C1 : Cal P w K mg base "_law_at" 1 ["_law_script", "_law_k"] (spAt K)) (C2 : Cal P w K mg base "_law_names" 1 ["_law_cell"] spNames) : FnOk P w K mg base CX0 2 f fd ["_law_script"] (spGaps K) := by
  obtain ⟨f1, d1, G1, b1, k1, m1⟩ := C1
  obtain ⟨f2, d2, G2, b2, k2, m2⟩ := C2
  refine Fn.ok scGp (fun vs H Q E h => ?_) (fun cdv A outer s H vs Q E hr h => ?_)
  · obtain ⟨a, ns, rfl, _⟩ := h
    rfl
  obtain ⟨a, ns, rfl, hS, q⟩ := h
  refine ⟨_, pss_cons (ps_set (i := 1) scGp.nd rfl (Or.inl rfl) (pe_call G2 hr rfl m2 k2 b2 .nil pass0 (pa_cons (pe_call G1 hr rfl m1 k1 b1 .nil pass0 (pa_cons (pv 0) (pa_cons pe_int pa_nil))) pa_nil)))
    (pss_cons (ps_set (i := 2) scGp.nd rfl (Or.inl rfl) (pe_lst pa_nil))
    (pss_cons (ps_set (i := 3) scGp.nd rfl (Or.inl rfl) (pe_op op_mod (pe_call G1 hr rfl m1 k1 b1 .nil pass0 (pa_cons (pv 0) (pa_cons pe_int pa_nil))) pe_int))
    (pss_cons (ps_if (pt_cmpR op_eq (pe_op op_mod (pe_call G1 hr rfl m1 k1 b1 .nil pass0 (pa_cons (pv 0) (pa_cons pe_int pa_nil))) pe_int) pe_int (nomark _))
      (pss_one (ps_set (i := 3) scGp.nd rfl (Or.inl rfl) (pe_ix ix_list (pe_lst (pa_cons pe_int (pa_cons pe_int (pa_cons pe_int (pa_cons pe_int pa_nil))))) (pe_op op_mod (pe_op op_fdiv (pe_call G1 hr rfl m1 k1 b1 .nil pass0 (pa_cons (pv 0) (pa_cons pe_int pa_nil))) pe_int) pe_int) (fun _ _ => rfl)))) pss_nil)
    (pss_cons (ps_for PassesOwn.never rfl (pi_range1 rfl T.range (pa_cons (pv 3) pa_nil)) (pg_name (i := 4) scGp.nd rfl (Or.inl rfl))
      (pss_one (ps_expr (pe_bm PySem.F.plainAttrs_list PySem.F.slot_list_insert PySem.F.type_list_insert mt_insert (pv 2)
        (pa_cons (pe_op op_mod (pe_op op_fdiv (pe_call G1 hr rfl m1 k1 b1 .nil pass0 (pa_cons (pv 0) (pa_cons pe_int pa_nil))) (pe_op op_add (pe_op op_mul pe_int (pv 4)) pe_int)) (pe_op op_add (pv 4) pe_int))
          (pa_cons (pe_ix ix_list (pv 1) (pv 4) (fun _ _ => rfl)) pa_nil))))))
    (pss_one (ps_ret (pv 2))))))), ?_⟩
  refine ⟨_, rfl, a, ns, 0, rfl, by decide, hS, fun H1 s1 => ⟨_, rfl, fun nr H2 names s2 h2 nl nn => ?_⟩⟩
  have s12 := s1.trans s2
  refine ⟨small (by decide), fun r hr' => ?_⟩
  have s3 := s12.trans (same_new hr' (.lst []))
  refine ⟨_, rfl, a, ns, 1, rfl, by decide, s3.seq hS, fun H4 s4 => ⟨_, _, rfl, rfl, (by show (0 : Int) < 5; decide), ?_⟩⟩
  have s34 := s3.trans s4
  refine ⟨_, rfl, a, ns, 2, rfl, by decide, s34.seq hS, fun H5 s5 => ⟨_, _, rfl, rfl, (by show (0 : Int) < 8; decide), rfl, _, rfl, ?_⟩⟩
  have s35 := s34.trans s5
  have hn5 : H5 nr = some (.lst (names.map V.str)) := s5 _ _ (s4 _ _ ((same_new hr' _) _ _ h2))
  have hr5 : H5 r = some (.lst []) := s5 _ _ (s4 _ _ upd_same)
  have nrr : nr ≠ r := ne_of_none h2 hr'
  have rH : H r = none := s12.free hr'
  refine ite2 (fun _ => ?g1) (fun _ => ?g2)
  case' g1 =>
    refine ⟨(by show 4 ≤ sizeLine; exact small (by decide)), fun l hl => ?_⟩
    have s6 := s35.trans (same_new hl (.lst [.int 2, .int 2, .int 3, .int 3]))
    refine ⟨_, rfl, a, ns, 2, rfl, by decide, s6.seq hS, fun H6 s6' => ⟨_, _, rfl, rfl, ⟨by decide, by decide⟩, _, _, rfl, rfl, (by show (0 : Int) < 4; decide), ?_⟩⟩
    obtain ⟨many, hm, hat⟩ := at4 2 2 3 3 (ns.getD (Int.toNat 2) 0)
    refine ⟨l, _, _, _, rfl, rfl, SqL.of (s6' _ _ upd_same), hat, ?_⟩
    have hm0 : 0 ≤ many := by omega
    have hm1 : many ≤ 4 := by omega
    have sX : Same H H6 := s6.trans s6'
    have hnX : H6 nr = some (.lst (names.map V.str)) := s6' _ _ ((same_new hl _) _ _ hn5)
    have hrX : H6 r = some (.lst []) := s6' _ _ ((same_new hl _) _ _ hr5)
    clear hat hm s6 s6'
  case' g2 =>
    obtain ⟨many, hm⟩ : ∃ m : Int, m = ns.getD (Int.toNat 1) 0 % 5 := ⟨_, rfl⟩
    have hm0 : 0 ≤ many := by omega
    have hm1 : many ≤ 4 := by omega
    dsimp only [tNext]
    rw [← hm]
    obtain ⟨H6, hH6⟩ : ∃ h : Hp, h = H5 := ⟨_, rfl⟩
    have sX : Same H H6 := hH6 ▸ s35
    have hnX : H6 nr = some (.lst (names.map V.str)) := hH6 ▸ hn5
    have hrX : H6 r = some (.lst []) := hH6 ▸ hr5
    rw [← hH6]
    clear hm hH6
  all_goals
    refine ⟨_, rfl, _, rfl, by omega, by omega, for_range (lo := 0) (n := many.toNat) (fun i σ H7 => ∃ (gs : List Str) (u : Option V), σ = [some (.ref a), some (.ref nr), some (.ref r), some (.int many), u] ∧ Same H H7 ∧ H7 nr = some (.lst (names.map V.str)) ∧ H7 r = some (.lst (gs.map V.str)) ∧ gs.Perm (names.take i))
      ⟨[], none, rfl, sX, hnX, hrX, .nil⟩ ?_ ?_⟩
    · rintro i σ H7 hi ⟨gs, u, rfl, s7, h7n, h7r, pm⟩
      have hin : i < names.length := by omega
      have gl : gs.length = i := by rw [pm.length_eq, List.length_take]; omega
      refine ⟨_, rfl, .inl ⟨rfl, _, SqL.of h7r⟩, _, rfl, a, ns, 1, rfl, by decide, s7.seq hS, fun H8 s8 => ?_⟩
      refine ⟨_, rfl, _, _, rfl, rfl, .inl ⟨by decide, by decide⟩, _, _, rfl, rfl, _, _, rfl, rfl, ⟨by omega, by omega⟩, _, rfl, _, _, rfl, rfl, _, _, rfl, rfl, (by omega), _, rfl, _, rfl, nr, _, _, V.str names[i], rfl, rfl, SqL.of (s8 _ _ h7n), ?_, ?_⟩
      · rw [Int.zero_add]
        exact atI_nat (by rw [List.getElem?_map, List.getElem?_eq_getElem hin]; rfl)
      · obtain ⟨p, hp⟩ : ∃ p : Int, p = ns.getD (Int.toNat 1) 0 / (5 * (0 + (i : Int)) + 5) % (0 + (i : Int) + 1) := ⟨_, rfl⟩
        have p0 : 0 ≤ p := by rw [hp]; exact Int.emod_nonneg _ (by omega)
        have p1 : p < 0 + (i : Int) + 1 := by rw [hp]; exact Int.emod_lt_of_pos _ (by omega)
        obtain ⟨j, hj⟩ := Int.eq_ofNat_of_zero_le p0
        refine ⟨r, _, j, V.str names[i], rfl, ?_, s8 _ _ h7r, ?_, ?_, gs.take j ++ names[i] :: gs.drop j, _, rfl, same_upd (s7.trans s8) rH _, ?_, ?_, ?_⟩
        · show [V.int (ns.getD (Int.toNat 1) 0 / (5 * (0 + (i : Int)) + 5) % (0 + (i : Int) + 1)), V.str names[i]] = _
          rw [← hp, hj]
        · rw [List.length_map]; omega
        · rw [List.length_map]; omega
        · rw [upd_ne nrr]; exact s8 _ _ h7n
        · rw [upd_same, List.map_append, List.map_take, List.map_cons, List.map_drop]
        · rw [List.take_add_one, List.getElem?_eq_getElem hin]
          exact (ins_perm gs j names[i]).trans (pm.append_right [names[i]])
    · rintro σ H7 ⟨gs, u, rfl, s7, h7n, h7r, pm⟩
      refine ⟨_, rfl, q r H7 gs s7 h7r ?_ ?_ rH⟩
      · exact pm.nodup_iff.mpr (nn.sublist (List.take_sublist _ _))
      · rw [pm.length_eq, List.length_take]; omega
theorem scVs : FnScope ["_law_script", "_law_values_here", "_law_many", "_law_k", "_law_value_here"] ["_law_script"] (defScope sValues) := ⟨rfl, rfl, rfl, by decide +kernel, rfl, by decide +kernel, by decide +kernel⟩
theorem run_nodup (c : Int) (n : Nat) : ((List.range n).map fun i : Nat => c + (0 + (i : Int))).Nodup :=
  nodup_map List.nodup_range fun x _ y _ e => by have e' : c + (0 + (x : Int)) = c + (0 + (y : Int)) := e; omega
theorem ok_values (Fn : Fun K "_law_values" "_law_values" sValues f fd) (T : Txt mg) (C1 : Cal P w K mg base "_law_at" 1 ["_law_script", "_law_k"] (spAt K)) (C2 : Cal P w K mg base "_law_value" 1 ["_law_cell"] spValue) : FnOk P w K mg base CX0 2 f fd ["_law_script"] (spValues K) := by
  obtain ⟨f1, d1, G1, b1, k1, m1⟩ := C1
  obtain ⟨f2, d2, G2, b2, k2, m2⟩ := C2
  refine Fn.ok scVs (fun vs H Q E h => ?_) (fun cdv A outer s H vs Q E hr h => ?_)
  · obtain ⟨a, ns, rfl, _⟩ := h
    rfl
  obtain ⟨a, ns, rfl, hS, q⟩ := h
  refine ⟨_, pss_cons (ps_set (i := 1) scVs.nd rfl (Or.inl rfl) (pe_lst pa_nil))
    (pss_cons (ps_if (pt_cmpR op_eq (pe_op op_mod (pe_call G1 hr rfl m1 k1 b1 .nil pass0 (pa_cons (pv 0) (pa_cons pe_int pa_nil))) pe_int) pe_int (nomark _))
      (pss_cons (ps_set (i := 2) scVs.nd rfl (Or.inl rfl) (pe_ix ix_list (pe_lst (pa_cons pe_int (pa_cons pe_int (pa_cons pe_int (pa_cons pe_int pa_nil))))) (pe_op op_mod (pe_op op_fdiv (pe_call G1 hr rfl m1 k1 b1 .nil pass0 (pa_cons (pv 0) (pa_cons pe_int pa_nil))) pe_int) pe_int) (fun _ _ => rfl)))
      (pss_one (ps_ret (pe_lcG (caps := [("_law_script", 0)]) ["_law_k"] rfl (pi_range1 rfl T.range (pa_cons (pv 2) pa_nil)) ⟨rfl, by decide +kernel, by decide +kernel, rfl, .cons rfl (.inl rfl) rfl .nil, rfl, rfl, rfl⟩
        (fun s H ex => pg_name (X := cxLG _ _ _ _ s H ex) (i := 0) (nd2 (by decide)) rfl (Or.inl rfl) (.inr rfl)) (fun s H ex => pif_nil)
        (fun s H ex => pe_op op_add (pe_op op_sub (pe_op op_mod (pe_call (X := cxLG _ _ _ _ s H ex) G1 hr rfl m1 k1 b1 .nil pass0 (pa_cons (pe_var (X := cxLG _ _ _ _ s H ex) (i := 1) rfl (Or.inr (Or.inl rfl))) (pa_cons pe_int pa_nil))) pe_int) pe_int) (pe_var (X := cxLG _ _ _ _ s H ex) (i := 0) rfl (Or.inl rfl))))))) pss_nil)
    (pss_cons (ps_for PassesOwn.never rfl (pi_range1 rfl T.range (pa_cons (pe_op op_mod (pe_op op_fdiv (pe_call G1 hr rfl m1 k1 b1 .nil pass0 (pa_cons (pv 0) (pa_cons pe_int pa_nil))) pe_int) pe_int) pa_nil)) (pg_name (i := 3) scVs.nd rfl (Or.inl rfl))
      (pss_cons (ps_set (i := 4) scVs.nd rfl (Or.inl rfl) (pe_call G2 hr rfl m2 k2 b2 .nil pass0 (pa_cons (pe_call G1 hr rfl m1 k1 b1 .nil pass0 (pa_cons (pv 0) (pa_cons (pe_op op_add pe_int (pv 3)) pa_nil))) pa_nil)))
      (pss_one (ps_if (pt_cmpR op_notIn_seq (pv 4) (pv 1) rfl) (pss_one (ps_expr (pe_bm PySem.F.plainAttrs_list PySem.F.slot_list_append PySem.F.type_list_append mt_append (pv 1) (pa_cons (pv 4) pa_nil)))) pss_nil))))
    (pss_one (ps_ret (pv 1))))), ?_⟩
  refine ⟨small (by decide), fun r hr' => ?_⟩
  refine ⟨_, rfl, a, ns, 2, rfl, by decide, (same_new hr' _).seq hS, fun H1 s1 => ⟨_, _, rfl, rfl, (by show (0 : Int) < 8; decide), rfl, _, rfl, ?_⟩⟩
  have sA : Same H H1 := (same_new hr' (.lst [])).trans s1
  refine ite2 (fun _ => ?_) (fun _ => ?_)
  · refine ⟨(by show 4 ≤ sizeLine; exact small (by decide)), fun l hl => ?_⟩
    have s6 := sA.trans (same_new hl (.lst [.int 30, .int 31, .int 8, .int 9]))
    refine ⟨_, rfl, a, ns, 2, rfl, by decide, s6.seq hS, fun H6 s6' => ⟨_, _, rfl, rfl, ⟨by decide, by decide⟩, _, _, rfl, rfl, (by show (0 : Int) < 4; decide), ?_⟩⟩
    obtain ⟨many, hm, hat⟩ := at4 30 31 8 9 (ns.getD (Int.toNat 2) 0)
    refine ⟨l, _, _, _, rfl, rfl, SqL.of (s6' _ _ upd_same), hat, ?_⟩
    have s7 := s6.trans s6'
    refine ⟨_, rfl, _, rfl, by omega, by omega, fun D hD => ?_⟩
    refine lcg_rangeR (lo := 0) (n := many.toNat) (fun i σ H3 => ∃ (u : Option V), σ = [u, some (.ref a)] ∧ Same H6 H3 ∧ H3 D = some (.lst (((List.range i).map fun i : Nat => (ns.getD (Int.toNat 3) 0 % 41 - 20) + (0 + (i : Int))).map V.int)))
      ⟨none, rfl, same_new hD _, upd_same⟩ ?_ ?_
    · rintro i σ H3 hi ⟨u, rfl, s3, h3⟩
      refine ⟨_, rfl, a, ns, 3, rfl, by decide, (s7.trans s3).seq hS, fun H4 s4 => ⟨_, _, rfl, rfl, (by show (0 : Int) < 41; decide), _, _, rfl, rfl, _, rfl, _, _, rfl, rfl, _, s4 _ _ h3, ?_, _, rfl, same_upd (s3.trans s4) hD _, ?_⟩⟩
      · rw [List.length_map, List.length_map, List.length_range]; exact small1000 (by omega)
      · rw [upd_same, List.range_succ, List.map_append, List.map_append]
        rfl
    · rintro σ H3 ⟨u, rfl, s3, h3⟩
      exact q D H3 _ (s7.trans s3) h3 (run_nodup _ _) (by rw [List.length_map, List.length_range]; omega) (s7.free hD)
  · refine ⟨_, rfl, a, ns, 2, rfl, by decide, sA.seq hS, fun H5 s5 => ?_⟩
    have s15 := sA.trans s5
    obtain ⟨many, hm⟩ : ∃ m : Int, m = ns.getD (Int.toNat 2) 0 / 8 % 6 := ⟨_, rfl⟩
    have z0 : 0 ≤ many := by omega
    have z1 : many < 6 := by omega
    refine ⟨_, _, rfl, rfl, ⟨by decide, by decide⟩, _, _, rfl, rfl, (by show (0 : Int) < 6; decide), many, (by rw [hm]), by omega, by omega, for_range (lo := 0) (n := many.toNat) (fun i σ H2 => ∃ (vs : List Int) (u v : Option V), σ = [some (.ref a), some (.ref r), none, u, v] ∧ Same H H2 ∧ H2 r = some (.lst (vs.map V.int)) ∧ vs.Nodup ∧ vs.length ≤ i)
      ⟨[], _, _, rfl, s15, s5 _ _ (s1 _ _ upd_same), List.nodup_nil, Nat.zero_le _⟩ ?_ ?_⟩
    · rintro i σ H2 hi ⟨vs, u, v, rfl, s2, h2, nd, vl⟩
      refine ⟨_, rfl, _, rfl, _, _, rfl, rfl, a, ns, 3 + (0 + (i : Int)), rfl, by omega, s2.seq hS, fun H3 s3 => ?_⟩
      refine ⟨_, rfl, fun z3 => ?_⟩
      refine ⟨_, rfl, _, rfl, r, _, rfl, .inl (SqL.of (s3 _ _ h2)), rfl, flat_ints vs, _, rfl, ?_⟩
      rw [if_pos rfl, inV_ints]
      by_cases hm : z3 ∈ vs
      · rw [decide_eq_true hm]
        exact iteF ⟨vs, _, _, rfl, s2.trans s3, s3 _ _ h2, nd, by omega⟩
      · rw [decide_eq_false hm]
        refine iteT ⟨_, rfl, .inl ⟨rfl, _, SqL.of (s3 _ _ h2)⟩, _, rfl, r, _, _, rfl, rfl, s3 _ _ h2, small1000 (by rw [List.length_map]; omega), vs ++ [z3], _, _, rfl, same_upd (s2.trans s3) hr' _, ?_, ?_, ?_⟩
        · rw [upd_same, List.map_append]
          rfl
        · rw [List.nodup_append]
          refine ⟨nd, by simp, fun x h1 y h2 e => ?_⟩
          have e2 : y = z3 := by simpa using h2
          exact hm (e2 ▸ e ▸ h1)
        · rw [List.length_append, List.length_singleton]; omega
    · rintro σ H2 ⟨vs, u, v, rfl, s2, h2, nd, vl⟩
      exact ⟨_, rfl, q r H2 vs s2 h2 nd (by omega) hr'⟩
end
end K15
set_option maxHeartbeats 4000000
namespace K15
open PySem L2 M16
theorem papp {α β : Type} {R : α → β → Prop} {xs' : List α} {ys' : List β} (h' : Paired R xs' ys') : ∀ {xs : List α} {ys : List β}, Paired R xs ys → Paired R (xs ++ xs') (ys ++ ys')
  | _, _, .nil => h'
  | _, _, .cons r t => .cons r (papp h' t)
theorem Told.same {H H' : Hp} (s : Same H H') {gs : List Str} {ys : List V} {L : List (List Int × Nat)} (h : Told H gs ys L) : Told H' gs ys L := pmap (fun _ _ ⟨d, e1, e2⟩ => ⟨d, e1, s _ _ e2⟩) h
theorem goOn_old {vs R F : List Int} (r : Ris vs R F) {c : List Int} {u : Nat} {x v : Int} (hx : F[u]? = some x) (hv : v ∈ R ++ F.take u) : goOn F (c, u) v = (c ++ [v], u) := by
  obtain ⟨_, h2, h3, _⟩ := r.fr u x hx
  unfold goOn
  dsimp only
  rw [if_neg]
  rw [hx]
  intro e
  have e' : v = x := Option.some.inj e
  subst e'
  rcases List.mem_append.mp hv with z | z
  · exact h2 (r.pm.mem_iff.mp z)
  · exact h3 z
theorem goOn_new {F : List Int} {c : List Int} {u : Nat} {x : Int} (hx : F[u]? = some x) : goOn F (c, u) x = (c ++ [x], u + 1) := by
  unfold goOn
  dsimp only
  rw [if_pos hx.symm]
theorem flat_congr {α β : Type} {f g : α → List β} : ∀ {L : List α}, (∀ a ∈ L, f a = g a) → L.flatMap f = L.flatMap g
  | [], _ => rfl
  | a :: r, h => by rw [List.flatMap_cons, List.flatMap_cons, h a List.mem_cons_self, flat_congr fun b hb => h b (List.mem_cons_of_mem _ hb)]
theorem dueL_split {vs R F : List Int} (r : Ris vs R F) {c : List Int} {u k : Nat} {x : Int} (hx : F[u]? = some x) :
    dueL R F (k + 1) (c, u) = ((R ++ F.take u).flatMap fun v => dueL R F k (c ++ [v], u)) ++ dueL R F k (c ++ [x], u + 1) := by
  show (R ++ F.take (u + 1)).flatMap (fun v => dueL R F k (goOn F (c, u) v)) = _
  rw [List.take_add_one, hx, ← List.append_assoc, List.flatMap_append]
  congr 1
  · exact flat_congr fun a ha => by rw [goOn_old r hx ha]
  · show List.flatMap _ [x] = _
    rw [List.flatMap_singleton, goOn_new hx]
theorem cut_tail (gs : List Str) : cutV (gs.map V.str) (some 1) none = gs.tail.map V.str := by
  unfold cutV
  have e : (1 : Int) = ((1 : Nat) : Int) := rfl
  rw [e, HT.sIx_nat, HT.sIx_none, List.length_map]
  cases gs with
  | nil => rfl
  | cons g r =>
    have e1 : min 1 (List.length (g :: r)) = 1 := by rw [List.length_cons]; omega
    rw [e1, List.map_cons, List.drop_succ_cons, List.drop_zero, List.length_cons, Nat.add_sub_cancel, List.tail_cons, List.take_of_length_le (by rw [List.length_map]; omega)]
def spNext (K : PySem.W.Frag) : Sp := fun args H Q _ => ∃ (b m : Addr) (vs new : List Int) (x : Int), args = [.ref b, .ref m] ∧ SqL K H b (vs.map V.int) ∧ SqL K H m (new.map V.int) ∧ 0 ≤ x ∧ x ∉ vs ∧ x ∉ new ∧ (∀ k, 0 ≤ k → k < x → k ∈ vs ∨ k ∈ new) ∧ Q (.int x) H
def spDue (K : PySem.W.Frag) (n : Nat) : Sp := fun args H Q _ => ∃ (a b d m : Addr) (gs1 gs2 : List Str) (vs R F c : List Int) (u : Nat), args = [.ref a, .ref b, .ref d, .ref m] ∧ SqL K H a (gs2.map V.str) ∧ SqL K H b (vs.map V.int) ∧ H d = some (.dK (dictOf gs1 c)) ∧ H m = some (.lst ((F.take u).map V.int)) ∧
  gs1.length = c.length ∧ (gs1 ++ gs2).Nodup ∧ gs2.length ≤ n ∧ Ris vs R F ∧ u + gs2.length ≤ F.length ∧ vs.length ≤ 31 ∧ gs1.length + gs2.length ≤ 4 ∧ F.length ≤ 4 ∧ (dueL R F gs2.length (c, u)).length ≤ 1000 ∧
  ∀ (z : Addr) (H' : Hp) (zs : List V), Same H H' → H z = none → (∀ y ∈ zs, ∃ d', y = V.ref d' ∧ (d' = d ∨ H d' = none)) → H' z = some (.lst zs) → Told H' (gs1 ++ gs2) zs (dueL R F gs2.length (c, u)) → Q (.ref z) H'
section
variable {P : Program} {w : World} {K : PySem.W.Frag} {mg : Str → Option Value} {base : Heap} {f : Addr} {fd : FuncData}
theorem scNx : FnScope ["_law_values_here", "_law_new", "_law_number"] ["_law_values_here", "_law_new"] (defScope sNext) := ⟨rfl, rfl, rfl, by decide +kernel, rfl, by decide +kernel, by decide +kernel⟩
theorem ok_next (Fn : Fun K "_law_next" "_law_next" sNext f fd) : FnOk P w K mg base CX0 1 f fd ["_law_values_here", "_law_new"] (spNext K) := by
  refine Fn.ok scNx (fun vs H Q E h => ?_) (fun cdv A outer s H vs Q E hr h => ?_)
  · obtain ⟨b, m, vs, new, x, rfl, _⟩ := h
    rfl
  obtain ⟨b, m, vs, new, x, rfl, hB, hM, x0, x1, x2, x3, q⟩ := h
  refine ⟨_, pss_cons (ps_set (i := 2) scNx.nd rfl (Or.inl rfl) pe_int)
    (pss_cons (ps_while PassesOwn.never (PW.pt (pw_or (pt_cmpR op_in_seq (pv 2) (pv 0) rfl) (pw_or1 (pt_cmpR op_in_seq (pv 2) (pv 1) rfl))))
      (pss_one (ps_set (i := 2) scNx.nd rfl (Or.inl rfl) (pe_op op_add (pv 2) pe_int))))
    (pss_one (ps_ret (pv 2)))), ?_⟩
  refine ⟨fun n σ H2 => ∃ k : Int, σ = [some (.ref b), some (.ref m), some (.int k)] ∧ H2 = H ∧ 0 ≤ k ∧ k ≤ x ∧ n = (x - k).toNat, ⟨_, 0, rfl, rfl, Int.le_refl _, x0, rfl⟩, ?_⟩
  rintro n σ H2 ⟨k, rfl, rfl, k0, k1, rfl⟩
  refine ⟨_, rfl, _, rfl, b, _, rfl, .inl hB, rfl, flat_ints vs, _, rfl, ?_⟩
  rw [if_neg (by decide), inV_ints]
  have step : k ≠ x → ∃ N : St → Hp → Prop, (∀ σ' H', N σ' H' → ∃ m', m' < (x - k).toNat ∧ ∃ k' : Int, σ' = [some (.ref b), some (.ref m), some (.int k')] ∧ H' = H2 ∧ 0 ≤ k' ∧ k' ≤ x ∧ m' = (x - k').toNat) ∧ N [some (.ref b), some (.ref m), some (.int (k + 1))] H2 := fun ne =>
    ⟨fun σ' H' => σ' = [some (.ref b), some (.ref m), some (.int (k + 1))] ∧ H' = H2, fun σ' H' e => ⟨(x - (k + 1)).toNat, by omega, k + 1, e.1, e.2, by omega, by omega, rfl⟩, rfl, rfl⟩
  refine ite2 (fun c => ?_) (fun c => ?_)
  · have hk : k ∈ vs := of_decide_eq_true c
    obtain ⟨N, n1, n2⟩ := step fun e => x1 (e ▸ hk)
    exact iteT ⟨N, n1, _, rfl, _, _, rfl, rfl, n2⟩
  · refine ⟨_, rfl, _, rfl, m, _, rfl, .inl hM, rfl, flat_ints new, _, rfl, ?_⟩
    rw [if_neg (by decide), inV_ints]
    refine ite2 (fun c' => ?_) (fun c' => ?_)
    · have hk : k ∈ new := of_decide_eq_true c'
      obtain ⟨N, n1, n2⟩ := step fun e => x2 (e ▸ hk)
      exact ⟨N, n1, _, rfl, _, _, rfl, rfl, n2⟩
    · have e : k = x := by
        rcases Int.lt_or_eq_of_le k1 with z | z
        · rcases x3 k k0 z with y | y
          · exact absurd (decide_eq_true y) c
          · exact absurd (decide_eq_true y) c'
        · exact z
      subst e
      exact ⟨_, rfl, q⟩
end
end K15
set_option maxHeartbeats 4000000
namespace K15
open PySem L2 M16
section
variable {P : Program} {w : World} {K : PySem.W.Frag} {mg : Str → Option Value} {base : Heap} {f : Addr} {fd : FuncData}
theorem scDu : FnScope ["_law_gaps_here", "_law_values_here", "_law_chosen_so", "_law_new", "_law_found", "_law_value_here", "_law_more", "_law_number"] ["_law_gaps_here", "_law_values_here", "_law_chosen_so", "_law_new"] (defScope sDue) := ⟨rfl, rfl, rfl, by decide +kernel, rfl, by decide +kernel, by decide +kernel⟩
theorem at0 (g : Str) (gs : List Str) : atI (List.map V.str (g :: gs)) 0 = some (V.str g) := by
  have z : (0 : Int) = ((0 : Nat) : Int) := rfl
  rw [z]
  exact atI_nat rfl
theorem hu8_of {A : Around} {k : Nat} (hr : Room k A) : A.units + 8 < cLine := by have := hr.units; omega
theorem ok_due0 (Fn : Fun K "_law_due" "_law_due" sDue f fd) : FnOk P w K mg base CX0 2 f fd ["_law_gaps_here", "_law_values_here", "_law_chosen_so", "_law_new"] (spDue K 0) := by
  refine Fn.ok scDu (fun vs H Q E h => ?_) (fun cdv A outer s H vs Q E hr h => ?_)
  · obtain ⟨a, b, d, m, gs1, gs2, vs, R, F, c, u, rfl, _⟩ := h
    rfl
  obtain ⟨a, b, d, m, gs1, gs2, vs, R, F, c, u, rfl, hA, hB, hD, hM, hc, nd, hn, ris, hu, vl, gl, fl, dl, q⟩ := h
  have hu8 := hu8_of hr
  obtain rfl : gs2 = [] := List.eq_nil_of_length_eq_zero (by omega)
  refine ⟨_, pss_cons (ps_if (pt_cmpR (op_eq_nil hu8) (pv 0) (pe_lst pa_nil) (nomark _)) (pss_one (ps_ret (pe_lst (pa_cons (pv 2) pa_nil)))) pss_nil) pss_never, ?_⟩
  refine ⟨_, rfl, small (by decide), fun e he => ⟨a, e, _, rfl, rfl, (same_new he _).seq hA, SqL.of upd_same, _, rfl, iteT ?_⟩⟩
  refine ⟨_, rfl, (by show 1 ≤ sizeLine; exact small (by decide)), fun z hz => ?_⟩
  have s1 : Same H (upd H e (.lst [])) := same_new he _
  refine q z _ [.ref d] (s1.trans (same_new hz _)) (s1.free hz) (fun y hy => ⟨d, by simpa using hy, .inl rfl⟩) upd_same ?_
  rw [List.append_nil]
  exact .cons ⟨d, rfl, (same_new hz _) _ _ (s1 _ _ hD)⟩ .nil
theorem ok_dueS {n : Nat} (Fn : Fun K "_law_due" "_law_due" sDue f fd) (T : Txt mg) (C1 : Cal P w K mg base "_law_next" 1 ["_law_values_here", "_law_new"] (spNext K)) (b2 : Binds K fd ["_law_gaps_here", "_law_values_here", "_law_chosen_so", "_law_new"] []) (k2 : PySem.W.keepIn K (.ref f) = true) (m2 : mg "_law_due" = some (.ref f))
    (G2 : FnOk P w K mg base CX0 (n + 2) f fd ["_law_gaps_here", "_law_values_here", "_law_chosen_so", "_law_new"] (spDue K n)) : FnOk P w K mg base CX0 (n + 3) f fd ["_law_gaps_here", "_law_values_here", "_law_chosen_so", "_law_new"] (spDue K (n + 1)) := by
  obtain ⟨f1, d1, G1, b1, k1, m1⟩ := C1
  refine Fn.ok scDu (fun vs H Q E h => ?_) (fun cdv A outer s H vs Q E hr h => ?_)
  · obtain ⟨a, b, d, m, gs1, gs2, vs, R, F, c, u, rfl, _⟩ := h
    rfl
  obtain ⟨a, b, d, m, gs1, gs2, vs, R, F, c, u, rfl, hA, hB, hD, hM, hc, nd, hn, ris, hu, vl, gl, fl, dl, q⟩ := h
  have hu8 := hu8_of hr
  have hu1 := hu_of hr
  have hr1 : Room 1 _ := hr.mono (by omega)
  refine ⟨_, pss_cons (ps_if (pt_cmpR (op_eq_nil hu8) (pv 0) (pe_lst pa_nil) (nomark _)) (pss_one (ps_ret (pe_lst (pa_cons (pv 2) pa_nil)))) pss_nil)
    (pss_cons (ps_set (i := 4) scDu.nd rfl (Or.inl rfl) (pe_lst pa_nil))
    (pss_cons (ps_for PassesOwn.never rfl (pi_list (pe_op op_cat (pe_callB call_sorted_ints rfl T.sorted PyProof.Rows.boot_sorted (pa_cons (pv 1) pa_nil)) (pv 3))) (pg_name (i := 5) scDu.nd rfl (Or.inl rfl))
      (pss_cons (ps_set (i := 6) scDu.nd rfl (Or.inl rfl) (pe_callTy call_dict_of rfl T.dict PyProof.Rows.boot_dict (pa_cons (pv 2) pa_nil)))
      (pss_cons (ps_dput hu1 (pv 6) (pe_ix ix_list (pv 0) pe_int (fun _ _ => rfl)) (pv 5) rfl)
      (pss_one (ps_set (i := 4) scDu.nd rfl (Or.inl rfl) (pe_op op_cat (pv 4) (pe_call G2 hr rfl m2 k2 b2 .nil pass0 (pa_cons (pe_slice sl_list (pv 0) (po_some pe_int) po_none) (pa_cons (pv 1) (pa_cons (pv 6) (pa_cons (pv 3) pa_nil)))))))))))
    (pss_cons (ps_set (i := 7) scDu.nd rfl (Or.inl rfl) (pe_call G1 hr1 rfl m1 k1 b1 .nil pass0 (pa_cons (pv 1) (pa_cons (pv 3) pa_nil))))
    (pss_cons (ps_set (i := 6) scDu.nd rfl (Or.inl rfl) (pe_callTy call_dict_of rfl T.dict PyProof.Rows.boot_dict (pa_cons (pv 2) pa_nil)))
    (pss_cons (ps_dput hu1 (pv 6) (pe_ix ix_list (pv 0) pe_int (fun _ _ => rfl)) (pv 7) rfl)
    (pss_one (ps_ret (pe_op op_cat (pv 4) (pe_call G2 hr rfl m2 k2 b2 .nil pass0 (pa_cons (pe_slice sl_list (pv 0) (po_some pe_int) po_none) (pa_cons (pv 1) (pa_cons (pv 6) (pa_cons (pe_op op_cat (pv 3) (pe_lst (pa_cons (pv 7) pa_nil))) pa_nil))))))))))))), ?_⟩
  refine ⟨_, rfl, small (by decide), fun e he => ⟨a, e, _, rfl, rfl, (same_new he _).seq hA, SqL.of upd_same, _, rfl, ?_⟩⟩
  have s1 : Same H (upd H e (.lst [])) := same_new he _
  cases gs2 with
  | nil =>
    refine iteT ?_
    refine ⟨_, rfl, (by show 1 ≤ sizeLine; exact small (by decide)), fun z hz => ?_⟩
    refine q z _ [.ref d] (s1.trans (same_new hz _)) (s1.free hz) (fun y hy => ⟨d, by simpa using hy, .inl rfl⟩) upd_same ?_
    rw [List.append_nil]
    exact .cons ⟨d, rfl, (same_new hz _) _ _ (s1 _ _ hD)⟩ .nil
  | cons g gs2 =>
    refine iteF ?_
    have hlen : (g :: gs2).length = gs2.length + 1 := rfl
    have hu' : u < F.length := by omega
    have hx : F[u]? = some F[u] := List.getElem?_eq_getElem hu'
    have split := dueL_split (k := gs2.length) (c := c) ris hx
    have gnot : g ∉ gs1 := fun z => (List.nodup_append.mp nd).2.2 g z g List.mem_cons_self rfl
    have nd' : (gs1 ++ [g] ++ gs2).Nodup := by rw [List.append_assoc]; exact nd
    have assoc : gs1 ++ [g] ++ gs2 = gs1 ++ g :: gs2 := by rw [List.append_assoc]; rfl
    have g1len : (gs1 ++ [g]).length = gs1.length + 1 := by rw [List.length_append]; rfl
    have c1len : ∀ v : Int, (c ++ [v]).length = c.length + 1 := fun v => by rw [List.length_append]; rfl
    have tot : ((R ++ F.take u).flatMap fun v => dueL R F gs2.length (c ++ [v], u)).length + (dueL R F gs2.length (c ++ [F[u]], u + 1)).length ≤ 1000 := by
      rw [← List.length_append, ← split]; exact dl
    have hM1 : upd H e (.lst []) m = some (.lst ((F.take u).map V.int)) := s1 _ _ hM
    refine ⟨small (by decide), fun l hl => ?_⟩
    have s2 : Same H (upd (upd H e (.lst [])) l (.lst [])) := s1.trans (same_new hl _)
    refine ⟨_, rfl, b, vs, rfl, s2.seq hB, by omega, fun rl R' hrl pm so => ?_⟩
    obtain rfl : R' = R := sorted_uniq so ris.so (pm.trans ris.pm.symm)
    have RL : R'.length = vs.length := pm.length_eq
    have s3 := s2.trans (same_new hrl (.lst (R'.map V.int)))
    refine ⟨_, rfl, rl, m, _, _, rfl, rfl, upd_same, s3 _ _ hM, ?_, fun cl hcl => ?_⟩
    · rw [List.length_map, List.length_map, List.length_take]; exact small (by omega)
    have s4 := s3.trans (same_new hcl (.lst (R'.map V.int ++ (F.take u).map V.int)))
    have lH : H l = none := s1.free hl
    have clH : H cl = none := s3.free hcl
    have hW : R'.map V.int ++ (F.take u).map V.int = (R' ++ F.take u).map V.int := by rw [List.map_append]
    have hl4 : upd (upd (upd (upd H e (.lst [])) l (.lst [])) rl (.lst (R'.map V.int))) cl (.lst (R'.map V.int ++ (F.take u).map V.int)) l = some (.lst []) := (same_new hcl _) _ _ ((same_new hrl _) _ _ upd_same)
    refine ⟨cl, rfl, ⟨_, SqL.of upd_same⟩, for_list (K := K) (a := cl) (xs := (R' ++ F.take u).map V.int) (fun i σ H2 => ∃ (r : Addr) (zs : List V) (u1 u2 : Option V), σ = [some (.ref a), some (.ref b), some (.ref d), some (.ref m), some (.ref r), u1, u2, none] ∧
        Same H H2 ∧ H r = none ∧ H2 cl = some (.lst ((R' ++ F.take u).map V.int)) ∧ H2 r = some (.lst zs) ∧ (∀ y ∈ zs, ∃ d', y = V.ref d' ∧ H d' = none) ∧ Told H2 (gs1 ++ g :: gs2) zs (((R' ++ F.take u).take i).flatMap fun v => dueL R' F gs2.length (c ++ [v], u)))
      ⟨l, [], none, none, rfl, s4, lH, (by rw [upd_same, hW]), hl4, (fun y z => by cases z), .nil⟩ (fun i σ H2 _ ⟨_, _, _, _, _, _, _, z, _⟩ => SqL.of z) ?_ ?_⟩
    · rintro i x σ H2 hi ⟨r, zs, u1, u2, rfl, sH, hrH, hc2, hr2, hzf, hT⟩
      obtain ⟨v, hv, hvm, rfl⟩ := of_int hi
      refine ⟨_, rfl, d, _, rfl, sH _ _ hD, fun p hp => ?_⟩
      have pH : H p = none := sH.free hp
      refine ⟨_, rfl, _, rfl, _, rfl, a, _, _, V.str g, rfl, rfl, (sH.trans (same_new hp _)).seq hA, at0 g gs2, p, _, rfl, DPut.k (k := (Sum.inr g : Key)) upd_same ?_, ?_⟩
      · rw [dictOf_len hc]; exact small1000 (by omega)
      obtain ⟨H3, hH3⟩ : ∃ h : Hp, h = upd (upd H2 p (.dK (dictOf gs1 c))) p (.dK (putK (dictOf gs1 c) (Sum.inr g : Key) (.int v))) := ⟨_, rfl⟩
      rw [← hH3]
      have s23 : Same H2 H3 := fun b o q => by rw [hH3, upd_ne (ne_of_none q hp), upd_ne (ne_of_none q hp)]; exact q
      have sH3 : Same H H3 := sH.trans s23
      have hp3 : H3 p = some (.dK (dictOf (gs1 ++ [g]) (c ++ [v]))) := by rw [hH3, upd_same, dictOf_put hc gnot]
      clear hH3
      refine ⟨_, rfl, _, rfl, _, rfl, a, _, rfl, sH3.seq hA, fun ta hta => ?_⟩
      have s34 : Same H3 (upd H3 ta (.lst (cutV ((g :: gs2).map V.str) (some 1) none))) := same_new hta _
      refine ⟨_, rfl, _, rfl, _, rfl, ta, b, p, m, gs1 ++ [g], gs2, vs, R', F, c ++ [v], u, rfl, ?_, (sH3.trans s34).seq hB, s34 _ _ hp3, (sH3.trans s34) _ _ hM, by rw [g1len, c1len, hc], nd', by omega, ris, by omega, vl, by rw [g1len]; omega, fl, ?_, fun z H4 ws s4 hz hwf hz4 hT4 => ?_⟩
      · rw [cut_tail]; exact SqL.of upd_same
      · have := flat_mem (fun v => dueL R' F gs2.length (c ++ [v], u)) hvm
        exact Nat.le_trans this (by omega)
      have sH4 := (sH3.trans s34).trans s4
      have s24 := (s23.trans s34).trans s4
      have lz := plen hT
      have lw := plen hT4
      have hsum : (((R' ++ F.take u).take (i + 1)).flatMap fun v => dueL R' F gs2.length (c ++ [v], u)) = (((R' ++ F.take u).take i).flatMap fun v => dueL R' F gs2.length (c ++ [v], u)) ++ dueL R' F gs2.length (c ++ [v], u) := by
        rw [List.take_add_one, hv, List.flatMap_append]
        show _ ++ List.flatMap _ [v] = _
        rw [List.flatMap_singleton]
      have hle := flat_take (fun v => dueL R' F gs2.length (c ++ [v], u)) (R' ++ F.take u) (i + 1)
      rw [hsum, List.length_append] at hle
      refine ⟨r, z, _, _, rfl, rfl, s24 _ _ hr2, hz4, small (by omega), fun r2 hr2' => ?_⟩
      refine ⟨r2, zs ++ ws, _, _, rfl, sH4.trans (same_new hr2' _), sH4.free hr2', ?_, upd_same, fun y hy => ?_, ?_⟩
      · exact (same_new hr2' _) _ _ (s24 _ _ hc2)
      · rcases List.mem_append.mp hy with h | h
        · exact hzf y h
        · obtain ⟨d', e1, e2⟩ := hwf y h
          rcases e2 with e2 | e2
          · exact ⟨d', e1, e2 ▸ pH⟩
          · exact ⟨d', e1, (sH3.trans s34).free e2⟩
      · rw [hsum]
        refine papp ?_ (Told.same (s24.trans (same_new hr2' _)) hT)
        rw [assoc] at hT4
        exact Told.same (same_new hr2' _) hT4
    · rintro σ H2 ⟨r, zs, u1, u2, rfl, sH, hrH, hc2, hr2, hzf, hT⟩
      rw [List.length_map, List.take_length] at hT
      obtain ⟨x0, x1, x2, x3⟩ := ris.fr u F[u] hx
      refine ⟨_, rfl, _, rfl, b, m, vs, F.take u, F[u], rfl, sH.seq hB, SqL.of (sH _ _ hM), x0, x1, x2, x3, ?_⟩
      refine ⟨_, rfl, d, _, rfl, sH _ _ hD, fun p hp => ?_⟩
      have pH : H p = none := sH.free hp
      refine ⟨_, rfl, _, rfl, _, rfl, a, _, _, V.str g, rfl, rfl, (sH.trans (same_new hp _)).seq hA, at0 g gs2, p, _, rfl, DPut.k (k := (Sum.inr g : Key)) upd_same ?_, ?_⟩
      · rw [dictOf_len hc]; exact small1000 (by omega)
      obtain ⟨H3, hH3⟩ : ∃ h : Hp, h = upd (upd H2 p (.dK (dictOf gs1 c))) p (.dK (putK (dictOf gs1 c) (Sum.inr g : Key) (.int F[u]))) := ⟨_, rfl⟩
      rw [← hH3]
      have s23 : Same H2 H3 := fun b o q => by rw [hH3, upd_ne (ne_of_none q hp), upd_ne (ne_of_none q hp)]; exact q
      have sH3 : Same H H3 := sH.trans s23
      have hp3 : H3 p = some (.dK (dictOf (gs1 ++ [g]) (c ++ [F[u]]))) := by rw [hH3, upd_same, dictOf_put hc gnot]
      clear hH3
      refine ⟨_, rfl, _, rfl, _, rfl, a, _, rfl, sH3.seq hA, fun ta hta => ?_⟩
      have s34 : Same H3 (upd H3 ta (.lst (cutV ((g :: gs2).map V.str) (some 1) none))) := same_new hta _
      refine ⟨_, rfl, _, rfl, _, rfl, _, rfl, (by show 1 ≤ sizeLine; exact small (by decide)), fun ol hol => ?_⟩
      have s45 := s34.trans (same_new hol (.lst [.int F[u]]))
      refine ⟨m, ol, _, _, rfl, rfl, (sH3.trans s45) _ _ hM, upd_same, ?_, fun m2 hm2 => ?_⟩
      · rw [List.length_map, List.length_take]; exact small (by show _ + 1 ≤ 1000; omega)
      have s56 := s45.trans (same_new hm2 (.lst ((F.take u).map V.int ++ [.int F[u]])))
      refine ⟨ta, b, p, m2, gs1 ++ [g], gs2, vs, R', F, c ++ [F[u]], u + 1, rfl, ?_, (sH3.trans s56).seq hB, s56 _ _ hp3, ?_, by rw [g1len, c1len, hc], nd', by omega, ris, by omega, vl, by rw [g1len]; omega, fl, by omega, fun z H4 ws s4 hz hwf hz4 hT4 => ?_⟩
      · rw [show gs2.map V.str = cutV ((g :: gs2).map V.str) (some 1) none from (cut_tail (g :: gs2)).symm]
        exact SqL.of ((same_new hm2 _) _ _ ((same_new hol _) _ _ upd_same))
      · rw [upd_same, List.take_add_one, hx, List.map_append]
        rfl
      have s24 := (s23.trans s56).trans s4
      have sH4 := sH.trans s24
      have lz := plen hT
      have lw := plen hT4
      refine ⟨r, z, _, _, rfl, rfl, s24 _ _ hr2, hz4, small (by omega), fun r2 hr2' => ?_⟩
      refine q r2 _ (zs ++ ws) (sH4.trans (same_new hr2' _)) (sH4.free hr2') (fun y hy => ?_) upd_same ?_
      · rcases List.mem_append.mp hy with h | h
        · obtain ⟨d', e1, e2⟩ := hzf y h
          exact ⟨d', e1, .inr e2⟩
        · obtain ⟨d', e1, e2⟩ := hwf y h
          rcases e2 with e2 | e2
          · exact ⟨d', e1, .inr (e2 ▸ pH)⟩
          · exact ⟨d', e1, .inr ((sH3.trans s56).free e2)⟩
      · rw [hlen, split]
        refine papp ?_ (Told.same (s24.trans (same_new hr2' _)) hT)
        rw [assoc] at hT4
        exact Told.same (same_new hr2' _) hT4
theorem ok_due (Fn : Fun K "_law_due" "_law_due" sDue f fd) (T : Txt mg) (C1 : Cal P w K mg base "_law_next" 1 ["_law_values_here", "_law_new"] (spNext K)) (b2 : Binds K fd ["_law_gaps_here", "_law_values_here", "_law_chosen_so", "_law_new"] []) (k2 : PySem.W.keepIn K (.ref f) = true) (m2 : mg "_law_due" = some (.ref f)) :
    ∀ n : Nat, FnOk P w K mg base CX0 (n + 2) f fd ["_law_gaps_here", "_law_values_here", "_law_chosen_so", "_law_new"] (spDue K n)
  | 0 => ok_due0 Fn
  | n + 1 => ok_dueS Fn T C1 b2 k2 m2 (ok_due Fn T C1 b2 k2 m2 n)
end
end K15
set_option maxHeartbeats 4000000
namespace K15
open PySem L2 M16
theorem rel_ty {n : String} : ∀ u, RelV (.ty n) u → u = .type n := fun u r => r
theorem kit_ib (K : PySem.W.Frag) : PySem.W.kitOne K (.type "int") (.type "bool") = some false := by kernel_rfl
def spTold (K : PySem.W.Frag) : Sp := fun args H Q _ => ∃ (a b : Addr) (ys zs : List V) (gs : List Str) (L : List (List Int × Nat)), args = [.ref a, .ref b] ∧ H a = some (.lst ys) ∧ H b = some (.lst zs) ∧ Told H gs ys L ∧ Told H gs zs L ∧ L.length ≤ 1000 ∧ gs.Nodup ∧ gs.length ≤ 4 ∧ (∀ e ∈ L, gs.length = e.1.length) ∧
  ∀ H', Same H H' → Q (.bl true) H'
theorem dictOf_int {gs : List Str} {c : List Int} {k : Key} {x : V} (h : (k, x) ∈ dictOf gs c) : ∃ i, x = V.int i := by
  obtain ⟨p, _, e⟩ := List.mem_map.mp h
  exact ⟨p.2, (Prod.mk.inj e).2.symm⟩
section
variable {P : Program} {w : World} {K : PySem.W.Frag} {mg : Str → Option Value} {base : Heap} {f : Addr} {fd : FuncData}
theorem nd1 {x : Str} : ([x] : List Str).Nodup := by simp
theorem scTo : FnScope ["_law_found", "_law_due_here", "_law_one", "_law_other"] ["_law_found", "_law_due_here"] (defScope sTold) := ⟨rfl, rfl, rfl, by decide +kernel, rfl, by decide +kernel, by decide +kernel⟩
theorem ok_told (Fn : Fun K "_law_told" "_law_told" sTold f fd) (T : Txt mg) : FnOk P w K mg base CX0 1 f fd ["_law_found", "_law_due_here"] (spTold K) := by
  refine Fn.ok scTo (fun vs H Q E h => ?_) (fun cdv A outer s H vs Q E hr h => ?_)
  · obtain ⟨a, b, ys, zs, gs, L, rfl, _⟩ := h
    rfl
  obtain ⟨a, b, ys, zs, gs, L, rfl, hA, hB, hY, hZ, Ll, gn, gl, hE, q⟩ := h
  have hu8 := hu8_of hr
  refine ⟨_, pss_cons (ps_if (PW.pt (pw_or (pt_not (pt_val (pe_callB call_isi rfl T.isi PyProof.Rows.boot_isinstance (pa_cons (pv 0) (pa_cons (pe_bltn (v := .ty "list") rfl T.list PyProof.Rows.boot_list rfl) pa_nil)))))
      (pw_or1 (pt_cmpR op_ne (pe_callB call_len_seq rfl T.len PySem.boot_len (pa_cons (pv 0) pa_nil)) (pe_callB call_len_seq rfl T.len PySem.boot_len (pa_cons (pv 1) pa_nil)) (nomark _))))) pss_never pss_nil)
    (pss_cons (ps_for PassesOwn.never rfl (pi_zipL rfl T.zip (pa_cons (pv 0) (pa_cons (pv 1) pa_nil))) (pg_tup rfl (pgs_cons (pg_name (i := 2) scTo.nd rfl (Or.inl rfl)) (pgs_cons (pg_name (i := 3) scTo.nd rfl (Or.inl rfl)) pgs_nil)))
      (pss_cons (ps_if (PW.pt (pw_or (pt_not (pt_val (pe_callB call_isi rfl T.isi PyProof.Rows.boot_isinstance (pa_cons (pv 2) (pa_cons (pe_bltn (v := .ty "dict") rfl T.dict PyProof.Rows.boot_dict rfl) pa_nil)))))
        (pw_or1 (pt_cmpR (op_ne_dict hu8) (pv 2) (pv 3) (nomark _))))) pss_never pss_nil)
      (pss_one (ps_if (pt_not (pt_val (pe_callB (call_all_bls rfl) rfl T.all PyProof.Rows.boot_all (pa_cons (pe_thaw (pe_lcG (caps := []) ["_law_value_here"] rfl (pi_vals (pe_bm0 PySem.F.plainAttrs_dict PySem.F.slot_dict_values PySem.F.type_dict_values mt_values (pv 2))) ⟨rfl, by decide +kernel, by decide +kernel, rfl, .nil, rfl, rfl, rfl⟩
        (fun s H ex => pg_name (X := cxLG _ _ _ _ s H ex) (i := 0) nd1 rfl (Or.inl rfl) (.inr rfl)) (fun s H ex => pif_nil)
        (fun s H ex => pe_and (pe_callB (call_isiK (K := K) rfl) rfl T.isi PyProof.Rows.boot_isinstance (pa_cons (pe_var (X := cxLG _ _ _ _ s H ex) (i := 0) rfl (Or.inl rfl)) (pa_cons (pe_bltn (v := .ty "int") rfl T.int PyProof.Rows.boot_int rfl) pa_nil)))
          (pe_one (pe_not (pe_callB (call_isiK (K := K) rfl) rfl T.isi PyProof.Rows.boot_isinstance (pa_cons (pe_var (X := cxLG _ _ _ _ s H ex) (i := 0) rfl (Or.inl rfl)) (pa_cons (pe_bltn (v := .ty "bool") rfl T.bool PyProof.Rows.boot_bool rfl) pa_nil)))))))) pa_nil)))) pss_never pss_nil))))
    (pss_one (ps_ret pe_bl))), ?_⟩
  have ly := plen hY
  have lz := plen hZ
  refine ⟨_, rfl, _, _, _, _, _, rfl, rel_ty, .lst hA, kit_ss K "list", _, rfl, iteF ?_⟩
  refine ⟨_, rfl, a, _, rfl, .inl (SqL.of hA), _, rfl, b, _, rfl, .inl (SqL.of hB), rfl, _, rfl, ?_⟩
  rw [show (!decide (V.int (ys.length : Int) = V.int (zs.length : Int))) = false by rw [ly, lz]; simp]
  refine iteF ?_
  refine ⟨_, rfl, _, rfl, a, b, ys, zs, rfl, SqL.of hA, SqL.of hB, for_zipL (K := K) (xs := ys) (ys := zs) (by omega) (fun i σ H2 => ∃ (u1 u2 : Option V), σ = [some (.ref a), some (.ref b), u1, u2] ∧ Same H H2)
    ⟨none, none, rfl, fun _ _ e => e⟩ (fun i σ H2 _ ⟨_, _, _, s2⟩ => ⟨SqL.of (s2 _ _ hA), SqL.of (s2 _ _ hB)⟩) ?_ ?_⟩
  · rintro i x y T0 σ H2 hx hy hT0 ⟨u1, u2, rfl, s2⟩
    obtain ⟨e, he, d, rfl, hd⟩ := pget hY hx
    obtain ⟨e', he', d', rfl, hd'⟩ := pget hZ hy
    rw [he] at he'
    cases he'
    have s3 : Same H (upd H2 T0 (.tup [.ref d, .ref d'])) := s2.trans (same_new hT0 _)
    refine ⟨T0, _, rfl, SqT.of upd_same, rfl, _, _, rfl, _, _, rfl, rfl, ?_⟩
    obtain ⟨H3, hH3⟩ : ∃ h : Hp, h = upd H2 T0 (.tup [.ref d, .ref d']) := ⟨_, rfl⟩
    rw [← hH3] at s3 ⊢
    clear hH3
    have kn : ((dictOf gs e.1).map (·.1)).Nodup := by rw [dictOf_keys (hE e (List.mem_of_getElem? he))]; exact inr_nodup gn
    refine ⟨_, rfl, _, _, _, _, _, rfl, rel_ty, .dK (s3 _ _ hd), kit_ss K "dict", _, rfl, iteF ?_⟩
    refine ⟨_, rfl, _, rfl, d, d', _, rfl, rfl, s3 _ _ hd, s3 _ _ hd', kn, (fun p hp => ?_), _, rfl, iteF ?_⟩
    · obtain ⟨n, hn⟩ := dictOf_int (k := p.1) (x := p.2) hp
      rw [hn]; rfl
    refine ⟨_, rfl, .inr (.inr (.inl ⟨rfl, .inl ⟨_, s3 _ _ hd⟩⟩)), d, _, rfl, rfl, s3 _ _ hd, fun v hv => ?_⟩
    have s4 : Same H (upd H3 v (ValsO v d)) := s3.trans (same_new hv _)
    refine ⟨v, d, _, rfl, upd_same, s4 _ _ hd, fun o D hD => ?_⟩
    have Ddn : D ≠ d := fun z => by rw [z, upd_same] at hD; cases hD
    have dl := dictOf_len (hE e (List.mem_of_getElem? he))
    refine lcg_valsR (fun i σ H5 => ∃ (u : Option V), σ = [u] ∧ H5 d = some (.frz o (.dK (dictOf gs e.1))) ∧ H5 D = some (.lst ((List.replicate i true).map V.bl)) ∧ ∀ b ob, b ≠ d → H b = some ob → H5 b = some ob)
      ⟨none, rfl, by rw [upd_ne (Ne.symm Ddn), upd_same], upd_same, fun b ob nb hb => ?_⟩ (fun i σ H5 _ ⟨_, _, z, _⟩ => z) ?_ ?_
    · have hb4 := s4 _ _ hb
      have hb5 : upd (upd H3 v (ValsO v d)) d (.frz o (.dK (dictOf gs e.1))) b = some ob := by rw [upd_ne nb]; exact hb4
      rw [upd_ne (ne_of_none hb5 hD)]
      exact hb5
    · rintro i k x σ H5 hk ⟨u, rfl, h5d, h5D, h5⟩
      obtain ⟨n, rfl⟩ := dictOf_int (List.mem_of_getElem? hk)
      have hi := (List.getElem?_eq_some_iff.mp hk).1
      refine ⟨_, rfl, _, _, _, _, _, rfl, rel_ty, .int n, kit_ss K "int", _, rfl, iteT ?_⟩
      refine ⟨_, rfl, _, _, _, _, _, rfl, rel_ty, .int n, kit_ib K, _, rfl, _, h5D, ?_, _, rfl, ?_, ?_, ?_⟩
      · rw [List.length_map, List.length_replicate]; exact small1000 (by omega)
      · rw [upd_ne (Ne.symm Ddn)]; exact h5d
      · rw [upd_same, List.replicate_succ', List.map_append]; rfl
      · intro b ob nb hb
        have hDH : H D = none := by
          cases z : H D with
          | none => rfl
          | some oD =>
            have z4 := s4 _ _ z
            rw [upd_ne Ddn, z4] at hD; cases hD
        rw [upd_ne (ne_of_none hb hDH)]
        exact h5 b ob nb hb
    · rintro σ H5 ⟨u, rfl, h5d, h5D, h5⟩
      refine ⟨d, o, _, h5d, (fun o' u' z => by have := hd.symm.trans z; cases this), D, List.replicate (dictOf gs e.1).length true, rfl, SqL.of (by rw [upd_ne Ddn]; exact h5D), ?_⟩
      rw [show (List.replicate (dictOf gs e.1).length true).all id = true by simp]
      refine ⟨_, rfl, iteF ⟨_, _, rfl, fun b ob hb => ?_⟩⟩
      by_cases hbd : b = d
      · subst hbd
        rw [upd_same, ← hd]; exact hb
      · rw [upd_ne hbd]; exact h5 b ob hbd hb
  · rintro σ H2 ⟨u1, u2, rfl, s2⟩
    exact q H2 s2
end
end K15
set_option maxHeartbeats 4000000
namespace K15
open PySem L2 M16
/-- what isinstance says of the refusal -/
structure Isx (K : PySem.W.Frag) (mg : Str → Option Value) (C : Addr) (cs : List Addr) : Prop where
  cl : ClsE K C
  ve : PySem.W.kitOne K (.ref C) (.type "ValueError") = some true
  me : ∃ M, mg "MaybeError" = some (.ref M) ∧ PySem.W.kitOne K (.ref C) (.ref M) = some true
  t1 : ∃ a b c d e, mg "NoColumn" = some (.ref a) ∧ mg "NoFilling" = some (.ref b) ∧ mg "NoName" = some (.ref c) ∧ mg "NoText" = some (.ref d) ∧ mg "Short" = some (.ref e) ∧ PySem.W.kitAny K (.ref C) [.ref a, .ref b, .ref c, .ref d, .ref e] = some false
  t2 : ∃ a b c, mg "TooFew" = some (.ref a) ∧ mg "Twice" = some (.ref b) ∧ mg "Unlike" = some (.ref c) ∧ PySem.W.kitAny K (.ref C) [.ref a, .ref b, .ref c] = some false
def spRefused (K : PySem.W.Frag) : Sp := fun args H Q _ => ∃ (a b : Addr) (gs : List Str) (vs : List Int), args = [.ref a, .ref b] ∧ SqL K H a (gs.map V.str) ∧ SqL K H b (vs.map V.int) ∧ gs.Nodup ∧ vs.Nodup ∧ gs.length ≤ 4 ∧ vs.length ≤ 31 ∧ 1000 < facN vs.length gs.length ∧ ∀ H', Same H H' → Q (.bl true) H'
section
variable {P : Program} {w : World} {K : PySem.W.Frag} {mg : Str → Option Value} {base : Heap} {f : Addr} {fd : FuncData}
theorem scRe : FnScope ["_law_gaps_here", "_law_values_here", "_law_told_here", "e"] ["_law_gaps_here", "_law_values_here"] (defScope sRefused) := ⟨rfl, rfl, rfl, by decide +kernel, rfl, by decide +kernel, by decide +kernel⟩
theorem ok_refused {C : Addr} {cs : List Addr} {bm : List Value} {newId initId Bn : String} (Fn : Fun K "_law_refused" "_law_refused" sRefused f fd) (T : Txt mg) (O : PyProof.Rows.OwnCls "TooMany" C bm newId mg base) (FB : ExcBaseFacts Bn newId initId bm) (Z : Isx K mg C cs)
    (C1 : CalE P w K mg base "kinds" 3 ["gaps", "values"] (spKinds K C)) : FnOk P w K mg base CX0 4 f fd ["_law_gaps_here", "_law_values_here"] (spRefused K) := by
  obtain ⟨f1, d1, G1, b1, k1, m1⟩ := C1
  obtain ⟨M, mM, kM⟩ := Z.me
  obtain ⟨t1, t2, t3, t4, t5, n1, n2, n3, n4, n5, kT⟩ := Z.t1
  obtain ⟨r1, r2, r3, l1, l2, l3, kR⟩ := Z.t2
  refine Fn.ok scRe (fun vs H Q E h => ?_) (fun cdv A outer s H vs Q E hr h => ?_)
  · obtain ⟨a, b, gs, vs, rfl, _⟩ := h
    rfl
  obtain ⟨a, b, gs, vs, rfl, hA, hB, gn, vn, gl, vl, hf, q⟩ := h
  have hu8 := hu8_of hr
  refine ⟨_, pss_cons (ps_set (i := 2) scRe.nd rfl (Or.inl rfl) pe_non)
    (pss_cons (ps_try1 (i := 3) (te := fun E => tCall (spKinds K C) [] E (tCons (tVar 0) (tCons (tVar 1) tNil))) rfl rfl rfl
      (fun xe E pins σ hx => pe_callA G1 hr rfl m1 k1 b1 .nil hx (pa_cons (pv 0) (pa_cons (pv 1) pa_nil))) O FB rfl scRe.nd rfl rfl
      (fun e => pss_cons (ps_set (X := cxH _ e) (i := 2) scRe.nd rfl (Or.inl rfl) (pe_lst (pa_cons (pe_and (pe_callB (call_isE (K := K) rfl) rfl T.isi PyProof.Rows.boot_isinstance (pa_cons (pe_var (X := cxH _ e) (i := 3) rfl (Or.inl rfl)) (pa_cons (pe_bltn (v := .ty "ValueError") rfl T.ve boot_ValueError rfl) pa_nil)))
          (pe_one (pe_callB (call_isE (K := K) rfl) rfl T.isi PyProof.Rows.boot_isinstance (pa_cons (pe_var (X := cxH _ e) (i := 3) rfl (Or.inl rfl)) (pa_cons (pe_glob (v := .ref M) rfl mM rfl) pa_nil))))) pa_nil)))
        (pss_cons (ps_expr (tBM_K (K := K) rfl (pe_bm PySem.F.plainAttrs_list PySem.F.slot_list_append PySem.F.type_list_append mt_append (pe_var (X := cxH _ e) (i := 2) rfl (Or.inl rfl))
          (pa_cons (pe_callB (call_isT (K := K) rfl) rfl T.isi PyProof.Rows.boot_isinstance (pa_cons (pe_var (X := cxH _ e) (i := 3) rfl (Or.inl rfl)) (pa_cons (pe_tup (pa_cons (pe_glob (v := .ref t1) rfl n1 rfl) (pa_cons (pe_glob (v := .ref t2) rfl n2 rfl) (pa_cons (pe_glob (v := .ref t3) rfl n3 rfl) (pa_cons (pe_glob (v := .ref t4) rfl n4 rfl) (pa_cons (pe_glob (v := .ref t5) rfl n5 rfl) pa_nil)))))) pa_nil))) pa_nil))))
        (pss_one (ps_expr (tBM_K (K := K) rfl (pe_bm PySem.F.plainAttrs_list PySem.F.slot_list_append PySem.F.type_list_append mt_append (pe_var (X := cxH _ e) (i := 2) rfl (Or.inl rfl))
          (pa_cons (pe_callB (call_isT (K := K) rfl) rfl T.isi PyProof.Rows.boot_isinstance (pa_cons (pe_var (X := cxH _ e) (i := 3) rfl (Or.inl rfl)) (pa_cons (pe_tup (pa_cons (pe_glob (v := .ref r1) rfl l1 rfl) (pa_cons (pe_glob (v := .ref r2) rfl l2 rfl) (pa_cons (pe_glob (v := .ref r3) rfl l3 rfl) pa_nil)))) pa_nil))) pa_nil))))))))
    (pss_one (ps_ret (pe_cmpR (op_eq_deep hu8) (pv 2) (pe_lst (pa_cons pe_bl (pa_cons pe_bl (pa_cons pe_bl pa_nil)))) (nomark _))))), ?_⟩
  refine ⟨_, rfl, _, rfl, a, b, gs, vs, rfl, hA, hB, gn, vn, gl, vl, (fun z => absurd hf (by omega)), fun _ => ⟨rfl, fun e he => ?_⟩⟩
  have s1 : Same H (upd H e (ExcO e C)) := same_new he _
  refine ⟨_, rfl, e, C, _, _, _, rfl, rel_ty, upd_same, Z.cl, Z.ve, _, rfl, iteT ?_⟩
  refine ⟨_, rfl, e, C, _, _, _, rfl, (fun _ r => r), upd_same, Z.cl, kM, (by show 1 ≤ sizeLine; exact small (by decide)), fun r hr' => ?_⟩
  have he2 : upd (upd H e (ExcO e C)) r (.lst [.bl true]) e = some (ExcO e C) := (same_new hr' _) _ _ upd_same
  have s2 : Same H (upd (upd H e (ExcO e C)) r (.lst [.bl true])) := s1.trans (same_new hr' _)
  have rH : H r = none := s1.free hr'
  have ner : e ≠ r := ne_of_none upd_same hr'
  refine ⟨_, rfl, .inl ⟨rfl, _, SqL.of upd_same⟩, _, rfl, (by show 5 ≤ sizeLine; exact small (by decide)), fun tp htp => ?_⟩
  have s3 := s2.trans (same_new htp (.tup [.ref t1, .ref t2, .ref t3, .ref t4, .ref t5]))
  refine ⟨e, C, tp, _, _, _, rfl, upd_same, vals_refs [t1, t2, t3, t4, t5], (same_new htp _) _ _ he2, Z.cl, kT, ?_⟩
  have hr3 : upd (upd (upd H e (ExcO e C)) r (.lst [.bl true])) tp (.tup [.ref t1, .ref t2, .ref t3, .ref t4, .ref t5]) r = some (.lst [.bl true]) := (same_new htp _) _ _ upd_same
  have he3 : upd (upd (upd H e (ExcO e C)) r (.lst [.bl true])) tp (.tup [.ref t1, .ref t2, .ref t3, .ref t4, .ref t5]) e = some (ExcO e C) := (same_new htp _) _ _ he2
  refine ⟨r, _, _, rfl, rfl, hr3, small1000 (by decide), ?_⟩
  obtain ⟨H4, hH4⟩ : ∃ h : Hp, h = upd (upd (upd (upd H e (ExcO e C)) r (.lst [.bl true])) tp (.tup [.ref t1, .ref t2, .ref t3, .ref t4, .ref t5])) r (.lst ([.bl true] ++ [.bl false])) := ⟨_, rfl⟩
  rw [← hH4]
  have s4 : Same H H4 := by rw [hH4]; exact same_upd s3 rH _
  have hr4 : H4 r = some (.lst [.bl true, .bl false]) := by rw [hH4, upd_same]; rfl
  have he4 : H4 e = some (ExcO e C) := by rw [hH4, upd_ne ner]; exact he3
  clear hH4
  refine ⟨_, rfl, .inl ⟨rfl, _, SqL.of hr4⟩, _, rfl, (by show 3 ≤ sizeLine; exact small (by decide)), fun tp2 htp2 => ?_⟩
  have s5 := s4.trans (same_new htp2 (.tup [.ref r1, .ref r2, .ref r3]))
  refine ⟨e, C, tp2, _, _, _, rfl, upd_same, vals_refs [r1, r2, r3], (same_new htp2 _) _ _ he4, Z.cl, kR, ?_⟩
  refine ⟨r, _, _, rfl, rfl, (same_new htp2 _) _ _ hr4, small1000 (by decide), ?_⟩
  have s6 := same_upd s5 rH (.lst ([.bl true, .bl false] ++ [.bl false]))
  refine ⟨_, rfl, (by show 3 ≤ sizeLine; exact small (by decide)), fun z hz => ?_⟩
  refine ⟨r, z, _, _, rfl, rfl, SqL.of ((same_new hz _) _ _ upd_same), SqL.of upd_same, .cons (.flat rfl) (.cons (.flat rfl) (.cons (.flat rfl) .nil)), ?_⟩
  exact q _ (s6.trans (same_new hz _))
end
end K15
set_option maxHeartbeats 4000000
namespace K15
open PySem L2 M16
theorem passF {P : Program} {w : World} {X : Cx} : Passes (CXe P w) X (fun _ _ _ => False) := by
  rintro pins σ H s e s' I ⟨_, _, _, _, _, _, _, _, _, _, _, _, q⟩
  exact q.elim
theorem pand {α β : Type} {R : α → β → Prop} {S : α → Prop} : ∀ {xs : List α} {ys : List β}, Paired R xs ys → (∀ x ∈ xs, S x) → Paired (fun x y => R x y ∧ S x) xs ys
  | _, _, .nil, _ => .nil
  | _, _, .cons r t, h => .cons ⟨r, h _ List.mem_cons_self⟩ (pand t fun x hx => h x (List.mem_cons_of_mem _ hx))
theorem pleft {α β : Type} {R : α → β → Prop} : ∀ {xs : List α} {ys : List β}, Paired R xs ys → ∀ x ∈ xs, ∃ y, R x y
  | _, _, .nil, _, h => by cases h
  | _, _, .cons r t, x, h => by
    rcases List.mem_cons.mp h with e | h
    · subst e; exact ⟨_, r⟩
    · exact pleft t x h
theorem fac_step (v i : Nat) : ((facN v i : Nat) : Int) * ((v : Int) + 1 + (0 + (i : Int))) = ((facN v (i + 1) : Nat) : Int) := by
  show _ = ((facN v i * (v + i + 1) : Nat) : Int)
  push_cast
  congr 1
  omega
def spLaw (K : PySem.W.Frag) : Sp := fun args H Q _ => ∃ (a : Addr) (ns : List Int), args = [.ref a] ∧ SqL K H a (ns.map V.int) ∧ ns.length ≤ 63 ∧ ∀ H', Q (.bl true) H'
section
variable {P : Program} {w : World} {K : PySem.W.Frag} {mg : Str → Option Value} {base : Heap} {f : Addr} {fd : FuncData}
theorem scLaw : FnScope ["_law_script", "_law_gaps_here", "_law_values_here", "_law_many", "_law_k", "_law_told_here", "_law_handed", "_law_found", "_law_due_here", "_law_filling"] ["_law_script"] (defScope sLaw) := ⟨rfl, rfl, rfl, by decide +kernel, rfl, by decide +kernel, by decide +kernel⟩
theorem ok_law {C : Addr} (Fn : Fun K "law" "law" sLaw f fd) (T : Txt mg) (C1 : Cal P w K mg base "_law_gaps" 2 ["_law_script"] (spGaps K)) (C2 : Cal P w K mg base "_law_values" 2 ["_law_script"] (spValues K)) (C3 : Cal P w K mg base "bound" 1 ["gaps", "values"] spBound)
    (C4 : Cal P w K mg base "_law_refused" 4 ["_law_gaps_here", "_law_values_here"] (spRefused K)) (C5 : CalE P w K mg base "kinds" 3 ["gaps", "values"] (spKinds K C)) (C6 : Cal P w K mg base "_law_due" 6 ["_law_gaps_here", "_law_values_here", "_law_chosen_so", "_law_new"] (spDue K 4))
    (C7 : Cal P w K mg base "_law_told" 1 ["_law_found", "_law_due_here"] (spTold K)) : FnOk P w K mg base CX0 7 f fd ["_law_script"] (spLaw K) := by
  obtain ⟨g1, d1, G1, b1, k1, m1⟩ := C1
  obtain ⟨g2, d2, G2, b2, k2, m2⟩ := C2
  obtain ⟨g3, d3, G3, b3, k3, m3⟩ := C3
  obtain ⟨g4, d4, G4, b4, k4, m4⟩ := C4
  obtain ⟨g5, d5, G5, b5, k5, m5⟩ := C5
  obtain ⟨g6, d6, G6, b6, k6, m6⟩ := C6
  obtain ⟨g7, d7, G7, b7, k7, m7⟩ := C7
  refine Fn.ok scLaw (fun vs H Q E h => ?_) (fun cdv A outer s H vs Q E hr h => ?_)
  · obtain ⟨a, ns, rfl, _⟩ := h
    rfl
  obtain ⟨a, ns, rfl, hS, nsl, q⟩ := h
  have hu8 := hu8_of hr
  have hr1 : Room 1 _ := hr.mono (by decide)
  have hr2 : Room 2 _ := hr.mono (by decide)
  have hr3 : Room 3 _ := hr.mono (by decide)
  have hr4 : Room 4 _ := hr.mono (by decide)
  refine ⟨_, pss_cons (ps_set (i := 1) scLaw.nd rfl (Or.inl rfl) (pe_call G1 hr2 rfl m1 k1 b1 .nil pass0 (pa_cons (pv 0) pa_nil)))
    (pss_cons (ps_set (i := 2) scLaw.nd rfl (Or.inl rfl) (pe_call G2 hr2 rfl m2 k2 b2 .nil pass0 (pa_cons (pv 0) pa_nil)))
    (pss_cons (ps_set (i := 3) scLaw.nd rfl (Or.inl rfl) pe_int)
    (pss_cons (ps_for PassesOwn.never rfl (pi_range1 rfl T.range (pa_cons (pe_callB call_len_seq rfl T.len PySem.boot_len (pa_cons (pv 1) pa_nil)) pa_nil)) (pg_name (i := 4) scLaw.nd rfl (Or.inl rfl))
      (pss_one (ps_set (i := 3) scLaw.nd rfl (Or.inl rfl) (pe_op op_mul (pv 3) (pe_op op_add (pe_op op_add (pe_callB call_len_seq rfl T.len PySem.boot_len (pa_cons (pv 2) pa_nil)) pe_int) (pv 4))))))
    (pss_cons (ps_set (i := 5) scLaw.nd rfl (Or.inl rfl) (pe_call G3 hr1 rfl m3 k3 b3 .nil pass0 (pa_cons (pe_callB call_len_seq rfl T.len PySem.boot_len (pa_cons (pv 1) pa_nil)) (pa_cons (pe_callB call_len_seq rfl T.len PySem.boot_len (pa_cons (pv 2) pa_nil)) pa_nil))))
    (pss_cons (ps_if (PW.pt (pw_or (pt_not (pt_val (pe_callB call_isi rfl T.isi PyProof.Rows.boot_isinstance (pa_cons (pv 5) (pa_cons (pe_bltn (v := .ty "int") rfl T.int PyProof.Rows.boot_int rfl) pa_nil)))))
      (pw_or (pt_val (pe_callB call_isi rfl T.isi PyProof.Rows.boot_isinstance (pa_cons (pv 5) (pa_cons (pe_bltn (v := .ty "bool") rfl T.bool PyProof.Rows.boot_bool rfl) pa_nil)))) (pw_or1 (pt_cmpR op_ne (pv 5) (pv 3) (nomark _)))))) pss_never pss_nil)
    (pss_cons (ps_set (i := 6) scLaw.nd rfl (Or.inl rfl) (pe_lst (pa_cons (pe_callTy call_list_of rfl T.list PyProof.Rows.boot_list (pa_cons (pv 1) pa_nil)) (pa_cons (pe_callTy call_list_of rfl T.list PyProof.Rows.boot_list (pa_cons (pv 2) pa_nil)) pa_nil))))
    (pss_cons (ps_if (pt_cmpR op_gt (pv 3) pe_int (nomark _)) (pss_one (ps_ret (pe_and (pe_call G4 hr4 rfl m4 k4 b4 .nil pass0 (pa_cons (pe_ix ix_list (pv 6) pe_int (fun _ _ => rfl)) (pa_cons (pe_ix ix_list (pv 6) pe_int (fun _ _ => rfl)) pa_nil)))
      (pe_one (pe_cmpR (op_eq_deep hu8) (pv 6) (pe_lst (pa_cons (pv 1) (pa_cons (pv 2) pa_nil))) (nomark _)))))) pss_nil)
    (pss_cons (ps_set (i := 7) scLaw.nd rfl (Or.inl rfl) (pe_call G5 hr3 rfl m5 k5 b5 .nil passF (pa_cons (pe_ix ix_list (pv 6) pe_int (fun _ _ => rfl)) (pa_cons (pe_ix ix_list (pv 6) pe_int (fun _ _ => rfl)) pa_nil))))
    (pss_cons (ps_set (i := 8) scLaw.nd rfl (Or.inl rfl) (pe_call G6 hr rfl m6 k6 b6 .nil pass0 (pa_cons (pv 1) (pa_cons (pv 2) (pa_cons pe_dnewK (pa_cons (pe_lst pa_nil) pa_nil))))))
    (pss_cons (ps_if (PW.pt (pw_or (pt_not (pt_val (pe_call G7 hr1 rfl m7 k7 b7 .nil pass0 (pa_cons (pv 7) (pa_cons (pv 8) pa_nil))))) (pw_or1 (pt_cmpR (op_ne_deep hu8) (pv 6) (pe_lst (pa_cons (pv 1) (pa_cons (pv 2) pa_nil))) (nomark _))))) pss_never pss_nil)
    (pss_cons (ps_for PassesOwn.never rfl (pi_list (pv 7)) (pg_name (i := 9) scLaw.nd rfl (Or.inl rfl))
      (pss_one (ps_expr (pe_bm0 PySem.F.plainAttrs_dict PySem.F.slot_dict_clear PySem.F.type_dict_clear mt_dclear (pv 9)))))
    (pss_cons (ps_expr (pe_bm PySem.F.plainAttrs_list PySem.F.slot_list_append PySem.F.type_list_append mt_append (pv 7) (pa_cons pe_int pa_nil)))
    (pss_one (ps_ret (pe_call G7 hr1 rfl m7 k7 b7 .nil pass0 (pa_cons (pe_call G5 hr3 rfl m5 k5 b5 .nil passF (pa_cons (pe_ix ix_list (pv 6) pe_int (fun _ _ => rfl)) (pa_cons (pe_ix ix_list (pv 6) pe_int (fun _ _ => rfl)) pa_nil))) (pa_cons (pv 8) pa_nil))))))))))))))))), ?_⟩
  refine ⟨_, rfl, a, ns, rfl, hS, fun gr H1 gs s1 h1 gn gl _ => ?_⟩
  refine ⟨_, rfl, a, ns, rfl, s1.seq hS, fun vr H2 vs s2 hV vn vl _ => ?_⟩
  have hG := s2 _ _ h1
  have gL : (gs.map V.str).length = gs.length := List.length_map _
  have vL : (vs.map V.int).length = vs.length := List.length_map _
  refine ⟨_, rfl, gr, _, rfl, .inl (SqL.of hG), _, rfl, by omega, by omega, for_range (lo := 0) (n := ((gs.map V.str).length : Int).toNat) (fun i σ H3 => H3 = H2 ∧ ∃ u, σ = [some (.ref a), some (.ref gr), some (.ref vr), some (.int ((facN vs.length i : Nat) : Int)), u, none, none, none, none, none]) ⟨rfl, none, rfl⟩ ?_ ?_⟩
  · rintro i σ H3 hi ⟨rfl, u, rfl⟩
    refine ⟨_, rfl, _, rfl, vr, _, rfl, .inl (SqL.of hV), _, _, rfl, rfl, _, rfl, _, _, rfl, rfl, _, _, rfl, rfl, Or.inr ⟨by omega, by omega⟩, ?_⟩
    have e : ((facN vs.length i : Nat) : Int) * (((vs.map V.int).length : Int) + 1 + (0 + (i : Int))) = ((facN vs.length (i + 1) : Nat) : Int) := by rw [vL]; exact fac_step _ _
    refine ⟨rfl, some (.int (0 + (i : Int))), ?_⟩
    rw [← e]
    rfl
  rintro σ H3 ⟨rfl, u, rfl⟩
  rw [Int.toNat_natCast, gL]
  refine ⟨_, rfl, gr, _, rfl, .inl (SqL.of hG), _, rfl, vr, _, rfl, .inl (SqL.of hV), _, _, rfl, by omega, by omega, by omega, by omega, ?_⟩
  rw [Int.toNat_natCast, gL, vL, prod_fac]
  obtain ⟨fc, hfc⟩ : ∃ n : Nat, n = facN vs.length gs.length := ⟨_, rfl⟩
  rw [← hfc]
  refine ⟨_, rfl, _, _, _, _, _, rfl, rel_ty, .int _, kit_ss K "int", _, rfl, iteF ?_⟩
  refine ⟨_, rfl, _, _, _, _, _, rfl, rel_ty, .int _, kit_ib K, _, rfl, iteF ?_⟩
  refine ⟨_, rfl, _, rfl, rfl, _, rfl, ?_⟩
  rw [show (!decide (V.int (fc : Int) = V.int (fc : Int))) = false by simp]
  refine iteF ?_
  -- what is handed in
  refine ⟨_, rfl, gr, _, rfl, .inl (SqL.of hG), fun p1 hp1 => ?_⟩
  have x1 := same_new hp1 (.lst (gs.map V.str))
  refine ⟨_, rfl, vr, _, rfl, .inl (SqL.of (x1 _ _ hV)), fun p2 hp2 => ⟨(by show 2 ≤ sizeLine; exact small (by decide)), fun hd hhd => ?_⟩⟩
  have x2 := same_new hp2 (.lst (vs.map V.int))
  have x3 := same_new hhd (.lst [.ref p1, .ref p2])
  have hP1 := x3 _ _ (x2 _ _ (upd_same (H := H3) (a := p1) (o := .lst (gs.map V.str))))
  have hP2 := x3 _ _ (upd_same (H := upd H3 p1 (.lst (gs.map V.str))) (a := p2) (o := .lst (vs.map V.int)))
  have hHd := upd_same (H := upd (upd H3 p1 (.lst (gs.map V.str))) p2 (.lst (vs.map V.int))) (a := hd) (o := .lst [.ref p1, .ref p2])
  have hG5 := x3 _ _ (x2 _ _ (x1 _ _ hG))
  have hV5 := x3 _ _ (x2 _ _ (x1 _ _ hV))
  generalize upd (upd (upd H3 p1 (.lst (gs.map V.str))) p2 (.lst (vs.map V.int))) hd (.lst [.ref p1, .ref p2]) = H5 at hP1 hP2 hHd hG5 hV5
  have fS : ∀ x ∈ gs.map V.str, flatV x = true := fun x hx => by obtain ⟨y, _, rfl⟩ := List.mem_map.mp hx; rfl
  have fI : ∀ x ∈ vs.map V.int, flatV x = true := fun x hx => by obtain ⟨y, _, rfl⟩ := List.mem_map.mp hx; rfl
  refine ⟨_, rfl, _, _, rfl, rfl, _, rfl, ?_⟩
  refine ite2 (fun c => ?_) (fun c => ?_)
  · have c' : (fc : Int) > 1000 := of_decide_eq_true c
    refine ⟨_, rfl, hd, _, _, V.ref p1, rfl, rfl, SqL.of hHd, rfl, _, rfl, hd, _, _, V.ref p2, rfl, rfl, SqL.of hHd, rfl, p1, p2, gs, vs, rfl, SqL.of hP1, SqL.of hP2, gn, vn, gl, vl, by omega, fun H6 s6 => ⟨_, rfl, iteT ?_⟩⟩
    refine ⟨_, rfl, _, rfl, _, rfl, (by show 2 ≤ sizeLine; exact small (by decide)), fun w hw => ?_⟩
    have x6 := s6.trans (same_new hw (.lst [.ref gr, .ref vr]))
    exact ⟨hd, w, _, _, rfl, rfl, SqL.of (x6 _ _ hHd), SqL.of upd_same, .cons (.lst (SqL.of (x6 _ _ hP1)) (SqL.of (x6 _ _ hG5)) fS) (.cons (.lst (SqL.of (x6 _ _ hP2)) (SqL.of (x6 _ _ hV5)) fI) .nil), q _⟩
  have hle : facN vs.length gs.length ≤ 1000 := by
    have : ¬ (fc : Int) > 1000 := fun z => c (decide_eq_true z)
    omega
  -- the kinds
  refine ⟨_, rfl, hd, _, _, V.ref p1, rfl, rfl, SqL.of hHd, rfl, _, rfl, hd, _, _, V.ref p2, rfl, rfl, SqL.of hHd, rfl, p1, p2, gs, vs, rfl, SqL.of hP1, SqL.of hP2, gn, vn, gl, vl, (fun _ l Hk ys R F sk hl ris FL hL hTo => ?_), fun z => absurd z (by omega)⟩
  have RL : R.length = vs.length := ris.pm.length_eq
  have lL : (kindsL R F gs.length).length ≤ 1000 := by
    have h1 := kindsL_fac ris.good gs.length (by omega)
    rw [RL] at h1
    omega
  have hE : ∀ e ∈ kindsL R F gs.length, gs.length = e.1.length := fun e he => (kindsL_kept ris.good gs.length (by omega) e he).len.symm
  -- what is due
  refine ⟨_, rfl, _, rfl, fun dn hdn => ⟨small (by decide), fun nl hnl => ?_⟩⟩
  have y1 := same_new hdn (.dK [])
  have y2 := same_new hnl (.lst [])
  have hdn9 := y2 _ _ (upd_same (H := Hk) (a := dn) (o := .dK []))
  have hnl9 := upd_same (H := upd Hk dn (.dK [])) (a := nl) (o := .lst [])
  have y12 := y1.trans y2
  generalize upd (upd Hk dn (.dK [])) nl (.lst []) = H9 at hdn9 hnl9 y12
  have yk := sk.trans y12
  refine ⟨gr, vr, dn, nl, [], gs, vs, R, F, [], 0, rfl, SqL.of (yk _ _ hG5), SqL.of (yk _ _ hV5), hdn9, hnl9, rfl, gn, by omega, ris, by omega, vl, (by show 0 + gs.length ≤ 4; omega), by omega, (by rw [← kinds_due]; exact lL), fun z H10 zs s10 hz hzf hZ hTz => ?_⟩
  rw [← kinds_due] at hTz
  have hTz' : Told H10 gs zs (kindsL R F gs.length) := hTz
  have w10 := y12.trans s10
  have v10 := sk.trans w10
  -- told
  refine ⟨_, rfl, _, rfl, l, z, ys, zs, gs, _, rfl, w10 _ _ hL, hZ, Told.same w10 hTo, hTz', lL, gn, gl, hE, fun H11 s11 => ⟨_, rfl, iteF ?_⟩⟩
  have v11 := v10.trans s11
  refine ⟨_, rfl, _, rfl, _, rfl, (by show 2 ≤ sizeLine; exact small (by decide)), fun w hw => ?_⟩
  have y11 := same_new hw (.lst [.ref gr, .ref vr])
  have v12 := v11.trans y11
  refine ⟨hd, w, _, _, rfl, rfl, SqL.of (v12 _ _ hHd), SqL.of upd_same, .cons (.lst (SqL.of (v12 _ _ hP1)) (SqL.of (v12 _ _ hG5)) fS) (.cons (.lst (SqL.of (v12 _ _ hP2)) (SqL.of (v12 _ _ hV5)) fI) .nil), _, rfl, iteF ?_⟩
  have u12 := s11.trans y11
  have hL12 := u12 _ _ (w10 _ _ hL)
  have hZ12 := u12 _ _ hZ
  have hTz12 : Told (upd H11 w (.lst [.ref gr, .ref vr])) gs zs (kindsL R F gs.length) := Told.same u12 hTz'
  have hHd12 := v12 _ _ hHd
  have hP112 := v12 _ _ hP1
  have hP212 := v12 _ _ hP2
  have kd12 : ∀ y ∈ ys, ∃ d kvs, y = V.ref d ∧ Hk d = some (.dK kvs) ∧ upd H11 w (.lst [.ref gr, .ref vr]) d = some (.dK kvs) := fun y hy => by
    obtain ⟨e, d, e1, e2⟩ := pleft hTo y hy
    exact ⟨d, _, e1, e2, u12 _ _ (w10 _ _ e2)⟩
  generalize upd H11 w (.lst [.ref gr, .ref vr]) = H12 at hL12 hZ12 hTz12 hHd12 hP112 hP212 kd12
  have dk : ∀ y ∈ zs, ∃ d', y = V.ref d' ∧ Hk d' = none := fun y hy => by
    obtain ⟨d', e1, e2⟩ := hzf y hy
    rcases e2 with e2 | e2
    · exact ⟨d', e1, e2 ▸ hdn⟩
    · exact ⟨d', e1, y12.free e2⟩
  have hTF := pand hTz12 dk
  -- all cleared
  refine ⟨_, rfl, l, rfl, ⟨_, SqL.of hL12⟩, for_list (K := K) (a := l) (xs := ys) (fun i σ H13 => ∃ u9 : Option V, σ = [some (.ref a), some (.ref gr), some (.ref vr), some (.int (fc : Int)), u, some (.int (fc : Int)), some (.ref hd), some (.ref l), some (.ref z), u9] ∧
      (∀ b xs, H12 b = some (.lst xs) → H13 b = some (.lst xs)) ∧ (∀ y ∈ ys, ∃ d kvs, y = V.ref d ∧ Hk d ≠ none ∧ H13 d = some (.dK kvs)) ∧ Paired (fun y e => Told1 H13 gs y e ∧ ∃ d', y = V.ref d' ∧ Hk d' = none) zs (kindsL R F gs.length))
    ⟨none, rfl, fun _ _ e => e, (fun y hy => by obtain ⟨d, kvs, e1, e2, e3⟩ := kd12 y hy; exact ⟨d, kvs, e1, by rw [e2]; simp, e3⟩), hTF⟩ (fun i σ H13 _ ⟨_, _, z, _⟩ => SqL.of (z _ _ hL12)) ?_ ?_⟩
  · rintro i x σ H13 hi ⟨u9, rfl, kl, kd, kt⟩
    obtain ⟨d, kvs, rfl, nd, hd13⟩ := kd x (List.mem_of_getElem? hi)
    refine ⟨_, rfl, .inr (.inr (.inl ⟨rfl, .inl ⟨_, hd13⟩⟩)), d, kvs, rfl, rfl, hd13, _, rfl, fun b xs e => ?_, fun y hy => ?_, ?_⟩
    · have e' := kl b xs e
      rw [upd_ne (fun y => by rw [y, hd13] at e'; cases e')]
      exact e'
    · obtain ⟨d2, kv2, e1, e2, e3⟩ := kd y hy
      by_cases h : d2 = d
      · subst h; exact ⟨d2, [], e1, e2, upd_same⟩
      · exact ⟨d2, kv2, e1, e2, by rw [upd_ne h]; exact e3⟩
    · refine pmap (fun y e ⟨⟨d1, a1, a2⟩, d', a3, a4⟩ => ?_) kt
      have e' : d1 = d' := by rw [a1] at a3; injection a3
      subst e'
      have ne : d1 ≠ d := fun h => nd (h ▸ a4)
      exact ⟨⟨d1, a1, by rw [upd_ne ne]; exact a2⟩, d1, a1, a4⟩
  rintro σ H13 ⟨u9, rfl, kl, kd, kt⟩
  have hL13 := kl _ _ hL12
  have hZ13 := kl _ _ hZ12
  have hHd13 := kl _ _ hHd12
  have hP113 := kl _ _ hP112
  have hP213 := kl _ _ hP212
  have lz := plen hTo
  refine ⟨_, rfl, .inl ⟨rfl, _, SqL.of hL13⟩, l, _, _, rfl, rfl, hL13, small1000 (by omega), ?_⟩
  have nP1 : p1 ≠ l := ne_of_none hP1 hl
  have nP2 : p2 ≠ l := ne_of_none hP2 hl
  have nHd : hd ≠ l := ne_of_none hHd hl
  have nZ : z ≠ l := fun h => by
    have := y12 _ _ hL
    rw [← h, hz] at this
    cases this
  have hZ14 : upd H13 l (.lst (ys ++ [.int 0])) z = some (.lst zs) := by rw [upd_ne nZ]; exact hZ13
  have hHd14 : upd H13 l (.lst (ys ++ [.int 0])) hd = some (.lst [.ref p1, .ref p2]) := by rw [upd_ne nHd]; exact hHd13
  have hP114 : upd H13 l (.lst (ys ++ [.int 0])) p1 = some (.lst (gs.map V.str)) := by rw [upd_ne nP1]; exact hP113
  have hP214 : upd H13 l (.lst (ys ++ [.int 0])) p2 = some (.lst (vs.map V.int)) := by rw [upd_ne nP2]; exact hP213
  have hT14 : Told (upd H13 l (.lst (ys ++ [.int 0]))) gs zs (kindsL R F gs.length) := pmap (fun y e ⟨⟨d1, a1, a2⟩, _⟩ => ⟨d1, a1, by rw [upd_ne (fun h => by rw [h, hL13] at a2; cases a2)]; exact a2⟩) kt
  generalize upd H13 l (.lst (ys ++ [.int 0])) = H14 at hZ14 hHd14 hP114 hP214 hT14
  -- asked again
  refine ⟨_, rfl, hd, _, _, V.ref p1, rfl, rfl, SqL.of hHd14, rfl, _, rfl, hd, _, _, V.ref p2, rfl, rfl, SqL.of hHd14, rfl, p1, p2, gs, vs, rfl, SqL.of hP114, SqL.of hP214, gn, vn, gl, vl, (fun _ l2 H15 ys2 R2 F2 s15 hl2 ris2 FL2 hL2 hTo2 => ?_), fun z => absurd z (by omega)⟩
  obtain ⟨rfl, rfl⟩ := ris.uniq ris2 (FL.trans FL2.symm)
  exact ⟨_, rfl, l2, z, ys2, zs, gs, _, rfl, hL2, s15 _ _ hZ14, hTo2, Told.same s15 hT14, lL, gn, gl, hE, fun H16 s16 => q H16⟩
end
end K15
set_option maxHeartbeats 4000000
namespace K15
open PySem L2 M16
theorem own_in {K : PySem.W.Frag} {h₀ : Heap} {mg : Str → Option Value} {x : Str} {C : Addr} {bmB : List Value} {newId : String} (X : K.In h₀) (G : h₀.Ns mainGlobals mg) (e : PySem.W.nsIn K mainGlobals x = some (some (.ref C))) (q : PySem.W.excIn K C bmB newId = true) : PyProof.Rows.OwnCls x C bmB newId mg h₀ := by
  refine ⟨PySem.W.mg_of X G e, ?_⟩
  unfold PySem.W.excIn at q
  split at q
  · rename_i dd cd sl ho
    split at q
    · rename_i C' bm k0 k1 k2 k3 n k5 hm hs
      simp only [Bool.and_eq_true, beq_iff_eq, Bool.not_eq_true'] at q
      obtain ⟨⟨⟨⟨⟨rfl, rfl⟩, hdel⟩, ht⟩, hok⟩, hni⟩ := q
      obtain ⟨nm, bs, mro, ns, qn, hd, sn, sub, ab, col, del⟩ := cd
      dsimp only at hm hdel hok hni
      subst hm hdel
      have hsl : sl = #[k0, k1, k2, k3, some (.builtin n), k5] := by
        obtain ⟨l⟩ := sl
        simp only at hs
        rw [hs]
      subst hsl
      exact ⟨bm, ns, nm, qn, bs, hd, sn, sub, ab, col, dd, k0, k1, k2, k3, k5, _, X _ _ ho, .of_isNs (PySem.W.isNs_of_in X hok), PySem.W.nsMap_none_of_in X hok hni, PySem.W.tail_of_in X ht⟩
    · cases q
  · cases q
theorem all_mk {l : PySem.W.OpenLaw} {w : World} {K : PySem.W.Frag} {h : Heap} {tmost : Tok} {mg : Str → Option Value} {fa E_MaybeError E_NoFilling E_TooMany E_Twice E_Short E_NoColumn E_Unlike E_TooFew E_NoText E_NoName f_g0 f_g1 f_g2 f_g3 f_g4 f_g5 f_g6 f_g7 f_g8 f_g9 f_g10 f_g11 f_g12 f_g13 f_g14 : Addr} (X : K.In h) (G : h.Ns mainGlobals mg) (hfa : mg "law" = some (.ref fa))
    {od_g0 an_g0 od_g1 an_g1 od_g2 an_g2 od_g3 an_g3 od_g4 an_g4 od_g5 an_g5 od_g6 an_g6 od_g7 an_g7 od_g8 an_g8 od_g9 an_g9 od_g10 an_g10 od_g11 an_g11 od_g12 an_g12 od_g13 an_g13 od_g14 an_g14 : Option Addr} {sl_g0 sl_g1 sl_g2 sl_g3 sl_g4 sl_g5 sl_g6 sl_g7 sl_g8 sl_g9 sl_g10 sl_g11 sl_g12 sl_g13 sl_g14 : Array (Option Value)} {oc_g0 kV_g0 dc_g0 pm_g0 cd_g0 ct_g0 oc_g1 kV_g1 dc_g1 pm_g1 cd_g1 ct_g1 oc_g2 kV_g2 dc_g2 pm_g2 cd_g2 ct_g2 oc_g3 kV_g3 dc_g3 pm_g3 cd_g3 ct_g3 oc_g4 kV_g4 dc_g4 pm_g4 cd_g4 ct_g4 oc_g5 kV_g5 dc_g5 pm_g5 cd_g5 ct_g5 oc_g6 kV_g6 dc_g6 pm_g6 cd_g6 ct_g6 oc_g7 kV_g7 dc_g7 pm_g7 cd_g7 ct_g7 oc_g8 kV_g8 dc_g8 pm_g8 cd_g8 ct_g8 oc_g9 kV_g9 dc_g9 pm_g9 cd_g9 ct_g9 oc_g10 kV_g10 dc_g10 pm_g10 cd_g10 ct_g10 oc_g11 kV_g11 dc_g11 pm_g11 cd_g11 ct_g11 oc_g12 kV_g12 dc_g12 pm_g12 cd_g12 ct_g12 oc_g13 kV_g13 dc_g13 pm_g13 cd_g13 ct_g13 oc_g14 kV_g14 dc_g14 pm_g14 cd_g14 ct_g14 : Value}
    (n_E_MaybeError : PySem.W.nsIn K mainGlobals "MaybeError" = some (some (.ref E_MaybeError)))
    (n_E_NoFilling : PySem.W.nsIn K mainGlobals "NoFilling" = some (some (.ref E_NoFilling)))
    (n_E_TooMany : PySem.W.nsIn K mainGlobals "TooMany" = some (some (.ref E_TooMany)))
    (n_E_Twice : PySem.W.nsIn K mainGlobals "Twice" = some (some (.ref E_Twice)))
    (n_E_Short : PySem.W.nsIn K mainGlobals "Short" = some (some (.ref E_Short)))
    (n_E_NoColumn : PySem.W.nsIn K mainGlobals "NoColumn" = some (some (.ref E_NoColumn)))
    (n_E_Unlike : PySem.W.nsIn K mainGlobals "Unlike" = some (some (.ref E_Unlike)))
    (n_E_TooFew : PySem.W.nsIn K mainGlobals "TooFew" = some (some (.ref E_TooFew)))
    (n_E_NoText : PySem.W.nsIn K mainGlobals "NoText" = some (some (.ref E_NoText)))
    (n_E_NoName : PySem.W.nsIn K mainGlobals "NoName" = some (some (.ref E_NoName)))
    (a_g0 : PySem.W.nsIn K mainGlobals "bound" = some (some (.ref f_g0)))
    (l_g0 : K.lookup f_g0 = some ⟨oc_g0, od_g0, .func (PySem.W.fnOf "bound" "bound" (defArgs sBound) (defBody sBound) (defScope sBound) .none kV_g0 dc_g0 pm_g0 an_g0 cd_g0 ct_g0), sl_g0⟩)
    (c_g0 : PySem.W.codeIn K cd_g0 "bound" = true)
    (k_g0 : PySem.W.keepIn K (.ref f_g0) = true)
    (a_g1 : PySem.W.nsIn K mainGlobals "check_bound" = some (some (.ref f_g1)))
    (l_g1 : K.lookup f_g1 = some ⟨oc_g1, od_g1, .func (PySem.W.fnOf "check_bound" "check_bound" (defArgs sCheck) (defBody sCheck) (defScope sCheck) .none kV_g1 dc_g1 pm_g1 an_g1 cd_g1 ct_g1), sl_g1⟩)
    (c_g1 : PySem.W.codeIn K cd_g1 "check_bound" = true)
    (k_g1 : PySem.W.keepIn K (.ref f_g1) = true)
    (a_g2 : PySem.W.nsIn K mainGlobals "fresh_values" = some (some (.ref f_g2)))
    (l_g2 : K.lookup f_g2 = some ⟨oc_g2, od_g2, .func (PySem.W.fnOf "fresh_values" "fresh_values" (defArgs sFresh) (defBody sFresh) (defScope sFresh) .none kV_g2 dc_g2 pm_g2 an_g2 cd_g2 ct_g2), sl_g2⟩)
    (c_g2 : PySem.W.codeIn K cd_g2 "fresh_values" = true)
    (k_g2 : PySem.W.keepIn K (.ref f_g2) = true)
    (a_g3 : PySem.W.nsIn K mainGlobals "lengthened" = some (some (.ref f_g3)))
    (l_g3 : K.lookup f_g3 = some ⟨oc_g3, od_g3, .func (PySem.W.fnOf "lengthened" "lengthened" (defArgs sLength) (defBody sLength) (defScope sLength) .none kV_g3 dc_g3 pm_g3 an_g3 cd_g3 ct_g3), sl_g3⟩)
    (c_g3 : PySem.W.codeIn K cd_g3 "lengthened" = true)
    (k_g3 : PySem.W.keepIn K (.ref f_g3) = true)
    (a_g4 : PySem.W.nsIn K mainGlobals "kinds" = some (some (.ref f_g4)))
    (l_g4 : K.lookup f_g4 = some ⟨oc_g4, od_g4, .func (PySem.W.fnOf "kinds" "kinds" (defArgs sKinds) (defBody sKinds) (defScope sKinds) .none kV_g4 dc_g4 pm_g4 an_g4 cd_g4 ct_g4), sl_g4⟩)
    (c_g4 : PySem.W.codeIn K cd_g4 "kinds" = true)
    (k_g4 : PySem.W.keepIn K (.ref f_g4) = true)
    (a_g5 : PySem.W.nsIn K mainGlobals "_law_at" = some (some (.ref f_g5)))
    (l_g5 : K.lookup f_g5 = some ⟨oc_g5, od_g5, .func (PySem.W.fnOf "_law_at" "_law_at" (defArgs sAt) (defBody sAt) (defScope sAt) .none kV_g5 dc_g5 pm_g5 an_g5 cd_g5 ct_g5), sl_g5⟩)
    (c_g5 : PySem.W.codeIn K cd_g5 "_law_at" = true)
    (k_g5 : PySem.W.keepIn K (.ref f_g5) = true)
    (a_g6 : PySem.W.nsIn K mainGlobals "_law_names" = some (some (.ref f_g6)))
    (l_g6 : K.lookup f_g6 = some ⟨oc_g6, od_g6, .func (PySem.W.fnOf "_law_names" "_law_names" (defArgs sNames) (defBody sNames) (defScope sNames) .none kV_g6 dc_g6 pm_g6 an_g6 cd_g6 ct_g6), sl_g6⟩)
    (c_g6 : PySem.W.codeIn K cd_g6 "_law_names" = true)
    (k_g6 : PySem.W.keepIn K (.ref f_g6) = true)
    (a_g7 : PySem.W.nsIn K mainGlobals "_law_value" = some (some (.ref f_g7)))
    (l_g7 : K.lookup f_g7 = some ⟨oc_g7, od_g7, .func (PySem.W.fnOf "_law_value" "_law_value" (defArgs sValue) (defBody sValue) (defScope sValue) .none kV_g7 dc_g7 pm_g7 an_g7 cd_g7 ct_g7), sl_g7⟩)
    (c_g7 : PySem.W.codeIn K cd_g7 "_law_value" = true)
    (k_g7 : PySem.W.keepIn K (.ref f_g7) = true)
    (a_g8 : PySem.W.nsIn K mainGlobals "_law_gaps" = some (some (.ref f_g8)))
    (l_g8 : K.lookup f_g8 = some ⟨oc_g8, od_g8, .func (PySem.W.fnOf "_law_gaps" "_law_gaps" (defArgs sGaps) (defBody sGaps) (defScope sGaps) .none kV_g8 dc_g8 pm_g8 an_g8 cd_g8 ct_g8), sl_g8⟩)
    (c_g8 : PySem.W.codeIn K cd_g8 "_law_gaps" = true)
    (k_g8 : PySem.W.keepIn K (.ref f_g8) = true)
    (a_g9 : PySem.W.nsIn K mainGlobals "_law_values" = some (some (.ref f_g9)))
    (l_g9 : K.lookup f_g9 = some ⟨oc_g9, od_g9, .func (PySem.W.fnOf "_law_values" "_law_values" (defArgs sValues) (defBody sValues) (defScope sValues) .none kV_g9 dc_g9 pm_g9 an_g9 cd_g9 ct_g9), sl_g9⟩)
    (c_g9 : PySem.W.codeIn K cd_g9 "_law_values" = true)
    (k_g9 : PySem.W.keepIn K (.ref f_g9) = true)
    (a_g10 : PySem.W.nsIn K mainGlobals "_law_next" = some (some (.ref f_g10)))
    (l_g10 : K.lookup f_g10 = some ⟨oc_g10, od_g10, .func (PySem.W.fnOf "_law_next" "_law_next" (defArgs sNext) (defBody sNext) (defScope sNext) .none kV_g10 dc_g10 pm_g10 an_g10 cd_g10 ct_g10), sl_g10⟩)
    (c_g10 : PySem.W.codeIn K cd_g10 "_law_next" = true)
    (k_g10 : PySem.W.keepIn K (.ref f_g10) = true)
    (a_g11 : PySem.W.nsIn K mainGlobals "_law_due" = some (some (.ref f_g11)))
    (l_g11 : K.lookup f_g11 = some ⟨oc_g11, od_g11, .func (PySem.W.fnOf "_law_due" "_law_due" (defArgs sDue) (defBody sDue) (defScope sDue) .none kV_g11 dc_g11 pm_g11 an_g11 cd_g11 ct_g11), sl_g11⟩)
    (c_g11 : PySem.W.codeIn K cd_g11 "_law_due" = true)
    (k_g11 : PySem.W.keepIn K (.ref f_g11) = true)
    (a_g12 : PySem.W.nsIn K mainGlobals "_law_told" = some (some (.ref f_g12)))
    (l_g12 : K.lookup f_g12 = some ⟨oc_g12, od_g12, .func (PySem.W.fnOf "_law_told" "_law_told" (defArgs sTold) (defBody sTold) (defScope sTold) .none kV_g12 dc_g12 pm_g12 an_g12 cd_g12 ct_g12), sl_g12⟩)
    (c_g12 : PySem.W.codeIn K cd_g12 "_law_told" = true)
    (k_g12 : PySem.W.keepIn K (.ref f_g12) = true)
    (a_g13 : PySem.W.nsIn K mainGlobals "_law_refused" = some (some (.ref f_g13)))
    (l_g13 : K.lookup f_g13 = some ⟨oc_g13, od_g13, .func (PySem.W.fnOf "_law_refused" "_law_refused" (defArgs sRefused) (defBody sRefused) (defScope sRefused) .none kV_g13 dc_g13 pm_g13 an_g13 cd_g13 ct_g13), sl_g13⟩)
    (c_g13 : PySem.W.codeIn K cd_g13 "_law_refused" = true)
    (k_g13 : PySem.W.keepIn K (.ref f_g13) = true)
    (a_g14 : PySem.W.nsIn K mainGlobals "law" = some (some (.ref f_g14)))
    (l_g14 : K.lookup f_g14 = some ⟨oc_g14, od_g14, .func (PySem.W.fnOf "law" "law" (defArgs sLaw) (defBody sLaw) (defScope sLaw) .none kV_g14 dc_g14 pm_g14 an_g14 cd_g14 ct_g14), sl_g14⟩)
    (c_g14 : PySem.W.codeIn K cd_g14 "law" = true)
    (k_g14 : PySem.W.keepIn K (.ref f_g14) = true)
    (gt : PySem.W.specialIn K (.builtin "object.__class__") "__get__" = some (some (.builtin "getset_descriptor.__get__")))
    (tk : PySem.W.takesIn K (.builtin "object.__class__") = some true)
    (xg : PySem.W.findIn K (.ref E_TooMany) "__getattribute__" = some (some (.builtin "BaseException.__getattribute__")))
    (xt : PySem.W.findIn K (.ref E_TooMany) "__getattr__" = some none)
    (xb : PySem.W.mroIn K E_TooMany (.type "BaseException") = some true)
    (xh : PySem.W.hasDictIn K E_TooMany = true)
    (xa : PySem.W.findIn K (.ref E_TooMany) "__class__" = some (some (.builtin "object.__class__")))
    (xm : PySem.W.mroIn K E_TooMany (.type "object") = some true)
    (xe : PySem.W.excIn K E_TooMany [.type "ValueError", .type "Exception", .type "BaseException", .type "object"] "ValueError.__new__" = true)
    (xv : PySem.W.kitOne K (.ref E_TooMany) (.type "ValueError") = some true)
    (xo : PySem.W.kitOne K (.ref E_TooMany) (.ref E_MaybeError) = some true)
    (x1 : PySem.W.kitAny K (.ref E_TooMany) [.ref E_NoColumn, .ref E_NoFilling, .ref E_NoName, .ref E_NoText, .ref E_Short] = some false)
    (x2 : PySem.W.kitAny K (.ref E_TooMany) [.ref E_TooFew, .ref E_Twice, .ref E_Unlike] = some false)
    (z0 : PySem.W.nsIn K mainGlobals "range" = some none)
    (z1 : PySem.W.nsIn K mainGlobals "len" = some none)
    (z2 : PySem.W.nsIn K mainGlobals "sorted" = some none)
    (z3 : PySem.W.nsIn K mainGlobals "list" = some none)
    (z4 : PySem.W.nsIn K mainGlobals "dict" = some none)
    (z5 : PySem.W.nsIn K mainGlobals "isinstance" = some none)
    (z6 : PySem.W.nsIn K mainGlobals "bool" = some none)
    (z7 : PySem.W.nsIn K mainGlobals "int" = some none)
    (z8 : PySem.W.nsIn K mainGlobals "zip" = some none)
    (z9 : PySem.W.nsIn K mainGlobals "all" = some none)
    (z10 : PySem.W.nsIn K mainGlobals "ValueError" = some none)
    (zm : PySem.W.nsIn K mainGlobals "MOST_KINDS" = some (some (.int 1000 tmost))) :
    ∃ fd : FuncData, (∀ (s : Shared) (v : Value), BindsTo s fd ⟨[v], []⟩ [("_law_script", v)]) ∧ ∀ base : Heap, K.In base → base.Ns mainGlobals mg → FnOk l.prog w K mg base CX0 7 fa fd ["_law_script"] (spLaw K) := by
  have e := hfa.symm.trans (PySem.W.mg_of X G a_g14)
  cases e
  have TX : Txt mg := ⟨PySem.W.mg_none_of X G z0, PySem.W.mg_none_of X G z1, PySem.W.mg_none_of X G z2, PySem.W.mg_none_of X G z3, PySem.W.mg_none_of X G z4, PySem.W.mg_none_of X G z5, PySem.W.mg_none_of X G z6, PySem.W.mg_none_of X G z7, PySem.W.mg_none_of X G z8, PySem.W.mg_none_of X G z9, PySem.W.mg_none_of X G z10, ⟨_, PySem.W.mg_of X G zm⟩⟩
  have F_g0 := fun_mk (st := sBound) l_g0 c_g0 k_g0
  have b_g0 := F_g0.binds (ps := ["gaps", "values"]) fun _ _ _ _ _ _ us hl => match us, hl with | [_, _], _ => rfl
  have F_g1 := fun_mk (st := sCheck) l_g1 c_g1 k_g1
  have b_g1 := F_g1.binds (ps := ["gaps", "values"]) fun _ _ _ _ _ _ us hl => match us, hl with | [_, _], _ => rfl
  have F_g2 := fun_mk (st := sFresh) l_g2 c_g2 k_g2
  have b_g2 := F_g2.binds (ps := ["values", "many"]) fun _ _ _ _ _ _ us hl => match us, hl with | [_, _], _ => rfl
  have F_g3 := fun_mk (st := sLength) l_g3 c_g3 k_g3
  have b_g3 := F_g3.binds (ps := ["started", "gap", "rising", "fresh"]) fun _ _ _ _ _ _ us hl => match us, hl with | [_, _, _, _], _ => rfl
  have F_g4 := fun_mk (st := sKinds) l_g4 c_g4 k_g4
  have b_g4 := F_g4.binds (ps := ["gaps", "values"]) fun _ _ _ _ _ _ us hl => match us, hl with | [_, _], _ => rfl
  have F_g5 := fun_mk (st := sAt) l_g5 c_g5 k_g5
  have b_g5 := F_g5.binds (ps := ["_law_script", "_law_k"]) fun _ _ _ _ _ _ us hl => match us, hl with | [_, _], _ => rfl
  have F_g6 := fun_mk (st := sNames) l_g6 c_g6 k_g6
  have b_g6 := F_g6.binds (ps := ["_law_cell"]) fun _ _ _ _ _ _ us hl => match us, hl with | [_], _ => rfl
  have F_g7 := fun_mk (st := sValue) l_g7 c_g7 k_g7
  have b_g7 := F_g7.binds (ps := ["_law_cell"]) fun _ _ _ _ _ _ us hl => match us, hl with | [_], _ => rfl
  have F_g8 := fun_mk (st := sGaps) l_g8 c_g8 k_g8
  have b_g8 := F_g8.binds (ps := ["_law_script"]) fun _ _ _ _ _ _ us hl => match us, hl with | [_], _ => rfl
  have F_g9 := fun_mk (st := sValues) l_g9 c_g9 k_g9
  have b_g9 := F_g9.binds (ps := ["_law_script"]) fun _ _ _ _ _ _ us hl => match us, hl with | [_], _ => rfl
  have F_g10 := fun_mk (st := sNext) l_g10 c_g10 k_g10
  have b_g10 := F_g10.binds (ps := ["_law_values_here", "_law_new"]) fun _ _ _ _ _ _ us hl => match us, hl with | [_, _], _ => rfl
  have F_g11 := fun_mk (st := sDue) l_g11 c_g11 k_g11
  have b_g11 := F_g11.binds (ps := ["_law_gaps_here", "_law_values_here", "_law_chosen_so", "_law_new"]) fun _ _ _ _ _ _ us hl => match us, hl with | [_, _, _, _], _ => rfl
  have F_g12 := fun_mk (st := sTold) l_g12 c_g12 k_g12
  have b_g12 := F_g12.binds (ps := ["_law_found", "_law_due_here"]) fun _ _ _ _ _ _ us hl => match us, hl with | [_, _], _ => rfl
  have F_g13 := fun_mk (st := sRefused) l_g13 c_g13 k_g13
  have b_g13 := F_g13.binds (ps := ["_law_gaps_here", "_law_values_here"]) fun _ _ _ _ _ _ us hl => match us, hl with | [_, _], _ => rfl
  have F_g14 := fun_mk (st := sLaw) l_g14 c_g14 k_g14
  have b_g14 := F_g14.binds (ps := ["_law_script"]) fun _ _ _ _ _ _ us hl => match us, hl with | [_], _ => rfl
  refine ⟨PySem.W.fnOf "law" "law" (defArgs sLaw) (defBody sLaw) (defScope sLaw) .none kV_g14 dc_g14 pm_g14 an_g14 cd_g14 ct_g14, fun s v => .of_eq rfl, fun base BX BG => ?_⟩
  have O := own_in BX BG n_E_TooMany xe
  have CE : ClsE K E_TooMany := ⟨xg, xt, xb, by obtain ⟨cd, hc, _⟩ := PySem.W.any_some xh; rw [hc]; rfl, xa, gt, tk, xm⟩
  have Z : Isx K mg E_TooMany [] := ⟨CE, xv, ⟨_, PySem.W.mg_of X G n_E_MaybeError, xo⟩, ⟨_, _, _, _, _, PySem.W.mg_of X G n_E_NoColumn, PySem.W.mg_of X G n_E_NoFilling, PySem.W.mg_of X G n_E_NoName, PySem.W.mg_of X G n_E_NoText, PySem.W.mg_of X G n_E_Short, x1⟩, ⟨_, _, _, PySem.W.mg_of X G n_E_TooFew, PySem.W.mg_of X G n_E_Twice, PySem.W.mg_of X G n_E_Unlike, x2⟩⟩
  have D0 : Cal l.prog w K mg base "bound" 1 ["gaps", "values"] spBound := ⟨_, _, ok_bound F_g0 TX, b_g0, k_g0, PySem.W.mg_of X G a_g0⟩
  have D1 : CalE l.prog w K mg base "check_bound" 2 ["gaps", "values"] (spCheck E_TooMany) := ⟨_, _, ok_check F_g1 TX O PySem.F.excBase_ValueError D0, b_g1, k_g1, PySem.W.mg_of X G a_g1⟩
  have D2 : Cal l.prog w K mg base "fresh_values" 1 ["values", "many"] (spFresh K) := ⟨_, _, ok_fresh F_g2 TX, b_g2, k_g2, PySem.W.mg_of X G a_g2⟩
  have D3 : Cal l.prog w K mg base "lengthened" 1 ["started", "gap", "rising", "fresh"] (spLength K) := ⟨_, _, ok_length F_g3 TX, b_g3, k_g3, PySem.W.mg_of X G a_g3⟩
  have D4 : CalE l.prog w K mg base "kinds" 3 ["gaps", "values"] (spKinds K E_TooMany) := ⟨_, _, ok_kinds F_g4 TX D1 D2 D3, b_g4, k_g4, PySem.W.mg_of X G a_g4⟩
  have D5 : Cal l.prog w K mg base "_law_at" 1 ["_law_script", "_law_k"] (spAt K) := ⟨_, _, ok_at F_g5, b_g5, k_g5, PySem.W.mg_of X G a_g5⟩
  have D6 : Cal l.prog w K mg base "_law_names" 1 ["_law_cell"] spNames := ⟨_, _, ok_names F_g6 TX, b_g6, k_g6, PySem.W.mg_of X G a_g6⟩
  have D7 : Cal l.prog w K mg base "_law_value" 1 ["_law_cell"] spValue := ⟨_, _, ok_value F_g7, b_g7, k_g7, PySem.W.mg_of X G a_g7⟩
  have D8 : Cal l.prog w K mg base "_law_gaps" 2 ["_law_script"] (spGaps K) := ⟨_, _, ok_gaps F_g8 TX D5 D6, b_g8, k_g8, PySem.W.mg_of X G a_g8⟩
  have D9 : Cal l.prog w K mg base "_law_values" 2 ["_law_script"] (spValues K) := ⟨_, _, ok_values F_g9 TX D5 D7, b_g9, k_g9, PySem.W.mg_of X G a_g9⟩
  have D10 : Cal l.prog w K mg base "_law_next" 1 ["_law_values_here", "_law_new"] (spNext K) := ⟨_, _, ok_next F_g10, b_g10, k_g10, PySem.W.mg_of X G a_g10⟩
  have D11 : Cal l.prog w K mg base "_law_due" 6 ["_law_gaps_here", "_law_values_here", "_law_chosen_so", "_law_new"] (spDue K 4) := ⟨_, _, ok_due F_g11 TX D10 b_g11 k_g11 (PySem.W.mg_of X G a_g11) 4, b_g11, k_g11, PySem.W.mg_of X G a_g11⟩
  have D12 : Cal l.prog w K mg base "_law_told" 1 ["_law_found", "_law_due_here"] (spTold K) := ⟨_, _, ok_told F_g12 TX, b_g12, k_g12, PySem.W.mg_of X G a_g12⟩
  have D13 : Cal l.prog w K mg base "_law_refused" 4 ["_law_gaps_here", "_law_values_here"] (spRefused K) := ⟨_, _, ok_refused F_g13 TX O PySem.F.excBase_ValueError Z D4, b_g13, k_g13, PySem.W.mg_of X G a_g13⟩
  exact ok_law F_g14 TX D8 D9 D0 D13 D4 D11 D12
theorem walk {l : PySem.W.OpenLaw} {q : Program} {loose : List Str} {XP : (Str → Option Value) → Heap → Prop} {YP : World → Heap → Prop} {d : DefRec} {K : Params → PySem.W.Frag} (hn : l.most = some 63) (hdf : d.params.defaults = [])
    (hY : ∀ (w : World) (h : Heap), YP w h → (K w.params).In h)
    (F : ∀ (w : World) (mg : Str → Option Value) (fa : Addr) (h : Heap), (K w.params).In h → h.Ns mainGlobals mg → mg d.name = some (.ref fa) →
      ∃ fd : FuncData, (∀ (s : Shared) (u : Value), BindsTo s fd ⟨[u], []⟩ [("_law_script", u)]) ∧ ∀ base : Heap, (K w.params).In base → base.Ns mainGlobals mg → FnOk l.prog w (K w.params) mg base CX0 7 fa fd ["_law_script"] (spLaw (K w.params))) :
    PySem.W.WalkO q loose XP YP l.row.toRowW d [] (fun f vs => PySem.call f vs) :=
  L2.walk_of (n := 63) (k := 7) (x := "_law_script") (CX := fun _ => CX0) (sp := fun w => spLaw (K w.params)) hn (by decide) hdf ⟨rfl, by decide, by decide⟩ hY F (fun _ _ a ns hl _ hS => ⟨a, ns, rfl, hS, hl, fun _ => rfl⟩) fun _ _ _ _ _ z => z
end K15
namespace HD
open PySem PySem.W PyProof.Rows
abbrev pr : Program := PySem.Challenge.rw_maybetables_k15_whole_kinds_told.row.toRowW.prog
def vw : Program := { pr with main := { pr.main with body := pr.main.body.drop 28 } }
def lo : List Str := ["__name__", "MaybeError", "NoFilling", "TooMany", "Twice", "Short", "NoColumn", "Unlike", "TooFew", "NoText", "NoName", "MOST_KINDS", "bound", "check_bound", "fresh_values", "lengthened", "kinds", "_law_at", "_law_names", "_law_value", "_law_gaps", "_law_values", "_law_next", "_law_due", "_law_told", "_law_refused"]
end HD
open PySem PySem.W PyProof.Rows
local macro_rules
  | `(tactic| o_head $H) => `(tactic|
      refine holds_open (q := HD.vw) (loose := HD.lo) (Xt := fun s => xlAt HD.vw [] s && recOk (RowW.records (PySem.Challenge.rw_maybetables_k15_whole_kinds_told.row.toRowW)) s)
        (XP := XL HD.vw []) (Yf := Hook.obs $H) (Ya := Hook.val $H) (YP := Hook.says $H) (N := 20000)
        ?$(Lean.mkIdent `hl) (Hook.of $H) (Hook.keeps $H) (fun s e => xl_of s (Bool.and_eq_true_iff.mp e).1) XL.keeps (by rfl) (by rfl) (by rfl)
        (fun s e => recFacts_of (Bool.and_eq_true_iff.mp e).2) (by rfl) (by first | assumption | decide +kernel) (by decide +kernel)
        ⟨rfl, rfl, rfl, rfl, rfl, by decide +kernel⟩ ?$(Lean.mkIdent `hw) ?$(Lean.mkIdent `hc))
set_option maxRecDepth 100000 in
set_option maxHeartbeats 0 in
theorem PySem.Challenge.cw_maybetables_k15_whole_kinds_told_holds : PySem.Challenge.rw_maybetables_k15_whole_kinds_told.Holds := by
  w_on; o_law; k_head
  (case hw => w_witness2)
  (case hl => exact HD.left_quick (boot_open (by kernel_rfl) (by decide +kernel) (fun s => by kernel_rfl)) (fun w os => by kernel_rfl))
  k_fill
  refine K15.walk (l := PySem.Challenge.rw_maybetables_k15_whole_kinds_told) rfl rfl (fun w h Y => PySem.W.kIn_of Y) ?F
  case F =>
    intro w mg fa h KX G hmg
    refine' K15.all_mk KX G hmg ?n_E_MaybeError ?n_E_NoFilling ?n_E_TooMany ?n_E_Twice ?n_E_Short ?n_E_NoColumn ?n_E_Unlike ?n_E_TooFew ?n_E_NoText ?n_E_NoName ?a_g0 ?l_g0 ?c_g0 ?k_g0 ?a_g1 ?l_g1 ?c_g1 ?k_g1 ?a_g2 ?l_g2 ?c_g2 ?k_g2 ?a_g3 ?l_g3 ?c_g3 ?k_g3 ?a_g4 ?l_g4 ?c_g4 ?k_g4 ?a_g5 ?l_g5 ?c_g5 ?k_g5 ?a_g6 ?l_g6 ?c_g6 ?k_g6 ?a_g7 ?l_g7 ?c_g7 ?k_g7 ?a_g8 ?l_g8 ?c_g8 ?k_g8 ?a_g9 ?l_g9 ?c_g9 ?k_g9 ?a_g10 ?l_g10 ?c_g10 ?k_g10 ?a_g11 ?l_g11 ?c_g11 ?k_g11 ?a_g12 ?l_g12 ?c_g12 ?k_g12 ?a_g13 ?l_g13 ?c_g13 ?k_g13 ?a_g14 ?l_g14 ?c_g14 ?k_g14 ?gt ?tk ?xg ?xt ?xb ?xh ?xa ?xm ?xe ?xv ?xo ?x1 ?x2 ?z0 ?z1 ?z2 ?z3 ?z4 ?z5 ?z6 ?z7 ?z8 ?z9 ?z10 ?zm
    (case n_E_MaybeError => k_is)
    (case n_E_NoFilling => k_is)
    (case n_E_TooMany => k_is)
    (case n_E_Twice => k_is)
    (case n_E_Short => k_is)
    (case n_E_NoColumn => k_is)
    (case n_E_Unlike => k_is)
    (case n_E_TooFew => k_is)
    (case n_E_NoText => k_is)
    (case n_E_NoName => k_is)
    (case a_g0 => k_is)
    (case l_g0 => k_is)
    (case c_g0 => k_is)
    (case k_g0 => k_is)
    (case a_g1 => k_is)
    (case l_g1 => k_is)
    (case c_g1 => k_is)
    (case k_g1 => k_is)
    (case a_g2 => k_is)
    (case l_g2 => k_is)
    (case c_g2 => k_is)
    (case k_g2 => k_is)
    (case a_g3 => k_is)
    (case l_g3 => k_is)
    (case c_g3 => k_is)
    (case k_g3 => k_is)
    (case a_g4 => k_is)
    (case l_g4 => k_is)
    (case c_g4 => k_is)
    (case k_g4 => k_is)
    (case a_g5 => k_is)
    (case l_g5 => k_is)
    (case c_g5 => k_is)
    (case k_g5 => k_is)
    (case a_g6 => k_is)
    (case l_g6 => k_is)
    (case c_g6 => k_is)
    (case k_g6 => k_is)
    (case a_g7 => k_is)
    (case l_g7 => k_is)
    (case c_g7 => k_is)
    (case k_g7 => k_is)
    (case a_g8 => k_is)
    (case l_g8 => k_is)
    (case c_g8 => k_is)
    (case k_g8 => k_is)
    (case a_g9 => k_is)
    (case l_g9 => k_is)
    (case c_g9 => k_is)
    (case k_g9 => k_is)
    (case a_g10 => k_is)
    (case l_g10 => k_is)
    (case c_g10 => k_is)
    (case k_g10 => k_is)
    (case a_g11 => k_is)
    (case l_g11 => k_is)
    (case c_g11 => k_is)
    (case k_g11 => k_is)
    (case a_g12 => k_is)
    (case l_g12 => k_is)
    (case c_g12 => k_is)
    (case k_g12 => k_is)
    (case a_g13 => k_is)
    (case l_g13 => k_is)
    (case c_g13 => k_is)
    (case k_g13 => k_is)
    (case a_g14 => k_is)
    (case l_g14 => k_is)
    (case c_g14 => k_is)
    (case k_g14 => k_is)
    (case gt => k_is)
    (case tk => k_is)
    (case xg => k_is)
    (case xt => k_is)
    (case xb => k_is)
    (case xh => k_is)
    (case xa => k_is)
    (case xm => k_is)
    (case xe => kernel_rfl)
    (case xv => kit_is)
    (case xo => kit_is)
    (case x1 => kit_is)
    (case x2 => kit_is)
    (case z0 => k_is)
    (case z1 => k_is)
    (case z2 => k_is)
    (case z3 => k_is)
    (case z4 => k_is)
    (case z5 => k_is)
    (case z6 => k_is)
    (case z7 => k_is)
    (case z8 => k_is)
    (case z9 => k_is)
    (case z10 => k_is)
    (case zm => k_is)
