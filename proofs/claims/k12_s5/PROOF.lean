import PyProof.Rows.All
import Wide.All
import OpenK.AllK
import Wide.FinOn
import Lean
import PyProof.EqAt
import PyProof.EqKinds
import PyProof.NeKinds
import PyProof.TupleCall
import PyProof.SetKind
import PyProof.Rows.SetFrom
import KE.KDictSum
import PyProof.Rows.SortStr
import OpenK.KCls
import PyProof.MeetsDictList
import PyProof.Rows.CallKwBuiltin
import PyProof.MinMaxWalk
import PyProof.ConsumeWalk
import PyProof.ZipIter
import PyProof.Rows.FactsT2
import PyProof.LayNew
import PyProof.Rows.StrMeet
import PySem.Challenge.RW_maybetables_k12_what_stands_in_a_conditi
set_option Elab.async false
set_option linter.all false
set_option maxRecDepth 100000
set_option Elab.async false
namespace HD
open PySem PySem.W PyProof.Rows
/-! ### the top's run, at one go, over a tree -/
noncomputable def topRunT (tb : String → Option Builtin) (p : Program) (w : World) (n₀ : Nat) (ann : Option Value) : Nat → SharedT → Thread → Option SharedT
  | 0, _, _ => none
  | n + 1, s, t => match through t with
    | true => some s
    | false => match stepOk n₀ ann t with
      | false => none
      | true => match stepT (denote tb) p w s t with
        | some r => topRunT tb p w n₀ ann n r.1 r.2
        | none => none
theorem topRun_of {tb : String → Option Builtin} {p : Program} {w : World} {n₀ : Nat} {ann : Option Value} : ∀ {n : Nat} {s s' : SharedT} {t : Thread}, topRunT tb p w n₀ ann n s t = some s' → topRun tb p w n₀ ann n s.abs t = some s'.abs
  | 0, _, _, _, h => by cases h
  | n + 1, s, s', t, h => by
    unfold topRunT at h
    unfold topRun
    cases hth : through t with
    | true => rw [hth] at h; cases h; rfl
    | false =>
      rw [hth] at h
      cases hb : stepOk n₀ ann t with
      | false => rw [hb] at h; cases h
      | true =>
        rw [hb] at h
        cases hst : stepT (denote tb) p w s t with
        | none => rw [hst] at h; cases h
        | some r =>
          obtain ⟨sB, tB⟩ := r
          rw [hst] at h
          rw [stepT_spec hst]
          exact topRun_of h
/-- the objects of a list behind those of a tree -/
def grow : List Obj → BT → Nat → Option BT
  | [], t, _ => some t
  | o :: r, t, n => match ((t.ins n o).get n).isSome with
    | true => grow r (t.ins n o) (n + 1)
    | false => none
theorem grow_abs {life : Life} : ∀ {l : List Obj} {t t' : BT} {n : Nat}, grow l t n = some t' → absHeap t' (n + l.length) life = ⟨(absHeap t n life).objs ++ l.toArray, life⟩
  | [], t, t', n, h => by
    cases h
    show absHeap t n life = _
    simp [absHeap]
  | o :: r, t, t', n, h => by
    unfold grow at h
    cases e : ((t.ins n o).get n).isSome with
    | false => rw [e] at h; cases h
    | true =>
      rw [e] at h
      have ih := grow_abs (life := life) h
      rw [absHeap_ins e] at ih
      rw [List.length_cons, show n + (r.length + 1) = n + 1 + r.length by omega, ih]
      show Heap.mk (((absHeap t n life).push o).objs ++ r.toArray) life = _
      show Heap.mk (((absHeap t n life).objs.push o) ++ r.toArray) life = _
      congr 1
      apply Array.toList_inj.mp
      simp
theorem grow_all {h : Heap} {t : BT} (e : grow h.objs.toList .nil 0 = some t) : absHeap t h.objs.size h.life = h := by
  have := grow_abs (life := h.life) e
  rw [Nat.zero_add, Array.length_toList] at this
  rw [this]
  cases h
  simp [absHeap, BT.list]
/-- what is seen behind it -/
noncomputable def seenT (p q : Program) (loose : List Str) (Xt : Shared → Bool) (as : List Addr) (s₀ s : Shared) :=
  ((staticsOk (importedModules p.main.body) s₀.heap s.heap && namesBound p s.heap && gensDone s && laidKept s₀.heap s.heap), openSeen q loose (importedModules p.main.body) Xt true s, as.map s.heap.get?)
noncomputable def bigT (p q : Program) (loose : List Str) (Xt : Shared → Bool) (as : List Addr) (N : Nat) (H₀ : Params → Heap) (w : World) (os : OsState) :=
  (grow (H₀ w.params).objs.toList .nil 0).bind fun t =>
    (topRunT treeTable p w (H₀ w.params).objs.size ((H₀ w.params).nsMap mainGlobals "__annotations__") N ⟨t, (H₀ w.params).objs.size, (H₀ w.params).life, Array.mk [], boot_drawn, boot_toks, os⟩ (topStub p)).map fun s =>
      ((H₀ w.params).isNs mainGlobals, seenT p q loose Xt as ⟨H₀ w.params, Array.mk [], boot_drawn, boot_toks, os⟩ s.abs)
theorem left_big {p q : Program} {loose : List Str} {Xt : Shared → Bool} {K : Params → Frag} {as : List Addr} {N : Nat}
    (o : ∀ w : World, (fencedOpening treeTable p w N).map (fun s => (s.heap, s.gens, s.drawn, s.toks)) = some (boot_heap w.params, Array.mk [], boot_drawn, boot_toks))
    (h : ∀ (w : World) (os : OsState), bigT p q loose Xt as N boot_heap w os = some (true, true, openGood q loose, (K w.params).map fun p => some p.2)) : LeftO p q loose Xt (fun s => as.map s.heap.get?) (fun w => (K w.params).map fun p => some p.2) N := fun w => by
  obtain ⟨⟨hh, gs, d, k, os⟩, e, e'⟩ := Option.map_eq_some_iff.mp (o w)
  obtain ⟨rfl, rfl, rfl, rfl⟩ : hh = boot_heap w.params ∧ gs = Array.mk [] ∧ d = boot_drawn ∧ k = boot_toks := by simpa using e'
  obtain ⟨t, h1, h2⟩ := Option.bind_eq_some_iff.mp (h w os)
  obtain ⟨s, h3, h4⟩ := Option.map_eq_some_iff.mp h2
  have ha := grow_all h1
  have h5 := topRun_of h3
  have e0 : (SharedT.mk t (boot_heap w.params).objs.size (boot_heap w.params).life #[] boot_drawn boot_toks os).abs = ⟨boot_heap w.params, Array.mk [], boot_drawn, boot_toks, os⟩ := by
    unfold SharedT.abs
    rw [ha]
  rw [e0] at h5
  obtain ⟨i1, i2⟩ := Prod.mk.inj h4
  unfold seenT at i2
  obtain ⟨i3, i4⟩ := Prod.mk.inj i2
  obtain ⟨i5, i6⟩ := Prod.mk.inj i4
  have z : ((boot_heap w.params).isNs mainGlobals && (Array.mk [] : Array GenState).size == 0) = true := by rw [i1]; rfl
  have t' : topFrom treeTable p w N ⟨boot_heap w.params, Array.mk [], boot_drawn, boot_toks, os⟩ = some s.abs := by
    unfold topFrom
    dsimp only
    rw [z, h5]
    show (match staticsOk (importedModules p.main.body) (boot_heap w.params) s.abs.heap && namesBound p s.abs.heap && gensDone s.abs && laidKept (boot_heap w.params) s.abs.heap with | true => some s.abs | false => none) = some s.abs
    rw [i3]
  unfold openEnds
  rw [e]
  show (topFrom treeTable p w N _).map _ = _
  rw [t']
  exact congrArg some (Prod.ext i5 i6)
noncomputable def goodT (q : Program) (loose : List Str) := openGood q loose
end HD
lay_quick HD.bigT
lay_quick HD.goodT

namespace HD
open PySem PySem.W PyProof.Rows
theorem left_quick {p q : Program} {loose : List Str} {Xt : Shared → Bool} {K : Params → Frag} {as : List Addr} {N : Nat}
    (o : ∀ w : World, (fencedOpening treeTable p w N).map (fun s => (s.heap, s.gens, s.drawn, s.toks)) = some (boot_heap w.params, Array.mk [], boot_drawn, boot_toks))
    (h : ∀ (w : World) (os : OsState), PySem.W.Fast.tw7652524407582654731 p q loose Xt as N boot_heap w os = some (true, true, PySem.W.Fast.tw17311637784456860124 q loose, (K w.params).map fun p => some p.2)) : LeftO p q loose Xt (fun s => as.map s.heap.get?) (fun w => (K w.params).map fun p => some p.2) N :=
  left_big o fun w os => by
    rw [PySem.W.Fast.te7652524407582654731]
    refine (h w os).trans ?_
    rw [← PySem.W.Fast.te17311637784456860124]
    rfl
end HD
/-! THE HAND LAYER, for ints, bools, texts, own classes, LISTS and tuples (index, slices, in, append, pop ..), calls, loops. Paste it whole ahead of your own text; what your proof does not reach may be deleted. -/
namespace L2
open PySem PySem.Spec PyProof.Rows

/-- a key: an int or a str -/
abbrev Key := Sum Int Str
def keyIs : Key → Value → Bool
  | .inl k, v => Value.isInt k v
  | .inr x, v => Value.isStrOf x v
def keyH (w : World) : Key → Int
  | .inl k => hashInt k
  | .inr x => hashStr w x
theorem keyIs_shape : ∀ {k : Key} {v : Value}, keyIs k v = true → (∃ i t, k = Sum.inl i ∧ v = Value.int i t) ∨ (∃ x t, k = Sum.inr x ∧ v = Value.str x t)
  | .inl i, v, h => by
    obtain ⟨t, e⟩ := Value.isInt_shape (k := i) (v := v) h
    exact .inl ⟨i, t, rfl, e⟩
  | .inr x, v, h => by
    obtain ⟨t, e⟩ := Value.isStrOf_shape (x := x) (v := v) h
    exact .inr ⟨x, t, rfl, e⟩
theorem keyIs_int (i : Int) (t : Tok) : keyIs (.inl i) (.int i t) = true := by simp [keyIs, Value.isInt]
theorem keyIs_str (x : Str) (t : Tok) : keyIs (.inr x) (.str x t) = true := by simp [keyIs, Value.isStrOf]
theorem key_ll (a b : Int) : decide ((Sum.inl a : Key) = Sum.inl b) = (a == b) := by
  by_cases e : a = b
  · subst e; simp
  · have h : ¬ (Sum.inl a : Key) = Sum.inl b := fun q => e (Sum.inl.inj q)
    rw [decide_eq_false h]
    exact (beq_eq_false_iff_ne.mpr e).symm
theorem key_rr (a b : Str) : decide ((Sum.inr a : Key) = Sum.inr b) = decide (a = b) := by
  by_cases e : a = b
  · subst e; simp
  · have h : ¬ (Sum.inr a : Key) = Sum.inr b := fun q => e (Sum.inr.inj q)
    rw [decide_eq_false h, decide_eq_false e]
theorem key_lr (a : Int) (b : Str) : decide ((Sum.inl a : Key) = Sum.inr b) = false := decide_eq_false (fun q => nomatch q)
theorem key_rl (a : Str) (b : Int) : decide ((Sum.inr a : Key) = Sum.inl b) = false := decide_eq_false (fun q => nomatch q)

def mixKind (prog : Program) (w : World) : PySem.KeyKind prog w Key where
  is := keyIs
  hash := keyH w
  inj := fun v a b ha hb => by
    rcases keyIs_shape ha with ⟨i, t, rfl, rfl⟩ | ⟨x, t, rfl, rfl⟩
    · rcases keyIs_shape hb with ⟨j, u, rfl, e⟩ | ⟨y, u, rfl, e⟩
      · injection e with e1 _; rw [e1]
      · exact nomatch e
    · rcases keyIs_shape hb with ⟨j, u, rfl, e⟩ | ⟨y, u, rfl, e⟩
      · exact nomatch e
      · injection e with e1 _; rw [e1]
  byValue := fun k v h => by
    rcases keyIs_shape h with ⟨i, t, rfl, rfl⟩ | ⟨x, t, rfl, rfl⟩ <;> rfl
  pyHash := fun hv h => by
    rcases keyIs_shape hv with ⟨i, t, rfl, rfl⟩ | ⟨x, t, rfl, rfl⟩
    · exact wpAny_pyHash_int h
    · exact wpAny_pyHash_str h
  eqBool := fun hu hv h => by
    rcases keyIs_shape hu with ⟨i, t, rfl, rfl⟩ | ⟨x, t, rfl, rfl⟩
    · rcases keyIs_shape hv with ⟨j, u, rfl, rfl⟩ | ⟨y, u, rfl, rfl⟩
      · rw [key_ll] at h; exact wpAny_eqBool_int h
      · rw [key_lr] at h; exact SeqAt.EqAt.int_str i t y u _ _ _ _ h
    · rcases keyIs_shape hv with ⟨j, u, rfl, rfl⟩ | ⟨y, u, rfl, rfl⟩
      · rw [key_rl] at h; exact SeqAt.EqAt.str_int x t j u _ _ _ _ h
      · rw [key_rr] at h; exact wpAny_eqBool_str h
  «strs» := fun k x t v h => by
    rcases keyIs_shape h with ⟨i, u, rfl, e⟩ | ⟨y, u, rfl, e⟩
    · exact nomatch e
    · injection e with e1 _
      subst e1
      cases v <;> rfl

theorem mixKind_is (prog : Program) (w : World) (k : Key) (v : Value) : (mixKind prog w).is k v = keyIs k v := rfl
theorem mixKind_int (prog : Program) (w : World) (i : Int) (t : Tok) : (mixKind prog w).is (.inl i) (.int i t) = true := keyIs_int i t
theorem mixKind_str (prog : Program) (w : World) (x : Str) (t : Tok) : (mixKind prog w).is (.inr x) (.str x t) = true := keyIs_str x t
end L2

namespace L2
open PySem PySem.Spec PyProof.Rows

/-- a value, without the heap -/
inductive V where
  | non | bl (b : Bool) | int (i : Int) | str (x : Str) | byt (b : Array UInt8) | flt (b : UInt64) | ref (a : Addr) | ty (n : String)
  deriving DecidableEq

def RelV : V → Value → Prop
  | .non, u => u = Value.none
  | .bl b, u => u = Value.bool b
  | .int i, u => ∃ t, u = Value.int i t
  | .str x, u => ∃ t, u = Value.str x t
  | .byt b, u => ∃ t, u = Value.bytes b t
  | .flt b, u => ∃ t, u = Value.float b t
  | .ref a, u => u = Value.ref a
  | .ty n, u => u = Value.type n

abbrev Vals : List V → List Value → Prop := Paired RelV
theorem Vals.length {xs : List V} {us : List Value} (r : Vals xs us) : xs.length = us.length := Paired.length r
theorem Vals.get : ∀ {xs : List V} {us : List Value} {i : Nat} {x : V}, Vals xs us → xs[i]? = some x → ∃ u, us[i]? = some u ∧ RelV x u
  | _, _, _, _, .nil, e => by simp at e
  | _, _, 0, _, .cons r _, e => by simp at e; subst e; exact ⟨_, rfl, r⟩
  | _, _, i + 1, x, .cons _ t, e => by
    obtain ⟨u, h1, h2⟩ := Vals.get (i := i) (x := x) t (by simpa using e)
    exact ⟨u, by simpa using h1, h2⟩
theorem Vals.append : ∀ {xs ys : List V} {us ws : List Value}, Vals xs us → Vals ys ws → Vals (xs ++ ys) (us ++ ws)
  | _, _, _, _, .nil, s => s
  | _, _, _, _, .cons r t, s => .cons r (Vals.append t s)
theorem Vals.take : ∀ {xs : List V} {us : List Value} (n : Nat), Vals xs us → Vals (xs.take n) (us.take n)
  | _, _, 0, _ => .nil
  | _, _, _ + 1, .nil => .nil
  | _, _, n + 1, .cons r t => .cons r (Vals.take n t)
theorem Vals.drop : ∀ {xs : List V} {us : List Value} (n : Nat), Vals xs us → Vals (xs.drop n) (us.drop n)
  | _, _, 0, r => r
  | _, _, _ + 1, .nil => .nil
  | _, _, n + 1, .cons _ t => Vals.drop n t

def RelO : Option V → Option Value → Prop
  | some v, some u => RelV v u
  | none, none => True
  | _, _ => False
def KV {κ : Type} : List (κ × V) → List (κ × Value) → Prop := Paired fun (p : κ × V) (q : κ × Value) => p.1 = q.1 ∧ RelV p.2 q.2

/-- a key of a dict (00_mix): an int or a text -/
def kV : Key → V
  | .inl i => .int i
  | .inr x => .str x

/-- what stands at a tracked address -/
inductive HO where
  /-- a list -/
  | lst (xs : List V)
  /-- a tuple (never changes) -/
  | tup (xs : List V)
  /-- a dict whose keys are ints and texts; one whose keys are tuples of ints and texts (the empty one is both) -/
  | dK (kvs : List (Key × V)) | dT (kvs : List (List Key × V))
  /-- a set of ints: its members, its size -/
  | set (S : Int → Bool) (n : Nat)
  /-- an instance of the class at C, its dict at dx, its attributes -/
  | ins (C dx : Addr) (fs : List (Str × V))
  /-- the dict of the instance at x -/
  | own (x : Addr)
  /-- the dict of an exception -/
  | xd (fs : List (Str × V))
  /-- a bound method, f of x -/
  | met (f x : Addr)
  /-- a range object lo, lo + 1, .. below hi -/
  | rng (lo hi : Int)
  /-- a thing that is known to the object (the script; a dict while a loop walks it): read, never written while it is so -/
  | frz (o : Obj) (u : HO)
  /-- a code object's table -/
  | tbl (ps : Array Value)
  /-- any other thing, by what is true of its one object (a def of one's own: SetO a S n := HO.ext fun h => ..) -/
  | ext (φ : Heap → Prop)

abbrev Hp := Addr → Option HO
def upd (H : Hp) (a : Addr) (o : HO) : Hp := fun b => if b = a then some o else H b
theorem upd_same {H : Hp} {a : Addr} {o : HO} : upd H a o a = some o := by unfold upd; rw [if_pos rfl]
theorem upd_ne {H : Hp} {a b : Addr} {o : HO} (h : b ≠ a) : upd H a o b = H b := by unfold upd; rw [if_neg h]
theorem ne_of_none {H : Hp} {a b : Addr} {o : HO} (h : H a = some o) (h' : H b = none) : a ≠ b := by
  intro e; subst e; rw [h] at h'; cases h'

/-- a tuple, without a dict of its own -/
def TupN (h : Heap) (a : Addr) (items : Array Value) : Prop := ∃ o, h.get? a = some o ∧ o.cls = .type "tuple" ∧ o.dict = none ∧ ∃ n, o.data = .seq items n
theorem TupN.tup {h : Heap} {a : Addr} {items : Array Value} (x : TupN h a items) : IsTup h a items := by
  obtain ⟨o, e, c, _, n, d⟩ := x
  exact ⟨o, e, c, n, d⟩
theorem TupN.lt {h : Heap} {a : Addr} {items : Array Value} (x : TupN h a items) : a < h.objs.size := by
  obtain ⟨o, e, _⟩ := x
  exact Heap.lt_size e
theorem TupN.new (h : Heap) (items : Array Value) : TupN (h.push { cls := .type "tuple", data := .seq items }) h.objs.size items := ⟨_, Heap.get?_push_size _ rfl, rfl, rfl, 0, rfl⟩
section
variable (P : Program) (w : World)
def ObjOk (H : Hp) (h : Heap) (a : Addr) : HO → Prop
  | .lst xs => xs.length ≤ sizeLine ∧ ∃ (its : List Value) (n : Nat), Vals xs its ∧ h.get? a = some { cls := .type "list", data := .seq its.toArray n }
  | .tup xs => xs.length ≤ sizeLine ∧ ∃ its : List Value, Vals xs its ∧ TupN h a its.toArray
  | .dK kvs => kvs.length ≤ sizeLine ∧ (a == sysModules) = false ∧ ∃ vs, KV kvs vs ∧ h.DictOf (mixKind P w) a vs
  | .dT kvs => kvs.length ≤ sizeLine ∧ (a == sysModules) = false ∧ ∃ xs : List (List Key × Addr × Value),
      Paired (fun (p : List Key × V) (q : List Key × Addr × Value) => p.1 = q.1 ∧ H q.2.1 = some (.tup (p.1.map kV)) ∧ RelV p.2 q.2.2) kvs xs ∧
      ∃ o es ep, h.get? a = some o ∧ o.ExactDict ∧ o.data = .dict es ep ∧ es.toList = xs.map (entryOfKey (tupleKind (mixKind P w))) ∧ (xs.map (·.1)).Nodup
  | .set S n => h.SetOf (intKind P w) a S n
  | .ins C dx fs => H dx = some (.own a) ∧ fs.length ≤ 1000 ∧ dx ≠ a ∧ h.get? a = some (PySem.W.instObj C dx) ∧
      ∃ mA, h.Ns1 dx mA ∧ (∀ f, RelO (fs.lookup f) (mA f)) ∧ PySem.Within mA (fs.map (·.1))
  | .own _ => ∃ o, h.get? a = some o
  | .xd fs => ∃ mA, h.Ns1 a mA ∧ ∀ f, RelO (fs.lookup f) (mA f)
  | .rng lo hi => ∃ t u v, h.get? a = some { cls := .type "range", data := .fields #[.int lo t, .int hi u, .int 1 v] }
  | .frz o u => h.get? a = some o ∧ ObjOk H h a u
  | .tbl ps => h.get? a = some { cls := .none, data := .fields ps }
  | .met f x => h.get? a = some (PySem.W.methodObj (.ref f) (.ref x))
  | .ext φ => φ h ∧ (∃ o, h.get? a = some o) ∧ ∀ h1 h2 : Heap, φ h1 → (∀ o, h1.get? a = some o → h2.get? a = some o) → φ h2
/-- the abstract heap is held -/
def HOk (H : Hp) (h : Heap) : Prop := ∀ a o, H a = some o → ObjOk P w H h a o
end

section
variable {P : Program} {w : World} {H H' : Hp} {h h' : Heap} {a : Addr} {o : HO}
theorem ObjOk.lt (x : ObjOk P w H h a o) : a < h.objs.size := by
  cases o with
  | lst xs => obtain ⟨_, _, _, _, e⟩ := x; exact Heap.lt_size e
  | tup xs => obtain ⟨_, _, _, p⟩ := x; exact p.lt
  | dK kvs => obtain ⟨_, _, _, _, o, _, _, e, _⟩ := x; exact Heap.lt_size e
  | dT kvs => obtain ⟨_, _, _, _, o, _, _, e, _⟩ := x; exact Heap.lt_size e
  | set S n => obtain ⟨o, _, _, _, e, _⟩ := x; exact Heap.lt_size e
  | ins C dx fs => obtain ⟨_, _, _, e, _⟩ := x; exact Heap.lt_size e
  | own y => obtain ⟨_, e⟩ := x; exact Heap.lt_size e
  | xd fs => obtain ⟨_, ⟨_, _, _, e, _⟩, _⟩ := x; exact Heap.lt_size e
  | rng lo hi => obtain ⟨_, _, _, e⟩ := x; exact Heap.lt_size e
  | frz ob u => obtain ⟨e, _⟩ := x; exact Heap.lt_size e
  | tbl ps => exact Heap.lt_size (show h.get? a = some _ from x)
  | met f y => exact Heap.lt_size (show h.get? a = some _ from x)
  | ext φ => obtain ⟨_, ⟨_, e⟩, _⟩ := x; exact Heap.lt_size e
theorem Paired.mapP {α β : Type} {F G : α → β → Prop} : ∀ {l₁ : List α} {l₂ : List β}, Paired F l₁ l₂ → (∀ a b, F a b → G a b) → Paired G l₁ l₂
  | _, _, .nil, _ => .nil
  | _, _, .cons r t, f => .cons (f _ _ r) (Paired.mapP t f)
/-- what an object's description leans on: its own object, its own dict, the tuples -/
theorem ObjOk.stay (x : ObjOk P w H h a o) (k : ∀ b u, (b = a ∨ H b = some (.own a)) → h.get? b = some u → h'.get? b = some u)
    (ho : ∀ b, H b = some (.own a) → H' b = some (.own a)) (ht : ∀ b xs, H b = some (.tup xs) → H' b = some (.tup xs)) : ObjOk P w H' h' a o := by
  induction o with
  | lst xs => obtain ⟨z, its, n, r, e⟩ := x; exact ⟨z, its, n, r, k _ _ (.inl rfl) e⟩
  | tup xs => obtain ⟨z, its, r, ob, e, c⟩ := x; exact ⟨z, its, r, ob, k _ _ (.inl rfl) e, c⟩
  | dK kvs => obtain ⟨z, y, vs, r, ob, es, ep, e, c⟩ := x; exact ⟨z, y, vs, r, ob, es, ep, k _ _ (.inl rfl) e, c⟩
  | dT kvs =>
    obtain ⟨z, y, xs, r, ob, es, ep, e, c⟩ := x
    exact ⟨z, y, xs, Paired.mapP r fun p q z => ⟨z.1, ht _ _ z.2.1, z.2.2⟩, ob, es, ep, k _ _ (.inl rfl) e, c⟩
  | set S n => obtain ⟨ob, es, ep, t, e, c⟩ := x; exact ⟨ob, es, ep, t, k _ _ (.inl rfl) e, c⟩
  | ins C dx fs =>
    obtain ⟨d, z, ne, e, mA, ⟨od, es, ep, e2, c⟩, r⟩ := x
    exact ⟨ho _ d, z, ne, k _ _ (.inl rfl) e, mA, ⟨od, es, ep, k _ _ (.inr d) e2, c⟩, r⟩
  | own y => obtain ⟨ob, e⟩ := x; exact ⟨ob, k _ _ (.inl rfl) e⟩
  | xd fs => obtain ⟨mA, ⟨od, es, ep, e, c⟩, r⟩ := x; exact ⟨mA, ⟨od, es, ep, k _ _ (.inl rfl) e, c⟩, r⟩
  | rng lo hi => obtain ⟨t, u, v, e⟩ := x; exact ⟨t, u, v, k _ _ (.inl rfl) e⟩
  | frz ob u ih => obtain ⟨e, q⟩ := x; exact ⟨k _ _ (.inl rfl) e, ih q⟩
  | tbl ps =>
    have e : h.get? a = some { cls := .none, data := .fields ps } := x
    show h'.get? a = some { cls := .none, data := .fields ps }
    exact k a _ (.inl rfl) e
  | met f y =>
    have e : h.get? a = some (PySem.W.methodObj (.ref f) (.ref y)) := x
    show h'.get? a = some (PySem.W.methodObj (.ref f) (.ref y))
    exact k a _ (.inl rfl) e
  | ext φ => obtain ⟨p, ⟨o, e⟩, st⟩ := x; exact ⟨st _ _ p fun o q => k _ _ (.inl rfl) q, ⟨o, k _ _ (.inl rfl) e⟩, st⟩
theorem HOk.lt (x : HOk P w H h) (e : H a = some o) : a < h.objs.size := (x a o e).lt
theorem HOk.fresh (x : HOk P w H h) (e : h.objs.size ≤ a) : H a = none := by
  cases q : H a with
  | none => rfl
  | some u => exact absurd (Nat.lt_of_lt_of_le (x.lt q) e) (Nat.lt_irrefl _)
/-- every object of the heap is kept -/
theorem HOk.kept (x : HOk P w H h) (k : ∀ b u, h.get? b = some u → h'.get? b = some u) : HOk P w H h' := fun a o e =>
  (x a o e).stay (fun b u _ q => k b u q) (fun _ q => q) fun _ _ q => q
/-- a new object is laid and tracked -/
theorem HOk.laid (x : HOk P w H h) (k : ∀ b u, h.get? b = some u → h'.get? b = some u) (hp : h.objs.size ≤ a) (new : ObjOk P w (upd H a o) h' a o) : HOk P w (upd H a o) h' := fun b u e => by
  have hn := x.fresh hp
  by_cases hb : b = a
  · subst hb; rw [upd_same] at e; cases e; exact new
  · rw [upd_ne hb] at e
    exact (x b u e).stay (fun c v _ q => k c v q) (fun c q => by rw [upd_ne (ne_of_none q hn)]; exact q) fun c xs q => by rw [upd_ne (ne_of_none q hn)]; exact q
end

/-- what may be read as u: it is u, or a known u -/
def Rd (H : Hp) (a : Addr) (u : HO) : Prop := H a = some u ∨ ∃ o, H a = some (.frz o u)
theorem Rd.ok {P : Program} {w : World} {H : Hp} {h : Heap} {a : Addr} {u : HO} (r : Rd H a u) (x : HOk P w H h) : ObjOk P w H h a u := by
  rcases r with r | ⟨o, r⟩
  · exact x a u r
  · obtain ⟨_, q⟩ := x a _ r
    exact q
/-- what may be written -/
def Mut : Option HO → Prop
  | some (.lst _) => True
  | some (.dK _) => True
  | some (.dT _) => True
  | some (.set _ _) => True
  | some (.ins _ _ _) => True
  | some (.ext _) => True
  | _ => False
section
variable {P : Program} {w : World} {H : Hp} {h h' : Heap} {x e : Addr} {o' : HO}
/-- the object at e is changed: x itself, or the dict of the instance x -/
theorem HOk.write (ok : HOk P w H h) (mu : Mut (H x)) (he : e = x ∨ H e = some (.own x)) (k : ∀ b u, b ≠ e → h.get? b = some u → h'.get? b = some u) (heo : ∃ u, h'.get? e = some u)
    (new : ObjOk P w (upd H x o') h' x o') : HOk P w (upd H x o') h' := fun b u q => by
  have nown : ∀ c y, H c = some (.own y) → c ≠ x := fun c y r z => by subst z; rw [r] at mu; exact mu
  have ntup : ∀ c xs, H c = some (.tup xs) → c ≠ x := fun c xs r z => by subst z; rw [r] at mu; exact mu
  by_cases hb : b = x
  · subst hb; rw [upd_same] at q; cases q; exact new
  · rw [upd_ne hb] at q
    by_cases hbe : b = e
    · have q' : H b = some (.own x) := by
        rcases he with z | z
        · exact absurd (hbe.trans z) hb
        · rw [hbe]; exact z
      rw [q] at q'; cases q'
      obtain ⟨v, hv⟩ := heo
      exact ⟨v, by rw [hbe]; exact hv⟩
    · refine (ok b u q).stay (fun c v hc r => k c v ?_ r) (fun c r => by rw [upd_ne (nown c b r)]; exact r) fun c xs r => by rw [upd_ne (ntup c xs r)]; exact r
      rcases hc with rfl | hc
      · exact hbe
      · rintro rfl
        rcases he with z | z
        · exact nown c b hc z
        · rw [hc] at z; cases z; exact hb rfl
end

/-! ### kept unless tracked; of the frames at fs (the callers') the slots may change (an exception that passes writes there); of the records at ex (iterators) nothing is said -/
structure Un (fs ex : List Addr) (H H' : Hp) (h h' : Heap) : Prop where
  keep : ∀ b o, h.get? b = some o → H b = none → b ∉ fs → b ∉ ex → h'.get? b = some o
  slot : ∀ b o, h.get? b = some o → H b = none → b ∈ fs → b ∉ ex → ∃ sl, h'.get? b = some { o with slots := sl }
  free : ∀ b o, h.get? b = some o → H b = none → b ∉ ex → H' b = none
  there : ∀ b o, h.get? b = some o → b ∉ ex → ∃ o', h'.get? b = some o'
  tups : ∀ b xs, H b = some (.tup xs) → H' b = some (.tup xs)
  frzs : ∀ b o u, H b = some (.frz o u) → H' b = some (.frz o u)
  tbls : ∀ b ps, H b = some (.tbl ps) → ∃ more, H' b = some (.tbl (ps ++ more))
section
variable {fs fs' ex ex' : List Addr} {H H1 H2 : Hp} {h h1 h2 h' : Heap} {a x e : Addr} {o : HO}
theorem Un.any (u : Un fs ex H H1 h h1) {b : Addr} {ob : Obj} (q : h.get? b = some ob) (n : H b = none) (hx : b ∉ ex) : ∃ sl, h1.get? b = some { ob with slots := sl } := by
  by_cases hb : b ∈ fs
  · exact u.slot b ob q n hb hx
  · exact ⟨ob.slots, u.keep b ob q n hb hx⟩
theorem Un.kept (k : ∀ b u, h.get? b = some u → h'.get? b = some u) : Un fs ex H H h h' :=
  ⟨fun b ob q _ _ _ => k b ob q, fun b ob q _ _ _ => ⟨ob.slots, k b ob q⟩, fun _ _ _ n _ => n, fun b ob q _ => ⟨ob, k b ob q⟩, fun _ _ q => q, fun _ _ _ q => q, fun _ ps q => ⟨#[], by rw [q]; simp⟩⟩
theorem Un.refl : Un fs ex H H h h := Un.kept fun _ _ q => q
theorem Un.laid (k : ∀ b u, h.get? b = some u → h'.get? b = some u) (hp : h.objs.size ≤ a) (hn : H a = none) : Un fs ex H (upd H a o) h h' where
  keep := fun b u q _ _ _ => k b u q
  slot := fun b u q _ _ _ => ⟨u.slots, k b u q⟩
  free := fun b u q n _ => by rw [upd_ne (Nat.ne_of_lt (Nat.lt_of_lt_of_le (Heap.lt_size q) hp))]; exact n
  there := fun b u q _ => ⟨u, k b u q⟩
  tups := fun b xs q => by rw [upd_ne (ne_of_none q hn)]; exact q
  frzs := fun b u xs q => by rw [upd_ne (ne_of_none q hn)]; exact q
  tbls := fun b ps q => ⟨#[], by rw [upd_ne (ne_of_none q hn), q]; simp⟩
theorem Un.write (mu : Mut (H x)) (he : e = x ∨ H e = some (.own x)) (k : ∀ b u, b ≠ e → h.get? b = some u → h'.get? b = some u) (heo : ∃ u, h'.get? e = some u) : Un fs ex H (upd H x o) h h' := by
  have hx : ∀ b, H b = none → b ≠ x := fun b n z => by subst z; rw [n] at mu; exact mu
  have hb : ∀ b, H b = none → b ≠ e := fun b n z => by
    subst z
    rcases he with r | r
    · exact hx b n r
    · rw [n] at r; cases r
  have hm : ∀ b u, H b = some u → ¬ Mut (some u) → b ≠ x := fun b u q nm z => by subst z; rw [q] at mu; exact nm mu
  refine ⟨fun b u q n _ _ => k b u (hb b n) q, fun b u q n _ _ => ⟨u.slots, k b u (hb b n) q⟩, fun b u q n _ => by rw [upd_ne (hx b n)]; exact n, fun b u q _ => ?_,
    fun b xs q => by rw [upd_ne (hm b _ q fun z => z)]; exact q, fun b u xs q => by rw [upd_ne (hm b _ q fun z => z)]; exact q, fun b ps q => ⟨#[], by rw [upd_ne (hm b _ q fun z => z), q]; simp⟩⟩
  by_cases hbe : b = e
  · subst hbe; exact heo
  · exact ⟨u, k b u hbe q⟩
theorem Un.mono (u : Un fs ex H H1 h h1) (hs : ∀ b ∈ fs, b ∈ fs') (hx : ∀ b ∈ ex, b ∈ ex') : Un fs' ex' H H1 h h1 :=
  ⟨fun b ob q n hb he => u.keep b ob q n (fun z => hb (hs b z)) fun z => he (hx b z), fun _ _ q n _ he => u.any q n fun z => he (hx _ z), fun b ob q n he => u.free b ob q n fun z => he (hx b z), fun b ob q he => u.there b ob q fun z => he (hx b z), u.tups, u.frzs, u.tbls⟩
end

/-! ### the heap without what is tracked -/
def trk (h : Heap) (H : Hp) : List Addr := (List.range h.objs.size).filter fun a => (H a).isSome
def hidT (h : Heap) (H : Hp) : Heap := PySem.W.hideAll h (trk h H)
theorem hidT_size (h : Heap) (H : Hp) : (hidT h H).objs.size = h.objs.size := PySem.W.hideAll_size _ _
theorem hidT_get {h : Heap} {H : Hp} {b : Addr} {o : Obj} (e : h.get? b = some o) (n : H b = none) : (hidT h H).get? b = some o :=
  PySem.W.hideAll_get _ e fun hm => by
    have q : (H b).isSome = true := (List.mem_filter.mp hm).2
    rw [n] at q; simp at q
theorem of_hidT {h : Heap} {H : Hp} {b : Addr} {o : Obj} (e : (hidT h H).get? b = some o) : h.get? b = some o ∧ H b = none := by
  have e' : h.get? b = some o := PySem.W.of_hideAll (trk h H) e
  refine ⟨e', ?_⟩
  cases q : H b with
  | none => rfl
  | some x =>
    have hm : b ∈ trk h H := List.mem_filter.mpr ⟨List.mem_range.mpr (Heap.lt_size e'), by simp [q]⟩
    have z : (hidT h H).get? b = none := PySem.W.hideAll_none (trk h H) hm
    rw [z] at e; cases e

/-! ### OpenK's ledger, filled with every new object but one -/
end L2

namespace L2
open PySem PySem.Spec PyProof.Rows

/-- the module's facts, over the base: the heap at the law's entry without what is tracked there -/
structure Mod (K : PySem.W.Frag) (mg : Str → Option Value) (base : Heap) : Prop where
  kin : K.In base
  glob : base.Ns mainGlobals mg
  blt : ∃ mb, base.Ns builtinsNs mb ∧ ∀ x : Str, x ≠ "__name__" → mb x = bootBuiltins x
  nolimit : base.NoLimit

/-- the context: a def's body (or a comprehension's block) running. base: fixed through the whole law; s₀, H₀: the entry; outer: the frames whose slots others may change (a def's callers); stack: all frames that run;
   ex: iterators that were made ahead of the entry and are walked here (a comprehension's); fn: the names whose cells were made at the entry (a def: all; a comprehension's block: its own); calm: not within an except suite; pn: pins that every state bears; xe: what is wanted of an exception that leaves the code -/
structure Cx where
  prog : Program
  w : World
  K : PySem.W.Frag
  mg : Str → Option Value
  base : Heap
  A : Around
  N : List Str
  s₀ : Shared
  H₀ : Hp
  env : Env
  outer : List Env
  stack : List Env
  ex : List Addr
  fn : Str → Bool
  calm : Bool
  pn : List (Addr × Obj)
  xe : Value → Shared → Prop
/-- the callers' frames -/
def frs (l : List Env) : List Addr := l.filterMap (·.frame)
abbrev Cx.fs (X : Cx) : List Addr := frs X.outer

def Vis (sc : Scope) (x : Str) : Prop := sc.names.lookup x = some .local ∨ sc.names.lookup x = some .cell ∨ sc.names.lookup x = some .free
def Loc (sc : Scope) (x : Str) : Prop := sc.names.lookup x = some .local ∨ sc.names.lookup x = some .cell
def Look (env : Env) (h : Heap) (m : Str → Option Value) (x : Str) (u : Value) : Prop :=
  (env.kindOf x = some .local ∧ m x = some u) ∨ ((env.kindOf x = some .cell ∨ env.kindOf x = some .free) ∧ ∃ c, env.cells.lookup x = some c ∧ h.IsCell c (some u))

structure Cx.Ok (X : Cx) : Prop where
  mod : Mod X.K X.mg X.base
  kind : X.env.scope.kind = .function
  glob : X.env.globals = mainGlobals
  blt : X.env.builtins = builtinsNs
  above : X.s₀.heap.objs.size ≤ X.env.locals
  inj : ∀ x y c, X.env.cells.lookup x = some c → X.env.cells.lookup y = some c → x = y
  has : ∀ x, (X.env.kindOf x = some .cell ∨ X.env.kindOf x = some .free) → ∃ c, X.env.cells.lookup x = some c
  cab : ∀ x c, X.fn x = true → X.env.cells.lookup x = some c → X.s₀.heap.objs.size ≤ c
  hd : X.calm = true → X.A.handled = none
  frames : X.A.frames = some X.stack
  stk : X.stack = X.outer ∨ (X.stack = X.env :: X.outer ∧ X.env.frame = some X.env.locals)
  exf : ∀ b ∈ X.ex, b ≠ X.env.locals ∧ ∀ x c, X.env.cells.lookup x = some c → c ≠ b
  bs : ∀ b o, X.base.get? b = some o → X.s₀.heap.get? b = some o ∧ X.H₀ b = none
  bsz : X.base.objs.size ≤ X.s₀.heap.objs.size
  noex : ∀ b o, X.base.get? b = some o → b ∉ X.ex
  exfs : ∀ b ∈ X.ex, b ∉ X.fs
  funs : X.s₀.heap.FunFrames X.base X.outer
  frf : ∀ b ∈ X.fs, X.H₀ b = none

structure Inv (X : Cx) (pins : List (Addr × Obj)) (σ : List (Option V)) (H : Hp) (s : Shared) : Prop where
  ok : X.Ok
  os : s.os = X.s₀.os
  bare : AllBare s.gens
  base : Un X.fs X.ex X.H₀ H X.s₀.heap s.heap
  loc : ∃ m, s.heap.Ns X.env.locals m ∧ ∀ (i : Nat) (x : Str) (v : V), X.N[i]? = some x → σ[i]? = some (some v) → Vis X.env.scope x → ∃ u, RelV v u ∧ Look X.env s.heap m x u
  cell : ∀ x c, X.env.cells.lookup x = some c → ∃ v, s.heap.IsCell c v
  free : H X.env.locals = none
  freeC : ∀ x c, X.env.cells.lookup x = some c → H c = none
  pin : ∀ p ∈ X.pn ++ pins, s.heap.get? p.1 = some p.2 ∧ H p.1 = none ∧ p.1 ≠ X.env.locals ∧ p.1 ∉ X.fs ∧ ∀ v, p.2.data ≠ .cell v
  hok : HOk X.prog X.w H s.heap
  len : σ.length = X.N.length

section
variable {X : Cx} {pins : List (Addr × Obj)} {σ : List (Option V)} {H H' : Hp} {s : Shared} {h' : Heap}

theorem Cx.Ok.nofr (ok : X.Ok) {b : Addr} {o : Obj} (e : X.base.get? b = some o) : b ∉ X.fs := fun hb => by
  have := (ok.funs.mem hb).1
  rw [e] at this; cases this
theorem Inv.bs (I : Inv X pins σ H s) : ∀ b o, X.base.get? b = some o → s.heap.get? b = some o ∧ H b = none := fun b o e =>
  ⟨I.base.keep b o (I.ok.bs b o e).1 (I.ok.bs b o e).2 (I.ok.nofr e) (I.ok.noex b o e), I.base.free b o (I.ok.bs b o e).1 (I.ok.bs b o e).2 (I.ok.noex b o e)⟩
theorem Inv.bk (I : Inv X pins σ H s) : ∀ b o, X.base.get? b = some o → s.heap.get? b = some o := fun b o e => (I.bs b o e).1
theorem Inv.mod (I : Inv X pins σ H s) : Mod X.K X.mg X.base := I.ok.mod
theorem Inv.kIn (I : Inv X pins σ H s) : X.K.In s.heap := I.ok.mod.kin.keeps I.bk
theorem Inv.lt (I : Inv X pins σ H s) : X.env.locals < s.heap.objs.size := let ⟨_, hn, _⟩ := I.loc; hn.lt
theorem Inv.sz (I : Inv X pins σ H s) : X.s₀.heap.objs.size ≤ s.heap.objs.size := Nat.le_trans I.ok.above (Nat.le_of_lt I.lt)
theorem Inv.nofs (I : Inv X pins σ H s) {a : Addr} (h : s.heap.objs.size ≤ a) : a ∉ X.fs := fun hb => by
  obtain ⟨_, o, ho, _⟩ := I.ok.funs.mem hb
  exact absurd (Nat.lt_of_lt_of_le (Heap.lt_size ho) (Nat.le_trans I.sz h)) (Nat.lt_irrefl _)
theorem Inv.cne (I : Inv X pins σ H s) : ∀ x c, X.env.cells.lookup x = some c → c ≠ X.env.locals := fun x c e z => by
  obtain ⟨v, o, ho, hd⟩ := I.cell x c e
  obtain ⟨m, ⟨o', es, ep, ho', hd', _⟩, _⟩ := I.loc
  rw [z, ho'] at ho; cases ho; rw [hd'] at hd; cases hd
theorem Inv.funs (I : Inv X pins σ H s) : s.heap.FunFrames X.base X.outer := by
  have all : ∀ (l : List Env), (∀ b ∈ frs l, b ∈ X.fs) → X.s₀.heap.FunFrames X.base l → s.heap.FunFrames X.base l := by
    intro l
    induction l with
    | nil => intro _ _; trivial
    | cons env r ih =>
      intro hs hl
      obtain ⟨hk, ⟨L, o, hf, hn, ho, hd⟩, hr⟩ := hl
      have hL : L ∈ X.fs := hs L (by unfold frs; rw [List.filterMap_cons, hf]; exact List.mem_cons_self)
      obtain ⟨sl, e⟩ := I.base.slot L o ho (I.ok.frf L hL) hL fun z => I.ok.exfs L z hL
      exact ⟨hk, ⟨L, _, hf, hn, e, hd⟩, ih (fun b hb => hs b (by unfold frs; rw [List.filterMap_cons, hf]; exact List.mem_cons_of_mem _ hb)) hr⟩
  exact all X.outer (fun _ hb => hb) I.ok.funs

/-- the frames that run, for a call -/
theorem Inv.stack (I : Inv X pins σ H s) : s.heap.FunFrames X.base X.stack := by
  rcases I.ok.stk with e | ⟨e, hf⟩
  · rw [e]; exact I.funs
  · rw [e]
    obtain ⟨m, hn, _⟩ := I.loc
    refine .cons (by rw [I.ok.kind]; decide) hf hn ?_ I.funs
    exact Heap.get?_none_of_le (Nat.le_trans I.ok.bsz I.ok.above)
theorem Inv.stkSub (I : Inv X pins σ H s) : ∀ b ∈ frs X.stack, b ∈ X.env.locals :: X.fs := fun b hb => by
  rcases I.ok.stk with e | ⟨e, hf⟩
  · rw [e] at hb; exact List.mem_cons_of_mem _ hb
  · rw [e] at hb
    unfold frs at hb
    rw [List.filterMap_cons, hf] at hb
    exact hb
theorem Inv.stkFree (I : Inv X pins σ H s) : ∀ b ∈ frs X.stack, H b = none := fun b hb => by
  rcases List.mem_cons.mp (I.stkSub b hb) with e | hb
  · rw [e]; exact I.free
  · obtain ⟨_, o, ho, _⟩ := I.ok.funs.mem hb
    exact I.base.free b o ho (I.ok.frf b hb) fun z => I.ok.exfs b z hb

/-- THE STEP: the untracked objects but the frame and the records at ch are kept (the callers' frames up to slots), the frame's map is kept, the new abstract heap is held -/
theorem Inv.step {g' : Array GenState} {t' : Nat} {d' : Drawn} {ch : List Addr} (I : Inv X pins σ H s)
    (hch : ∀ b ∈ ch, (b ∈ X.ex ∨ X.s₀.heap.objs.size ≤ b) ∧ b ≠ X.env.locals ∧ (∀ x c, X.env.cells.lookup x = some c → c ≠ b) ∧ ∀ p ∈ X.pn ++ pins, p.1 ≠ b)
    (keep : ∀ b o, b ≠ X.env.locals → b ∉ X.fs → b ∉ ch → s.heap.get? b = some o → H b = none → h'.get? b = some o)
    (slot : ∀ b o, b ≠ X.env.locals → b ∈ X.fs → b ∉ ch → s.heap.get? b = some o → H b = none → ∃ sl, h'.get? b = some { o with slots := sl }) (free : ∀ b o, b ∉ ch → s.heap.get? b = some o → H b = none → H' b = none)
    (there : ∀ b o, b ∉ ch → s.heap.get? b = some o → ∃ o', h'.get? b = some o')
    (tups : ∀ b xs, H b = some (.tup xs) → H' b = some (.tup xs)) (frzs : ∀ b o u, H b = some (.frz o u) → H' b = some (.frz o u)) (tbls : ∀ b ps, H b = some (.tbl ps) → ∃ more, H' b = some (.tbl (ps ++ more)))
    (ns : ∀ m, s.heap.Ns X.env.locals m → h'.Ns X.env.locals m) (hok : HOk X.prog X.w H' h') (hg : AllBare g') :
    Inv X pins σ H' { s with heap := h', gens := g', drawn := d', toks := t' } := by
  have neL : ∀ b o, X.s₀.heap.get? b = some o → b ≠ X.env.locals := fun b o e => Nat.ne_of_lt (Nat.lt_of_lt_of_le (Heap.lt_size e) I.ok.above)
  have neC : ∀ b o, X.s₀.heap.get? b = some o → b ∉ X.ex → b ∉ ch := fun b o e hx hb => by
    rcases (hch b hb).1 with z | z
    · exact hx z
    · exact absurd (Nat.lt_of_lt_of_le (Heap.lt_size e) z) (Nat.lt_irrefl _)
  have cellK : ∀ x c, X.env.cells.lookup x = some c → ∀ v, s.heap.IsCell c v → h'.IsCell c v := fun x c e v ⟨o, ho, hd⟩ => by
    have nch : c ∉ ch := fun z => (hch c z).2.2.1 x c e rfl
    by_cases hc : c ∈ X.fs
    · obtain ⟨sl, q⟩ := slot c o (I.cne x c e) hc nch ho (I.freeC x c e)
      exact ⟨_, q, hd⟩
    · exact ⟨o, keep c o (I.cne x c e) hc nch ho (I.freeC x c e), hd⟩
  refine ⟨I.ok, I.os, hg, ⟨fun b o e n hb hx => ?_, fun b o e n hb hx => ?_, fun b o e n hx => ?_, fun b o e hx => ?_, fun b xs e => tups b xs (I.base.tups b xs e), fun b o xs e => frzs b o xs (I.base.frzs b o xs e), fun b ps e => ?_⟩, ?_, fun x c e => ?_, ?_, fun x c e => ?_, fun p hp => ?_, hok, I.len⟩
  · exact keep b o (neL b o e) hb (neC b o e hx) (I.base.keep b o e n hb hx) (I.base.free b o e n hx)
  · obtain ⟨sl, e1⟩ := I.base.slot b o e n hb hx
    obtain ⟨sl', e2⟩ := slot b _ (neL b o e) hb (neC b o e hx) e1 (I.base.free b o e n hx)
    exact ⟨sl', e2⟩
  · obtain ⟨o', e1⟩ := I.base.there b o e hx
    exact free b o' (neC b o e hx) e1 (I.base.free b o e n hx)
  · obtain ⟨o', e1⟩ := I.base.there b o e hx
    exact there b o' (neC b o e hx) e1
  · obtain ⟨m1, e1⟩ := I.base.tbls b ps e
    obtain ⟨m2, e2⟩ := tbls b _ e1
    exact ⟨m1 ++ m2, by rw [e2, Array.append_assoc]⟩
  · obtain ⟨m, hn, hl⟩ := I.loc
    refine ⟨m, ns m hn, fun i x v e1 e2 e3 => ?_⟩
    obtain ⟨u, r, l⟩ := hl i x v e1 e2 e3
    refine ⟨u, r, ?_⟩
    rcases l with l | ⟨k, c, e, z⟩
    · exact .inl l
    · exact .inr ⟨k, c, e, cellK x c e _ z⟩
  · obtain ⟨v, z⟩ := I.cell x c e
    exact ⟨v, cellK x c e v z⟩
  · obtain ⟨m, ⟨o, _, _, ho, _⟩, _⟩ := I.loc
    exact free _ o (fun z => (hch _ z).2.1 rfl) ho I.free
  · obtain ⟨v, o, ho, hd⟩ := I.cell x c e
    exact free c o (fun z => (hch c z).2.2.1 x c e rfl) ho (I.freeC x c e)
  · obtain ⟨e, n, ne, nf, d⟩ := I.pin p hp
    have nch : p.1 ∉ ch := fun z => (hch p.1 z).2.2.2 p hp rfl
    exact ⟨keep p.1 p.2 ne nf nch e n, free p.1 p.2 nch e n, ne, nf, d⟩
/-- .. where the frame's own object is kept too -/
theorem Inv.un {t' : Nat} (I : Inv X pins σ H s) (u : Un X.fs [] H H' s.heap h') (hok : HOk X.prog X.w H' h') : Inv X pins σ H' { s with heap := h', toks := t' } := by
  obtain ⟨m, ⟨o, es, ep, ho, r⟩, _⟩ := id I.loc
  obtain ⟨sl, hL⟩ := u.any ho I.free (by simp)
  exact I.step (g' := s.gens) (d' := s.drawn) (ch := []) (fun _ z => nomatch z) (fun b o _ hb _ e n => u.keep b o e n hb (by simp)) (fun b o _ hb _ e n => u.slot b o e n hb (by simp)) (fun b o _ e n => u.free b o e n (by simp)) (fun b o _ e => u.there b o e (by simp)) u.tups u.frzs u.tbls (fun m' hm => by
    obtain ⟨o', es', ep', ho', r'⟩ := hm
    rw [ho] at ho'; cases ho'
    exact ⟨_, es', ep', hL, r'⟩) hok I.bare
/-- behind a call (or a comprehension's block): the slots of this frame may have changed too, the records at ch may have turned -/
theorem Inv.call {g' : Array GenState} {t' : Nat} {d' : Drawn} {ch : List Addr} (I : Inv X pins σ H s) (u : Un (frs X.stack) ch H H' s.heap h') (hok : HOk X.prog X.w H' h') (hg : AllBare g')
    (hch : ∀ b ∈ ch, (b ∈ X.ex ∨ X.s₀.heap.objs.size ≤ b) ∧ b ≠ X.env.locals ∧ (∀ x c, X.env.cells.lookup x = some c → c ≠ b) ∧ ∀ p ∈ X.pn ++ pins, p.1 ≠ b) :
    Inv X pins σ H' { s with heap := h', gens := g', drawn := d', toks := t' } := by
  obtain ⟨m, ⟨o, es, ep, ho, r⟩, _⟩ := id I.loc
  obtain ⟨sl, hL⟩ := u.any ho I.free fun z => (hch _ z).2.1 rfl
  exact I.step (ch := ch) hch (fun b o hL hb hc e n => u.keep b o e n (fun z => (List.mem_cons.mp (I.stkSub b z)).elim hL hb) hc) (fun b o _ _ hc e n => u.any e n hc) (fun b o hc e n => u.free b o e n hc) (fun b o hc e => u.there b o e hc) u.tups u.frzs u.tbls (fun m' hm => by
    obtain ⟨o', es', ep', ho', r'⟩ := hm
    rw [ho] at ho'; cases ho'
    exact ⟨_, es', ep', hL, r'⟩) hok hg
/-- an untracked record of ours (an iterator) has turned -/
theorem Inv.turned {t' : Nat} {it : Addr} (I : Inv X pins σ H s) (k : ∀ b o, b ≠ it → s.heap.get? b = some o → h'.get? b = some o) (hn : H it = none) (hL : it ≠ X.env.locals)
    (h1 : it ∈ X.ex ∨ X.s₀.heap.objs.size ≤ it) (h2 : ∀ x c, X.env.cells.lookup x = some c → c ≠ it) (h3 : ∀ p ∈ X.pn ++ pins, p.1 ≠ it) : Inv X pins σ H { s with heap := h', toks := t' } := by
  have nit : ∀ b u, H b = some u → b ≠ it := fun b u e z => by rw [z, hn] at e; cases e
  refine I.step (g' := s.gens) (d' := s.drawn) (ch := [it]) (fun b hb => ?_) (fun b o _ _ hc e _ => k b o (fun z => hc (by simp [z])) e) (fun b o _ _ hc e _ => ⟨o.slots, k b o (fun z => hc (by simp [z])) e⟩) (fun _ _ _ _ n => n)
    (fun b o hc e => ⟨o, k b o (fun z => hc (by simp [z])) e⟩) (fun _ _ e => e) (fun _ _ _ e => e) (fun b ps e => ⟨#[], by rw [e]; simp⟩) (fun m hm => ?_) (fun b u e => ?_) I.bare
  · have e : b = it := by simpa using hb
    subst e
    exact ⟨h1, hL, h2, h3⟩
  · obtain ⟨o, es, ep, ho, r⟩ := hm
    exact ⟨o, es, ep, k _ o (Ne.symm hL) ho, r⟩
  · refine (I.hok b u e).stay (fun c v hc q => k c v ?_ q) (fun _ q => q) fun _ _ q => q
    rcases hc with z | z
    · rw [z]; exact nit b u e
    · exact nit c _ z
theorem Inv.tok (I : Inv X pins σ H s) (t : Nat) : Inv X pins σ H { s with toks := t } := I.un (h' := s.heap) (t' := t) Un.refl I.hok
/-- all objects kept -/
theorem Inv.kept {t' : Nat} (I : Inv X pins σ H s) (k : ∀ b u, s.heap.get? b = some u → h'.get? b = some u) : Inv X pins σ H { s with heap := h', toks := t' } := I.un (Un.kept k) (I.hok.kept k)
/-- a new object laid and tracked -/
theorem Inv.laid {a : Addr} {o : HO} {t' : Nat} (I : Inv X pins σ H s) (k : ∀ b u, s.heap.get? b = some u → h'.get? b = some u) (hp : s.heap.objs.size ≤ a) (new : ObjOk X.prog X.w (upd H a o) h' a o) :
    Inv X pins σ (upd H a o) { s with heap := h', toks := t' } := I.un (Un.laid k hp (I.hok.fresh hp)) (I.hok.laid k hp new)
/-- an object written -/
theorem Inv.write {x e : Addr} {o : HO} {t' : Nat} (I : Inv X pins σ H s) (mu : Mut (H x)) (he : e = x ∨ H e = some (.own x)) (k : ∀ b u, b ≠ e → s.heap.get? b = some u → h'.get? b = some u) (heo : ∃ u, h'.get? e = some u)
    (new : ObjOk X.prog X.w (upd H x o) h' x o) : Inv X pins σ (upd H x o) { s with heap := h', toks := t' } := I.un (Un.write mu he k heo) (I.hok.write mu he k heo new)
theorem Inv.pins_of {pins' : List (Addr × Obj)} (I : Inv X pins σ H s) (h : ∀ p ∈ pins', s.heap.get? p.1 = some p.2 ∧ H p.1 = none ∧ p.1 ≠ X.env.locals ∧ p.1 ∉ X.fs ∧ ∀ v, p.2.data ≠ .cell v) : Inv X pins' σ H s :=
  ⟨I.ok, I.os, I.bare, I.base, I.loc, I.cell, I.free, I.freeC, fun p hp => (List.mem_append.mp hp).elim (fun z => I.pin p (List.mem_append_left _ z)) (h p), I.hok, I.len⟩

theorem nodup_ix {N : List Str} (hN : N.Nodup) {i j : Nat} {x : Str} (a : N[i]? = some x) (b : N[j]? = some x) : i = j := by
  obtain ⟨h1, e1⟩ := List.getElem?_eq_some_iff.mp a
  obtain ⟨h2, e2⟩ := List.getElem?_eq_some_iff.mp b
  exact (List.getElem_inj hN).mp (e1.trans e2.symm)

/-- a name is stored; what changed -/
theorem store_ok2 {M : Model} {A : Around} {E : Value → Shared → Prop} {i : Nat} {x : Str} {v : V} {u : Value} {Q : Unit → Shared → Prop} (I : Inv X pins σ H s) (hN : X.N.Nodup) (hi : X.N[i]? = some x) (hx : Loc X.env.scope x) (r : RelV v u)
    (h : ∀ s', Inv X pins (σ.set i (some v)) H s' → (∃ a, Heap.SameBut a s.heap s'.heap ∧ (a = X.env.locals ∨ X.env.cells.lookup x = some a)) → Q () s') (hf : X.fn x = true ∨ X.env.scope.names.lookup x = some .local := by first | exact .inl rfl | exact .inr rfl | assumption) : wpAny M A (storeName X.env x u) Q E s := by
  obtain ⟨m, hn, hl⟩ := id I.loc
  have hcls : (X.env.scope.kind == .class || (X.env.scope.kind == .module && X.env.locals != X.env.globals)) = false := by rw [I.ok.kind]; rfl
  have hiσ : i < σ.length := by rw [I.len]; exact (List.getElem?_eq_some_iff.mp hi).1
  have cne := I.cne
  have tracked : ∀ {a : Addr} {h' : Heap}, (∃ o, s.heap.get? a = some o ∧ H a = none) → Heap.SameBut a s.heap h' → HOk X.prog X.w H h' := fun {a h'} ha hs b ob e => by
    obtain ⟨_, _, hfree⟩ := ha
    refine (I.hok b ob e).stay (fun c w' hc q => (hs.2 c ?_).trans q) (fun _ q => q) fun _ _ q => q
    rintro rfl
    rcases hc with rfl | hc
    · rw [hfree] at e; cases e
    · rw [hfree] at hc; cases hc
  rcases hx with hk | hk
  · refine wpAny_storeName_local hk hn (fun h' hn' hs => ?_) hcls
    obtain ⟨oL, _, _, hoL, _⟩ := id hn
    refine h _ ⟨I.ok, I.os, I.bare, ⟨fun b o e n hb hx => ?_, fun b o e n hb hx => ?_, I.base.free, fun b o e hx => ?_, I.base.tups, I.base.frzs, I.base.tbls⟩, ⟨_, hn', fun j y v' e1 e2 e3 => ?_⟩, fun y c e => ?_, I.free, I.freeC, fun p hp => ?_, tracked ⟨oL, hoL, I.free⟩ hs, by simpa using I.len⟩ ⟨_, hs, .inl rfl⟩
    · exact (hs.2 b (Nat.ne_of_lt (Nat.lt_of_lt_of_le (Heap.lt_size e) I.ok.above))).trans (I.base.keep b o e n hb hx)
    · obtain ⟨sl, e1⟩ := I.base.slot b o e n hb hx
      exact ⟨sl, (hs.2 b (Nat.ne_of_lt (Nat.lt_of_lt_of_le (Heap.lt_size e) I.ok.above))).trans e1⟩
    · obtain ⟨o', e1⟩ := I.base.there b o e hx
      exact ⟨o', (hs.2 b (Nat.ne_of_lt (Nat.lt_of_lt_of_le (Heap.lt_size e) I.ok.above))).trans e1⟩
    · by_cases hj : j = i
      · subst hj
        rw [hi] at e1; cases e1
        rw [List.getElem?_set_self hiσ] at e2
        cases e2
        exact ⟨u, r, .inl ⟨hk, by simp⟩⟩
      · rw [List.getElem?_set_ne (Ne.symm hj)] at e2
        obtain ⟨u', r', q⟩ := hl j y v' e1 e2 e3
        refine ⟨u', r', ?_⟩
        rcases q with ⟨k, e⟩ | ⟨k, c, e, z⟩
        · refine .inl ⟨k, ?_⟩
          have : y ≠ x := fun e => hj (nodup_ix hN e1 (e ▸ hi))
          simp [this, e]
        · exact .inr ⟨k, c, e, z.sameBut hs (cne y c e)⟩
    · obtain ⟨w', z⟩ := I.cell y c e
      exact ⟨w', z.sameBut hs (cne y c e)⟩
    · obtain ⟨e, n, ne, nf, d⟩ := I.pin p hp
      exact ⟨(hs.2 p.1 ne).trans e, n, ne, nf, d⟩
  · have hfn : X.fn x = true := by
      rcases hf with z | z
      · exact z
      · rw [z] at hk; cases hk
    obtain ⟨c, hc⟩ := I.ok.has x (.inl hk)
    obtain ⟨w', z⟩ := I.cell x c hc
    refine wpAny_storeName_cell I.ok.kind hk hc z (fun h' hc' hs => ?_)
    obtain ⟨oc, hoc, hocd⟩ := id z
    refine h { s with heap := h' } ⟨I.ok, I.os, I.bare, ⟨fun b o e n hb hx => ?_, fun b o e n hb hx => ?_, I.base.free, fun b o e hx => ?_, I.base.tups, I.base.frzs, I.base.tbls⟩, ⟨m, hn.sameBut hs (Ne.symm (cne x c hc)), fun j y v' e1 e2 e3 => ?_⟩, fun y c' e => ?_, I.free, I.freeC, fun p hp => ?_, tracked ⟨oc, hoc, I.freeC x c hc⟩ hs, by simpa using I.len⟩ ⟨c, hs, .inr hc⟩
    · exact (hs.2 b (Nat.ne_of_lt (Nat.lt_of_lt_of_le (Heap.lt_size e) (I.ok.cab x c hfn hc)))).trans (I.base.keep b o e n hb hx)
    · obtain ⟨sl, e1⟩ := I.base.slot b o e n hb hx
      exact ⟨sl, (hs.2 b (Nat.ne_of_lt (Nat.lt_of_lt_of_le (Heap.lt_size e) (I.ok.cab x c hfn hc)))).trans e1⟩
    · obtain ⟨o', e1⟩ := I.base.there b o e hx
      exact ⟨o', (hs.2 b (Nat.ne_of_lt (Nat.lt_of_lt_of_le (Heap.lt_size e) (I.ok.cab x c hfn hc)))).trans e1⟩
    · by_cases hj : j = i
      · subst hj
        rw [hi] at e1; cases e1
        rw [List.getElem?_set_self hiσ] at e2
        cases e2
        exact ⟨u, r, .inr ⟨.inl hk, c, hc, hc'⟩⟩
      · rw [List.getElem?_set_ne (Ne.symm hj)] at e2
        obtain ⟨u', r', q⟩ := hl j y v' e1 e2 e3
        refine ⟨u', r', ?_⟩
        rcases q with q | ⟨k, c', e, z'⟩
        · exact .inl q
        · refine .inr ⟨k, c', e, z'.sameBut hs ?_⟩
          rintro rfl
          exact hj (nodup_ix hN e1 (I.ok.inj _ _ _ e hc ▸ hi))
    · by_cases hcc : c' = c
      · subst hcc; exact ⟨_, hc'⟩
      · obtain ⟨w2, z2⟩ := I.cell y c' e
        exact ⟨w2, z2.sameBut hs hcc⟩
    · obtain ⟨e, n, ne, nf, d⟩ := I.pin p hp
      refine ⟨(hs.2 p.1 ?_).trans e, n, ne, nf, d⟩
      intro q
      rw [q, hoc] at e
      have q' : oc = p.2 := Option.some.inj e
      exact d w' (by rw [← q']; exact hocd)
theorem store_ok {M : Model} {A : Around} {E : Value → Shared → Prop} {i : Nat} {x : Str} {v : V} {u : Value} {Q : Unit → Shared → Prop} (I : Inv X pins σ H s) (hN : X.N.Nodup) (hi : X.N[i]? = some x) (hx : Loc X.env.scope x) (r : RelV v u)
    (h : ∀ s', Inv X pins (σ.set i (some v)) H s' → Q () s') (hf : X.fn x = true ∨ X.env.scope.names.lookup x = some .local := by first | exact .inl rfl | exact .inr rfl | assumption) : wpAny M A (storeName X.env x u) Q E s :=
  store_ok2 I hN hi hx r (fun s' I' _ => h s' I') hf
/-- behind a call or a block, the state as it is -/
theorem Inv.call' {s' : Shared} {ch : List Addr} (I : Inv X pins σ H s) (ho : s'.os = s.os) (u : Un (frs X.stack) ch H H' s.heap s'.heap) (hok : HOk X.prog X.w H' s'.heap) (hg : AllBare s'.gens)
    (hch : ∀ b ∈ ch, (b ∈ X.ex ∨ X.s₀.heap.objs.size ≤ b) ∧ b ≠ X.env.locals ∧ (∀ x c, X.env.cells.lookup x = some c → c ≠ b) ∧ ∀ p ∈ X.pn ++ pins, p.1 ≠ b) : Inv X pins σ H' s' := by
  obtain ⟨h', g', d', t', o'⟩ := s'
  have e : o' = s.os := ho
  subst e
  exact I.call (g' := g') (t' := t') (d' := d') u hok hg hch
end

/-! ### the judgements -/
/-- an exception: its class, its own dict's address (where it has one), the abstract heap behind it -/
abbrev XK := Value → Option Addr → Hp → Prop
abbrev St := List (Option V)
abbrev VK := V → Hp → Prop
/-- an expression's reading; a test's; an argument list's -/
abbrev TE := St → Hp → VK → Prop
abbrev TT := St → Hp → (Bool → Hp → Prop) → Prop
abbrev TA := St → Hp → (List V → Hp → Prop) → Prop
/-- what is wanted behind a statement -/
structure Ends where
  nx : St → Hp → Prop
  rt : VK
  bk : St → Hp → Prop := fun _ _ => False
  ct : St → Hp → Prop := fun _ _ => False
abbrev TS := Ends → St → Hp → Prop

def EP (X : Cx) (pins : List (Addr × Obj)) (σ : St) (Q : VK) (u : Value) (s' : Shared) : Prop := ∃ v H', Inv X pins σ H' s' ∧ RelV v u ∧ Q v H'
def TP (X : Cx) (pins : List (Addr × Obj)) (σ : St) (Q : Bool → Hp → Prop) (b : Bool) (s' : Shared) : Prop := ∃ H', Inv X pins σ H' s' ∧ Q b H'
def AP (X : Cx) (pins : List (Addr × Obj)) (σ : St) (Q : List V → Hp → Prop) (us : List Value) (s' : Shared) : Prop := ∃ vs H', Inv X pins σ H' s' ∧ Vals vs us ∧ Q vs H'
def SP (X : Cx) (pins : List (Addr × Obj)) (D : Ends) (f : Flow) (s' : Shared) : Prop :=
  match f with
  | .next => ∃ σ' H', Inv X pins σ' H' s' ∧ D.nx σ' H'
  | .brk => ∃ σ' H', Inv X pins σ' H' s' ∧ D.bk σ' H'
  | .cont => ∃ σ' H', Inv X pins σ' H' s' ∧ D.ct σ' H'
  | .ret u => ∃ v σ' H', Inv X pins σ' H' s' ∧ RelV v u ∧ D.rt v H'

def PE (X : Cx) (e : Expr) (t : TE) : Prop :=
  ∀ (pins : List (Addr × Obj)) (s : Shared) (σ : St) (H : Hp) (Q : VK), Inv X pins σ H s → t σ H Q → wpAny (model X.prog X.w) X.A (eval e X.env) (EP X pins σ Q) X.xe s
def PT (X : Cx) (e : Expr) (t : TT) : Prop :=
  ∀ (pins : List (Addr × Obj)) (s : Shared) (σ : St) (H : Hp) (Q : Bool → Hp → Prop), Inv X pins σ H s → t σ H Q → wpAny (model X.prog X.w) X.A (isTrue e X.env (eval e X.env)) (TP X pins σ Q) X.xe s
/-- a test whatever its 'whole' is (and, or) -/
def PW (X : Cx) (e : Expr) (t : TT) : Prop :=
  ∀ (whole : Sem Value) (pins : List (Addr × Obj)) (s : Shared) (σ : St) (H : Hp) (Q : Bool → Hp → Prop), Inv X pins σ H s → t σ H Q → wpAny (model X.prog X.w) X.A (isTrue e X.env whole) (TP X pins σ Q) X.xe s
theorem PW.pt {X : Cx} {e : Expr} {t : TT} (h : PW X e t) : PT X e t := h _
/-- an argument list (no star), from the left -/
def PA (X : Cx) (es : List Expr) (t : TA) : Prop :=
  ∀ (pos : Pos) (pins : List (Addr × Obj)) (s : Shared) (σ : St) (H : Hp) (Q : List V → Hp → Prop), Inv X pins σ H s → t σ H Q → wpAny (model X.prog X.w) X.A (spliced (backTo pos (starEach es X.env))) (AP X pins σ Q) X.xe s
def PS (X : Cx) (st : Stmt) (t : TS) : Prop :=
  ∀ (pins : List (Addr × Obj)) (s : Shared) (σ : St) (H : Hp) (D : Ends), Inv X pins σ H s → t D σ H → wpAny (model X.prog X.w) X.A (exec st X.env) (SP X pins D) X.xe s
def PSs (X : Cx) (st : List Stmt) (t : TS) : Prop :=
  ∀ (pins : List (Addr × Obj)) (s : Shared) (σ : St) (H : Hp) (D : Ends), Inv X pins σ H s → t D σ H → wpAny (model X.prog X.w) X.A (execs st X.env) (SP X pins D) X.xe s
/-- weaken the end -/
theorem thn {α : Type} {t : Sem α} {Q Q' : α → Shared → Prop} {M : Model} {A : Around} {E : Value → Shared → Prop} {s : Shared} (h : wpAny M A t Q E s) (hQ : ∀ a s, Q a s → Q' a s) : wpAny M A t Q' E s := wpAny_mono h hQ fun _ _ x => x
end L2

namespace L2
open PySem PySem.Spec PyProof.Rows
section
variable {X : Cx}

/-- two expressions in a row -/
theorem bin {a b : Expr} {ta tb : TE} (ha : PE X a ta) (hb : PE X b tb) {pins : List (Addr × Obj)} {s : Shared} {σ : St} {H : Hp} {R : V → V → Hp → Prop} (I : Inv X pins σ H s) (h : ta σ H fun x H1 => tb σ H1 fun y H2 => R x y H2)
    {α : Type} {Q : α → Shared → Prop} {f : Value → Value → Sem α}
    (hf : ∀ v u s2 x y H2, Inv X pins σ H2 s2 → RelV x v → RelV y u → R x y H2 → wpAny (model X.prog X.w) X.A (f v u) Q X.xe s2) :
    wpAny (model X.prog X.w) X.A (eval a X.env) (fun v s₁ => wpAny (model X.prog X.w) X.A (eval b X.env) (fun u s₂ => wpAny (model X.prog X.w) X.A (f v u) Q X.xe s₂) X.xe s₁) X.xe s := by
  refine thn (ha pins s σ H _ I h) fun v s1 ⟨x, H1, I1, r1, q1⟩ => ?_
  refine thn (hb pins s1 σ H1 _ I1 q1) fun u s2 ⟨y, H2, I2, r2, q2⟩ => ?_
  exact hf v u s2 x y H2 I2 r1 r2 q2

/-! ### names and constants -/
def tVar (i : Nat) : TE := fun σ H Q => ∃ v, σ[i]? = some (some v) ∧ Q v H
def tC (v : V) : TE := fun _ H Q => Q v H
theorem pe_var {i : Nat} {x : Str} {pos : Pos} (hN : X.N[i]? = some x) (hv : Vis X.env.scope x) (hd : (x == ("__debug__" : Str)) = false := by decide) (hcd : (x == ("__classdict__" : Str)) = false := by decide) : PE X (.Name x pos) (tVar i) := by
  intro pins s σ H Q I h
  obtain ⟨v, e, h⟩ := h
  obtain ⟨m, hn, hl⟩ := I.loc
  obtain ⟨u, r, l⟩ := hl i x v hN e hv
  have fin : EP X pins σ Q u s := ⟨v, H, I, r, h⟩
  rcases l with ⟨hk, hm⟩ | ⟨hk, c, hc, hcell⟩
  · exact wpAny_Name (wpAny_loadName_local I.ok.kind hk hn hm fin) hd
  · rcases hk with hk | hk
    · exact wpAny_Name (wpAny_loadName_cell I.ok.kind hk hc hcell fin) hd
    · exact wpAny_Name (wpAny_loadName_free I.ok.kind hk hc hcell fin hcd) hd
theorem pe_int {i j pos} : PE X (.Constant (.int i) j pos) (tC (.int i)) := fun _ _ _ H _ I h => wpAny_Constant_int ⟨.int i, H, I.tok _, ⟨_, rfl⟩, h⟩
theorem pe_bl {b j pos} : PE X (.Constant (.bool b) j pos) (tC (.bl b)) := fun _ _ _ H _ I h => Constant_bool ⟨.bl b, H, I, rfl, h⟩
theorem pe_non {j pos} : PE X (.Constant .none j pos) (tC .non) := fun _ _ _ H _ I h => Constant_none ⟨.non, H, I, rfl, h⟩
theorem pe_str {x j pos} : PE X (.Constant (.str x) j pos) (tC (.str x)) := fun _ _ _ H _ I h => Calls.Constant_str ⟨.str x, H, I.tok _, ⟨_, rfl⟩, h⟩

/-- a global name of the def -/
def Gl (X : Cx) (x : Str) : Prop := X.env.kindOf x = some .globalImplicit
theorem ld_glob {E : Value → Shared → Prop} {pins : List (Addr × Obj)} {s : Shared} {σ : St} {H : Hp} {x : Str} {u : Value} {pos : Pos} {Q : Value → Shared → Prop} (I : Inv X pins σ H s) (hg : Gl X x) (hm : X.mg x = some u) (h : Q u s)
    (hd : (x == ("__debug__" : Str)) = false := by decide) : wpAny (model X.prog X.w) X.A (eval (.Name x pos) X.env) Q E s :=
  Calls.Name_function_global I.ok.kind hg (Calls.loadGlobal_global (by rw [I.ok.glob]; exact I.mod.glob.keeps I.bk) hm h) hd
theorem ld_blt {E : Value → Shared → Prop} {pins : List (Addr × Obj)} {s : Shared} {σ : St} {H : Hp} {x : Str} {u : Value} {pos : Pos} {Q : Value → Shared → Prop} (I : Inv X pins σ H s) (hg : Gl X x) (hm : X.mg x = none) (hv : bootBuiltins x = some u) (h : Q u s)
    (hn : x ≠ "__name__" := by decide) (hd : (x == ("__debug__" : Str)) = false := by decide) : wpAny (model X.prog X.w) X.A (eval (.Name x pos) X.env) Q E s := by
  obtain ⟨mb, h1, h2⟩ := I.mod.blt
  exact Calls.Name_function_global I.ok.kind hg (Calls.loadGlobal_builtin (by rw [I.ok.glob]; exact I.mod.glob.keeps I.bk) hm (by rw [I.ok.blt]; exact h1.keeps I.bk) ((h2 x hn).trans hv) h) hd
/-- a module's constant, a class, a function, as a value -/
theorem pe_glob {x : Str} {v : V} {u : Value} {pos : Pos} (hg : Gl X x) (hm : X.mg x = some u) (r : RelV v u) (hd : (x == ("__debug__" : Str)) = false := by decide) : PE X (.Name x pos) (tC v) :=
  fun _ _ _ H _ I h => ld_glob I hg hm ⟨v, H, I, r, h⟩ hd
theorem pe_bltn {x : Str} {v : V} {u : Value} {pos : Pos} (hg : Gl X x) (hm : X.mg x = none) (hv : bootBuiltins x = some u) (r : RelV v u) (hn : x ≠ "__name__" := by decide) (hd : (x == ("__debug__" : Str)) = false := by decide) : PE X (.Name x pos) (tC v) :=
  fun _ _ _ H _ I h => ld_blt I hg hm hv ⟨v, H, I, r, h⟩ hn hd

/-! ### arithmetic -/
variable {a b : Expr} {ta tb : TE} {pos : Pos}

/-! ### comparisons -/
def PC (X : Cx) (op : CmpOp) (a b : Expr) (t : TE) : Prop :=
  ∀ (pins : List (Addr × Obj)) (s : Shared) (σ : St) (H : Hp) (Q : VK), Inv X pins σ H s → t σ H Q →
    wpAny (model X.prog X.w) X.A (eval a X.env) (fun v s₁ => wpAny (model X.prog X.w) X.A (eval b X.env) (fun u s₂ => wpAny (model X.prog X.w) X.A (compareOp op v u) (EP X pins σ Q) X.xe s₂) X.xe s₁) X.xe s
/-- a comparison as a value, as a test -/
def tB (t : TE) : TT := fun σ H Q => t σ H fun x H1 => ∃ c, x = .bl c ∧ Q c H1
theorem pt_cmp {op : CmpOp} {t : TE} (h : PC X op a b t) (h1 : behindInMarks op b = false := by first | exact nobehind _ (by decide) (by decide) | rfl) : PT X (.Compare a [op] [b] pos) (tB t) := by
  intro pins s σ H Q I hw
  refine wpAny_isTrue_Compare1 (thn (h pins s σ H _ I hw) fun v s1 h1 => thn h1 fun u s2 h2 => thn h2 fun c s3 ⟨x, H1, I1, r1, q1⟩ => ?_) h1
  obtain ⟨d, rfl, q⟩ := q1
  cases r1
  exact wpAny_truthy_bool ⟨H1, I1, q⟩
/-- an expression whose value is a bool, as a test -/
theorem pt_val {e : Expr} {t : TE} (h : PE X e t) (he : ∀ whole, isTrue e X.env whole = (do let v ← whole; standAt e.pos; holding [v] (truthy v)) := by intro _; rfl) : PT X e (tB t) := by
  intro pins s σ H Q I hw
  refine isTrue_plain (thn (h pins s σ H _ I hw) fun v s1 ⟨x, H1, I1, r1, q1⟩ => ?_) (he _)
  obtain ⟨d, rfl, q⟩ := q1
  cases r1
  exact wpAny_truthy_bool ⟨H1, I1, q⟩

/-! ### and, or, not -/
variable {tA tB' : TT} {rest : List Expr}
def tAnd (t u : TT) : TT := fun σ H Q => t σ H fun c H1 => if c = true then u σ H1 Q else Q false H1
def tOr (t u : TT) : TT := fun σ H Q => t σ H fun c H1 => if c = true then Q true H1 else u σ H1 Q
def tNot (t : TT) : TT := fun σ H Q => t σ H fun c H1 => Q (!c) H1
theorem pw_and1 (ha : PT X a tA) : PW X (.BoolOp .And [a] pos) tA := by
  intro wh pins s σ H Q I h
  refine isTrue_and (thn (ha pins s σ H Q I h) fun c s1 e => ?_)
  cases c with
  | true => exact isTrue_and_nil e
  | false => exact e
theorem pw_or1 (ha : PT X a tA) : PW X (.BoolOp .Or [a] pos) tA := by
  intro wh pins s σ H Q I h
  refine isTrue_or (thn (ha pins s σ H Q I h) fun c s1 e => ?_)
  cases c with
  | false => exact isTrue_or_nil e
  | true => exact e
theorem pw_and (ha : PT X a tA) (hb : PW X (.BoolOp .And (b :: rest) pos) tB') : PW X (.BoolOp .And (a :: b :: rest) pos) (tAnd tA tB') := by
  intro wh pins s σ H Q I h
  refine isTrue_and (thn (ha pins s σ H _ I h) fun c s1 ⟨H1, I1, q1⟩ => ?_)
  cases c with
  | true => exact hb wh pins s1 σ H1 Q I1 q1
  | false => exact ⟨H1, I1, q1⟩
theorem pw_or (ha : PT X a tA) (hb : PW X (.BoolOp .Or (b :: rest) pos) tB') : PW X (.BoolOp .Or (a :: b :: rest) pos) (tOr tA tB') := by
  intro wh pins s σ H Q I h
  refine isTrue_or (thn (ha pins s σ H _ I h) fun c s1 ⟨H1, I1, q1⟩ => ?_)
  cases c with
  | true => exact ⟨H1, I1, q1⟩
  | false => exact hb wh pins s1 σ H1 Q I1 q1
theorem pt_not (ha : PT X a tA) : PT X (.UnaryOp .Not a pos) (tNot tA) := by
  intro pins s σ H Q I h
  exact isTrue_not (ha pins s σ H (fun c H1 => Q (!c) H1) I h)
/-- .. as values (bools) -/
def tAndV (ta tb : TE) : TE := fun σ H Q => ta σ H fun x H1 => ∃ c, x = .bl c ∧ if c = true then tb σ H1 Q else Q (.bl false) H1
def tNotV (ta : TE) : TE := fun σ H Q => ta σ H fun x H1 => ∃ c, x = .bl c ∧ Q (.bl (!c)) H1
theorem pe_one {op} {t : TE} (h : PE X a t) : PE X (.BoolOp op [a] pos) t := fun pins s σ H Q I hw => BoolOp_one (h pins s σ H Q I hw)
theorem pe_and (ha : PE X a ta) (hb : PE X (.BoolOp .And (b :: rest) pos) tb) : PE X (.BoolOp .And (a :: b :: rest) pos) (tAndV ta tb) := by
  intro pins s σ H Q I h
  refine BoolOp_and (thn (ha pins s σ H _ I h) fun v s1 ⟨x, H1, I1, r1, q1⟩ => ?_)
  obtain ⟨c, rfl, q1⟩ := q1
  cases r1
  refine wpAny_truthy_bool ?_
  cases c with
  | true => exact hb pins s1 σ H1 Q I1 q1
  | false => exact ⟨.bl false, H1, I1, rfl, q1⟩
theorem pe_not (ha : PE X a ta) : PE X (.UnaryOp .Not a pos) (tNotV ta) := by
  intro pins s σ H Q I h
  refine UnaryOp_ (thn (ha pins s σ H _ I h) fun v s1 ⟨x, H1, I1, r1, q1⟩ => ?_)
  obtain ⟨c, rfl, q1⟩ := q1
  cases r1
  exact not_of (wpAny_truthy_bool ⟨.bl (!c), H1, I1, rfl, q1⟩)
end
end L2

namespace L2
open PySem PySem.Spec PyProof.Rows

/-! ### a list, a tuple that is read: tracked, frozen, or an object of the module -/
def SqL (K : PySem.W.Frag) (H : Hp) (a : Addr) (xs : List V) : Prop :=
  Rd H a (.lst xs) ∨
    ∃ (o : Obj) (its : Array Value) (n : Nat), K.lookup a = some o ∧ o.cls = .type "list" ∧ o.dict = none ∧ o.data = .seq its n ∧ its.size ≤ sizeLine ∧ Vals xs its.toList
def SqT (K : PySem.W.Frag) (H : Hp) (a : Addr) (xs : List V) : Prop :=
  Rd H a (.tup xs) ∨
    ∃ (o : Obj) (its : Array Value) (n : Nat), K.lookup a = some o ∧ o.cls = .type "tuple" ∧ o.data = .seq its n ∧ its.size ≤ sizeLine ∧ Vals xs its.toList
def absV : Value → Option V
  | .none => some .non
  | .bool b => some (.bl b)
  | .int i _ => some (.int i)
  | .str x _ => some (.str x)
  | .bytes b _ => some (.byt b)
  | .float b _ => some (.flt b)
  | .ref a => some (.ref a)
  | .type n => some (.ty n)
  | _ => none
theorem RelV.abs {x : V} {u : Value} (r : RelV x u) : absV u = some x := by
  cases x with
  | non => cases r; rfl
  | bl _ => cases r; rfl
  | int _ => obtain ⟨t, rfl⟩ := r; rfl
  | str _ => obtain ⟨t, rfl⟩ := r; rfl
  | byt _ => obtain ⟨t, rfl⟩ := r; rfl
  | flt _ => obtain ⟨t, rfl⟩ := r; rfl
  | ref _ => cases r; rfl
  | ty _ => cases r; rfl
theorem RelV.inj {x y : V} {u : Value} (r : RelV x u) (q : RelV y u) : x = y := Option.some.inj (r.abs.symm.trans q.abs)
theorem Vals.inj : ∀ {xs ys : List V} {us : List Value}, Vals xs us → Vals ys us → xs = ys
  | _, _, _, .nil, .nil => rfl
  | _, _, _, .cons r t, .cons r' t' => by rw [r.inj r', Vals.inj t t']
section
variable {X : Cx} {pins : List (Addr × Obj)} {σ : St} {H : Hp} {s : Shared} {a : Addr} {xs ys : List V}
theorem SqL.of {K : PySem.W.Frag} (h : H a = some (.lst xs)) : SqL K H a xs := .inl (.inl h)
theorem SqT.of {K : PySem.W.Frag} (h : H a = some (.tup xs)) : SqT K H a xs := .inl (.inl h)
theorem Inv.list (I : Inv X pins σ H s) (h : SqL X.K H a xs) : ∃ its : List Value, Vals xs its ∧ PlainL s.heap a its.toArray ∧ xs.length ≤ sizeLine := by
  rcases h with h | ⟨o, its, n, hk, hc, hd, hs, hz, r⟩
  · obtain ⟨z, its, n, r, e⟩ := h.ok I.hok
    exact ⟨its, r, ⟨_, n, e, rfl, rfl, rfl⟩, z⟩
  · refine ⟨its.toList, r, ⟨o, n, I.kIn a o hk, hc, hd, by simpa using hs⟩, ?_⟩
    have e := r.length
    simp only [Array.length_toList] at e
    omega
theorem Inv.tuple (I : Inv X pins σ H s) (h : SqT X.K H a xs) : ∃ its : List Value, Vals xs its ∧ IsTup s.heap a its.toArray ∧ xs.length ≤ sizeLine := by
  rcases h with h | ⟨o, its, n, hk, hc, hs, hz, r⟩
  · obtain ⟨z, its, r, p⟩ := h.ok I.hok
    exact ⟨its, r, p.tup, z⟩
  · refine ⟨its.toList, r, ⟨o, I.kIn a o hk, hc, n, by simpa using hs⟩, ?_⟩
    have e := r.length
    simp only [Array.length_toList] at e
    omega
theorem Inv.list_inj (I : Inv X pins σ H s) (h : SqL X.K H a xs) (h' : SqL X.K H a ys) : xs = ys := by
  obtain ⟨its, r, ⟨o, n, e, _, _, d⟩, _⟩ := I.list h
  obtain ⟨its', r', ⟨o', n', e', _, _, d'⟩, _⟩ := I.list h'
  rw [e] at e'; cases e'
  rw [d] at d'
  injection d' with d1 _
  have : its = its' := by simpa using congrArg Array.toList d1
  subst this
  exact r.inj r'
theorem Inv.tuple_inj (I : Inv X pins σ H s) (h : SqT X.K H a xs) (h' : SqT X.K H a ys) : xs = ys := by
  obtain ⟨its, r, ⟨o, e, _, n, d⟩, _⟩ := I.tuple h
  obtain ⟨its', r', ⟨o', e', _, n', d'⟩, _⟩ := I.tuple h'
  rw [e] at e'; cases e'
  rw [d] at d'
  injection d' with d1 _
  have : its = its' := by simpa using congrArg Array.toList d1
  subst this
  exact r.inj r'
end

/-! ### another wish about exceptions -/
abbrev Cx.wish (X : Cx) (E : Value → Shared → Prop) : Cx := { X with xe := E }
/-- no exception leaves -/
abbrev Cx.nox (X : Cx) : Cx := X.wish fun _ _ => False
theorem Cx.Ok.wish {X : Cx} (ok : X.Ok) (E : Value → Shared → Prop) : (X.wish E).Ok :=
  ⟨ok.mod, ok.kind, ok.glob, ok.blt, ok.above, ok.inj, ok.has, ok.cab, ok.hd, ok.frames, ok.stk, ok.exf, ok.bs, ok.bsz, ok.noex, ok.exfs, ok.funs, ok.frf⟩
theorem Cx.Ok.unwish {X : Cx} {E : Value → Shared → Prop} (ok : (X.wish E).Ok) : X.Ok :=
  ⟨ok.mod, ok.kind, ok.glob, ok.blt, ok.above, ok.inj, ok.has, ok.cab, ok.hd, ok.frames, ok.stk, ok.exf, ok.bs, ok.bsz, ok.noex, ok.exfs, ok.funs, ok.frf⟩
section
variable {X : Cx} {pins : List (Addr × Obj)} {σ : St} {H : Hp} {s : Shared} {E : Value → Shared → Prop}
theorem Inv.wish (I : Inv X pins σ H s) (E : Value → Shared → Prop) : Inv (X.wish E) pins σ H s := ⟨I.ok.wish E, I.os, I.bare, I.base, I.loc, I.cell, I.free, I.freeC, I.pin, I.hok, I.len⟩
theorem Inv.unwish (I : Inv (X.wish E) pins σ H s) : Inv X pins σ H s := ⟨I.ok.unwish, I.os, I.bare, I.base, I.loc, I.cell, I.free, I.freeC, I.pin, I.hok, I.len⟩
theorem SP.unwish {D : Ends} {f : Flow} {s' : Shared} (h : SP (X.wish E) pins D f s') : SP X pins D f s' := by
  cases f with
  | next => obtain ⟨σ', H', I, q⟩ := h; exact ⟨σ', H', I.unwish, q⟩
  | brk => obtain ⟨σ', H', I, q⟩ := h; exact ⟨σ', H', I.unwish, q⟩
  | cont => obtain ⟨σ', H', I, q⟩ := h; exact ⟨σ', H', I.unwish, q⟩
  | ret u => obtain ⟨v, σ', H', I, r, q⟩ := h; exact ⟨v, σ', H', I.unwish, r, q⟩
theorem PSs.nox {st : List Stmt} {t : TS} (h : PSs X.nox st t) : PSs X st t := fun pins s σ H D I hw =>
  wpAny_mono (h pins s σ H D (I.wish _) hw) (fun _ _ q => q.unwish) fun _ _ z => False.elim z
end

/-! ### blocks and small statements -/
section
variable {X : Cx} {st : Stmt} {rest : List Stmt} {t u : TS} {e : Expr} {te : TE} {pos : Pos}
def tNext : TS := fun D σ H => D.nx σ H
def tSeq (t u : TS) : TS := fun D σ H => t { D with nx := u D } σ H
theorem pss_nil : PSs X [] tNext := fun _ _ σ H _ I h => wpAny_execs_nil ⟨σ, H, I, h⟩
theorem pss_cons (h1 : PS X st t) (h2 : PSs X rest u) : PSs X (st :: rest) (tSeq t u) := by
  intro pins s σ H D I h
  refine wpAny_execs_cons (thn (h1 pins s σ H { D with nx := u D } I h) fun f s1 q => ?_)
  cases f with
  | next =>
    obtain ⟨σ', H', I', q⟩ := q
    exact h2 pins s1 σ' H' D I' q
  | ret v => exact q
  | brk => exact q
  | cont => exact q
theorem pss_one (h1 : PS X st t) : PSs X [st] t := by
  intro pins s σ H D I h
  refine wpAny_execs_cons (thn (h1 pins s σ H D I h) fun f s1 q => ?_)
  cases f with
  | next => exact wpAny_execs_nil q
  | ret v => exact q
  | brk => exact q
  | cont => exact q
/-- in a def's body nothing is shown -/
theorem Inv.quiet {pins : List (Addr × Obj)} {σ : St} {H : Hp} {s : Shared} (I : Inv X pins σ H s) : interactive X.env = false := by simp [interactive, I.ok.kind]
/-- an expression whose value is dropped -/
def tDrop (te : TE) : TS := fun D σ H => te σ H fun _ H1 => D.nx σ H1
theorem ps_expr (he : PE X e te) (hs : swapsWith e none pos.line X.env = pure false := by rfl) : PS X (.Expr e pos) (tDrop te) := by
  intro pins s σ H D I h
  exact wpAny_Expr_any (thn (he pins s σ H _ I h) fun v s1 ⟨x, H1, I1, r1, q1⟩ => ⟨σ, H1, I1, q1⟩) I.quiet hs
def tRet (te : TE) : TS := fun D σ H => te σ H D.rt
theorem ps_ret (he : PE X e te) : PS X (.Return (some e) pos) (tRet te) := by
  intro pins s σ H D I h
  exact wpAny_Return_some (thn (he pins s σ H _ I h) fun v s1 ⟨x, H1, I1, r1, q1⟩ => ⟨x, σ, H1, I1, r1, q1⟩)
def tIfS (c : TT) (t u : TS) : TS := fun D σ H => c σ H fun b H1 => if b = true then t D σ H1 else u D σ H1
theorem ps_if {c : Expr} {a b : List Stmt} {tc : TT} (hc : PT X c tc) (ha : PSs X a t) (hb : PSs X b u) : PS X (.If c a b pos) (tIfS tc t u) := by
  intro pins s σ H D I h
  refine wpAny_If (thn (hc pins s σ H _ I h) fun d s1 ⟨H1, I1, q1⟩ => ?_)
  cases d with
  | true => exact ha pins s1 σ H1 D I1 q1
  | false => exact hb pins s1 σ H1 D I1 q1
/-- code that the proof never comes to -/
def tNever : TS := fun _ _ _ => False
theorem pss_never {sts : List Stmt} : PSs X sts tNever := fun _ _ _ _ _ _ h => h.elim
end

/-! ### targets -/
abbrev TG := V → St → Hp → (St → Hp → Prop) → Prop
abbrev TGs := List V → St → Hp → (St → Hp → Prop) → Prop
def PG (X : Cx) (target : Expr) (t : TG) : Prop :=
  ∀ (pins : List (Addr × Obj)) (s : Shared) (σ : St) (H : Hp) (v : V) (u : Value) (Q : St → Hp → Prop), Inv X pins σ H s → RelV v u → t v σ H Q →
    wpAny (model X.prog X.w) X.A (assign target X.env u) (fun _ s' => ∃ σ' H', Inv X pins σ' H' s' ∧ Q σ' H') X.xe s
/-- several targets, one after another -/
def PGs (X : Cx) (ts : List Expr) (t : TGs) : Prop :=
  ∀ (pins : List (Addr × Obj)) (s : Shared) (σ : St) (H : Hp) (vs : List V) (us : List Value) (Q : St → Hp → Prop), Inv X pins σ H s → Vals vs us → t vs σ H Q →
    wpAny (model X.prog X.w) X.A (assignInOrder ((assignEach ts X.env).map (·.2)) us) (fun _ s' => ∃ σ' H', Inv X pins σ' H' s' ∧ Q σ' H') X.xe s
section
variable {X : Cx} {pos : Pos}
def gName (i : Nat) : TG := fun v σ H Q => Q (σ.set i (some v)) H
theorem pg_name {i : Nat} {x : Str} (hN : X.N.Nodup) (hi : X.N[i]? = some x) (hx : Loc X.env.scope x) (hf : X.fn x = true ∨ X.env.scope.names.lookup x = some .local := by first | exact .inl rfl | exact .inr rfl | assumption) : PG X (.Name x pos) (gName i) := by
  intro pins s σ H v u Q I r h
  exact wpAny_assign_Name (store_ok I hN hi hx r (fun s' I' => ⟨_, H, I', h⟩) hf)
def gNil : TGs := fun vs σ H Q => vs = [] ∧ Q σ H
def gCons (t : TG) (u : TGs) : TGs := fun vs σ H Q => ∃ v r, vs = v :: r ∧ t v σ H fun σ' H' => u r σ' H' Q
theorem pgs_nil : PGs X [] gNil := by
  intro pins s σ H vs us Q I r h
  obtain ⟨e, h⟩ := h
  subst e
  cases r
  exact assignInOrder_nil ⟨σ, H, I, h⟩
theorem pgs_cons {e : Expr} {es : List Expr} {t : TG} {u : TGs} (h1 : PG X e t) (h2 : PGs X es u)
    (hs : (assignEach (e :: es) X.env).map (·.2) = assign e X.env :: (assignEach es X.env).map (·.2) := by rfl) : PGs X (e :: es) (gCons t u) := by
  intro pins s σ H vs us Q I r h
  obtain ⟨v, vr, e1, h⟩ := h
  subst e1
  cases r with
  | cons r rr =>
    rw [hs]
    refine assignInOrder_cons (thn (h1 pins s σ H _ _ _ I r h) fun _ s1 ⟨σ1, H1, I1, q1⟩ => ?_)
    exact h2 pins s1 σ1 H1 _ _ Q I1 rr q1
/-- (a, b, ..) = a tuple of that length -/
def gTup (K : PySem.W.Frag) (n : Nat) (t : TGs) : TG := fun v σ H Q => ∃ a xs, v = .ref a ∧ SqT K H a xs ∧ xs.length = n ∧ t xs σ H Q
theorem pg_tup {es : List Expr} {k : Nat} {t : TGs} {n : Nat} (hc : X.calm = true) (h : PGs X es t)
    (hn : (assignEach es X.env).length = n := by rfl) (hst : (assignEach es X.env).findIdx? (·.1) = none := by rfl) : PG X (.Tuple es k pos) (gTup X.K n t) := by
  intro pins s σ H v u Q I r hw
  obtain ⟨a, xs, e1, hq, hl, hw⟩ := hw
  subst e1
  cases r
  obtain ⟨its, rv, ht, hz⟩ := I.tuple hq
  refine assign_Tuple_tuple (I.ok.hd hc) ht (by simp [hn, ← hl, rv.length]) hst fun h' hx => ?_
  have I1 : Inv X pins σ H { s with heap := h' } := I.kept (t' := s.toks) fun b o e => hx b o (Nat.ne_of_lt (Heap.lt_size e)) e
  exact h pins _ σ H xs _ Q I1 (by simpa using rv) hw
/-- target = value -/
def tAsg (te : TE) (g : TG) : TS := fun D σ H => te σ H fun x H1 => g x σ H1 D.nx
/-- name = value -/
theorem ps_set {i : Nat} {x : Str} {e : Expr} {te : TE} {pos' : Pos} (hN : X.N.Nodup) (hi : X.N[i]? = some x) (hx : Loc X.env.scope x) (he : PE X e te) (hs : swapsWith e (some (.Name x pos')) pos.line X.env = pure false := by rfl) (hf : X.fn x = true ∨ X.env.scope.names.lookup x = some .local := by first | exact .inl rfl | exact .inr rfl | assumption) :
    PS X (.Assign [.Name x pos'] e pos) (tAsg te (gName i)) := by
  intro pins s σ H D I h
  refine wpAny_Assign_Name (thn (he pins s σ H _ I h) fun v s1 ⟨y, H1, I1, r1, q1⟩ => ?_) hs
  exact store_ok I1 hN hi hx r1 (fun s2 I2 => ⟨_, H1, I2, q1⟩) hf
end

/-! ### while -/
section
variable {X : Cx} {pos : Pos}
end

/-! ### what a loop or a comprehension walks -/
/-- at turn i: it yields x (the heap may grow), or it stops -/
structure It where
  go : Nat → Hp → Prop
  yld : Nat → Hp → V → Hp → Prop
  stop : Nat → Hp → Prop
/-- the iterator's own objects may turn: they are not the frame's, not pinned, younger than the entry (or a comprehension's own) -/
def FpOk (X : Cx) (pins : List (Addr × Obj)) (H : Hp) (b : Addr) : Prop :=
  H b = none ∧ b ≠ X.env.locals ∧ b ∉ X.fs ∧ (b ∈ X.ex ∨ X.s₀.heap.objs.size ≤ b) ∧ (∀ x c, X.env.cells.lookup x = some c → c ≠ b) ∧ ∀ p ∈ X.pn ++ pins, p.1 ≠ b
theorem Inv.fpOk {X : Cx} {pins : List (Addr × Obj)} {σ : St} {H H' : Hp} {s : Shared} {b : Addr} (I : Inv X pins σ H s) (hb : s.heap.objs.size ≤ b) (hn : H' b = none) : FpOk X pins H' b := by
  refine ⟨hn, Nat.ne_of_gt (Nat.lt_of_lt_of_le I.lt hb), I.nofs hb, .inr (Nat.le_trans I.sz hb), fun x c e z => ?_, fun p hp z => ?_⟩
  · obtain ⟨v, q⟩ := I.cell x c e
    exact absurd (Nat.lt_of_lt_of_le q.lt (by rw [z]; exact hb)) (Nat.lt_irrefl _)
  · exact absurd (Nat.lt_of_lt_of_le (Heap.lt_size (I.pin p hp).1) (by rw [z]; exact hb)) (Nat.lt_irrefl _)
structure Turn (P : Program) (w : World) (K : PySem.W.Frag) (tg : Expr) (J : It) (fp : List Addr) (it : Addr) (tn : Nat → Heap → Prop) : Prop where
  mem : it ∈ fp
  obj : ∀ i h, tn i h → ∀ b ∈ fp, ∃ o, h.get? b = some o ∧ ∀ v, o.data ≠ .cell v
  keep : ∀ i h h', tn i h → (∀ b ∈ fp, ∀ o, h.get? b = some o → h'.get? b = some o) → tn i h'
  item : ∀ (X : Cx), X.prog = P → X.w = w → X.K = K → X.calm = true → ∀ (i : Nat) (pins : List (Addr × Obj)) (s : Shared) (σ : St) (H : Hp) (E : Value → Shared → Prop), Inv X pins σ H s → (∀ b ∈ fp, FpOk X pins H b) → tn i s.heap → J.go i H →
    wpAny (model P w) X.A (pyNext (.ref it)) (fun r s1 => ∃ u, r = some u ∧
      wpAny (model P w) X.A (letOwnedTupleGo tg (.ref it) u) (fun _ s2 => ∃ x H', Inv X pins σ H' s2 ∧ RelV x u ∧ J.yld i H x H' ∧ tn (i + 1) s2.heap ∧ ∀ b ∈ fp, H' b = none) E s1) E s
  done : ∀ (X : Cx), X.prog = P → X.w = w → X.K = K → X.calm = true → ∀ (i : Nat) (pins : List (Addr × Obj)) (s : Shared) (σ : St) (H : Hp) (E : Value → Shared → Prop), Inv X pins σ H s → (∀ b ∈ fp, FpOk X pins H b) → tn i s.heap → J.stop i H →
    wpAny (model P w) X.A (pyNext (.ref it)) (fun r s1 => r = none ∧ Inv X pins σ H s1) E s
  self : ∀ (A : Around) (i : Nat) (s : Shared) (Q : Value → Shared → Prop) (E : Value → Shared → Prop), tn i s.heap → Q (.ref it) s → wpAny (model P w) A (pyIter (.ref it)) Q E s
abbrev TI := St → Hp → (It → Hp → Prop) → Prop
/-- an iterator has come -/
def PIE (X : Cx) (pins : List (Addr × Obj)) (σ : St) (tg : Expr) (R : It → Hp → Prop) (itv : Value) (s2 : Shared) : Prop :=
  ∃ (it : Addr) (fp : List Addr) (tn : Nat → Heap → Prop) (J : It) (H' : Hp), itv = .ref it ∧ Inv X pins σ H' s2 ∧ Turn X.prog X.w X.K tg J fp it tn ∧ tn 0 s2.heap ∧ (∀ b ∈ fp, FpOk X pins H' b) ∧ R J H'
def PI (X : Cx) (tg iter : Expr) (wi : TI) : Prop :=
  ∀ (pins : List (Addr × Obj)) (s : Shared) (σ : St) (H : Hp) (R : It → Hp → Prop), Inv X pins σ H s → wi σ H R →
    wpAny (model X.prog X.w) X.A (eval iter X.env) (fun v s1 => wpAny (model X.prog X.w) X.A (pyIter v) (PIE X pins σ tg R) X.xe s1) X.xe s

/-- the step ahead of the store is nothing for an iterator that keeps no tuple -/
theorem go_of {M : Model} {A : Around} {E : Value → Shared → Prop} {s : Shared} {tg : Expr} {it : Addr} {u : Value} {o : Obj} {n : String} {vs : Array Value} {Q : Unit → Shared → Prop} (ho : s.heap.get? it = some o) (hc : o.cls = .type n) (hd : o.data = .fields vs)
    (hn : ["enumerate", "zip", "dict_itemiterator", "dict_reverseitemiterator", "odict_iterator", "itertools.zip_longest", "itertools.pairwise"].contains n = false) (hQ : Q () s) : wpAny M A (letOwnedTupleGo tg (.ref it) u) Q E s := by
  unfold letOwnedTupleGo
  cases tg <;> first
    | exact wpAny_pure hQ
    | (cases u <;> first
        | exact wpAny_pure hQ
        | (refine wpAny_bind (wpAny_load ho ?_)
           rw [hc, hd]
           show wpAny M A (if (["enumerate", "zip", "dict_itemiterator", "dict_reverseitemiterator", "odict_iterator", "itertools.zip_longest", "itertools.pairwise"].contains n && vs[0]? == some (rawInt _)) = true then _ else _) Q E s
           rw [if_neg (by intro h; rw [hn, Bool.false_and] at h; cases h)]
           exact wpAny_pure hQ))

/-- the list at a, as it stands at each turn (a loop may append to it) -/
def Itl (K : PySem.W.Frag) (a : Addr) : It :=
  ⟨fun i H => ∃ xs x, SqL K H a xs ∧ xs[i]? = some x, fun i H x H' => H' = H ∧ ∀ xs, SqL K H a xs → xs[i]? = some x, fun i H => ∃ xs, SqL K H a xs ∧ xs.length ≤ i⟩
def Itt (K : PySem.W.Frag) (a : Addr) : It :=
  ⟨fun i H => ∃ xs x, SqT K H a xs ∧ xs[i]? = some x, fun i H x H' => H' = H ∧ ∀ xs, SqT K H a xs → xs[i]? = some x, fun i H => ∃ xs, SqT K H a xs ∧ xs.length ≤ i⟩
/-- lo, lo + 1, .. (n of them) -/
def Itr (lo : Int) (n : Nat) : It := ⟨fun i _ => i < n, fun i H x H' => H' = H ∧ x = .int (lo + i), fun i _ => n ≤ i⟩
theorem turn_list {P : Program} {w : World} {K : PySem.W.Frag} {tg : Expr} (a it : Addr) : Turn P w K tg (Itl K a) [it] it (fun i h => h.IsListIter it a i) where
  mem := by simp
  obj := fun i h st b hb => by
    have e : b = it := by simpa using hb
    subst e
    obtain ⟨o, e, c, d⟩ := st
    exact ⟨o, e, fun v z => by rw [d] at z; cases z⟩
  keep := fun i h h' st k => st.at fun o e => k it (by simp) o e
  item := by
    intro X hP hw hK hc i pins s σ H E I hf st hg
    subst hP hw hK
    obtain ⟨xs, x, hq, hx⟩ := hg
    obtain ⟨its, rv, p, hz⟩ := I.list hq
    obtain ⟨u, hu, ru⟩ := rv.get hx
    obtain ⟨f0, f1, f2, f3, f4, f5⟩ := hf it (by simp)
    refine wpAny_pyNext_list_item st p.isList (x := u) (by simpa using hu) fun h' st' sb => ?_
    have I1 : Inv X pins σ H { s with heap := h' } := I.turned (t' := s.toks) (fun b o hb e => (sb.2 b hb).trans e) f0 f1 f3 f4 f5
    obtain ⟨o, e, c, d⟩ := id st'
    exact ⟨u, rfl, go_of (s := { s with heap := h' }) e c d (by decide) ⟨x, H, I1, ru, ⟨rfl, fun ys hy => by rw [I.list_inj hy hq]; exact hx⟩, st', fun b hb => (hf b hb).1⟩⟩
  done := by
    intro X hP hw hK hc i pins s σ H E I hf st hg
    subst hP hw hK
    obtain ⟨xs, hq, hx⟩ := hg
    obtain ⟨its, rv, p, hz⟩ := I.list hq
    obtain ⟨f0, f1, f2, f3, f4, f5⟩ := hf it (by simp)
    have hl := rv.length
    exact wpAny_pyNext_list_end (I.ok.hd hc) st p.isList (by simp; omega) fun h' eb => ⟨rfl, I.turned (t' := s.toks) (fun b o hb e => eb b o hb e) f0 f1 f3 f4 f5⟩
  self := fun _ _ _ _ _ st h => wpAny_pyIter_listiter st h
theorem turn_tuple {P : Program} {w : World} {K : PySem.W.Frag} {tg : Expr} (a it : Addr) : Turn P w K tg (Itt K a) [it] it (fun i h => h.IsTupleIter it a i) where
  mem := by simp
  obj := fun i h st b hb => by
    have e : b = it := by simpa using hb
    subst e
    obtain ⟨o, e, c, d⟩ := st
    exact ⟨o, e, fun v z => by rw [d] at z; cases z⟩
  keep := fun i h h' st k => st.at fun o e => k it (by simp) o e
  item := by
    intro X hP hw hK hc i pins s σ H E I hf st hg
    subst hP hw hK
    obtain ⟨xs, x, hq, hx⟩ := hg
    obtain ⟨its, rv, p, hz⟩ := I.tuple hq
    obtain ⟨u, hu, ru⟩ := rv.get hx
    obtain ⟨f0, f1, f2, f3, f4, f5⟩ := hf it (by simp)
    refine wpAny_pyNext_tuple_item st (show s.heap.IsTuple a its.toArray from p) (x := u) (by simpa using hu) fun h' st' sb => ?_
    have I1 : Inv X pins σ H { s with heap := h' } := I.turned (t' := s.toks) (fun b o hb e => (sb.2 b hb).trans e) f0 f1 f3 f4 f5
    obtain ⟨o, e, c, d⟩ := id st'
    exact ⟨u, rfl, go_of (s := { s with heap := h' }) e c d (by decide) ⟨x, H, I1, ru, ⟨rfl, fun ys hy => by rw [I.tuple_inj hy hq]; exact hx⟩, st', fun b hb => (hf b hb).1⟩⟩
  done := by
    intro X hP hw hK hc i pins s σ H E I hf st hg
    subst hP hw hK
    obtain ⟨xs, hq, hx⟩ := hg
    obtain ⟨its, rv, p, hz⟩ := I.tuple hq
    obtain ⟨f0, f1, f2, f3, f4, f5⟩ := hf it (by simp)
    have hl := rv.length
    exact wpAny_pyNext_tuple_end (I.ok.hd hc) st (show s.heap.IsTuple a its.toArray from p) (by simp; omega) fun h' eb => ⟨rfl, I.turned (t' := s.toks) (fun b o hb e => eb b o hb e) f0 f1 f3 f4 f5⟩
  self := fun _ _ _ _ _ st h => wpAny_pyIter_tupleiter st h
theorem turn_range {P : Program} {w : World} {K : PySem.W.Frag} {tg : Expr} (it : Addr) (lo : Int) (n : Nat) : Turn P w K tg (Itr lo n) [it] it (fun i h => IsRangeIter h it (lo + (i : Nat) * 1) ((n : Int) - (i : Nat)) 1) where
  mem := by simp
  obj := fun i h st b hb => by
    have e : b = it := by simpa using hb
    subst e
    exact ⟨_, st, fun v z => by
      have z' : Data.fields _ = Data.cell v := z
      cases z'⟩
  keep := fun i h h' st k => k it (by simp) _ st
  item := by
    intro X hP hw hK hc i pins s σ H E I hf st hg
    subst hP hw hK
    obtain ⟨f0, f1, f2, f3, f4, f5⟩ := hf it (by simp)
    have W := Walks.range (prog := X.prog) (w := X.w) (I.ok.hd hc) it lo 1 n
    refine W.item i s _ _ hg st fun v h' tk hv st' kk => ?_
    obtain ⟨t, rfl⟩ := hv
    have I1 : Inv X pins σ H { s with heap := h', toks := tk } := I.turned (fun b o hb e => kk b o (by simpa using hb) e) f0 f1 f3 f4 f5
    refine ⟨_, rfl, go_of (s := { s with heap := h', toks := tk }) (n := "range_iterator") st' rfl rfl (by decide) ⟨.int (lo + i), H, I1, ⟨t, ?_⟩, ⟨rfl, rfl⟩, st', fun b hb => (hf b hb).1⟩⟩
    rw [Int.mul_one]
  done := by
    intro X hP hw hK hc i pins s σ H E I hf st hg
    subst hP hw hK
    obtain ⟨f0, f1, f2, f3, f4, f5⟩ := hf it (by simp)
    exact wpAny_pyNext_range_end (I.ok.hd hc) st (by have : n ≤ i := hg; omega) fun h' eb => ⟨rfl, I.turned (t' := s.toks) (fun b o hb e => eb b o hb e) f0 f1 f3 f4 f5⟩
  self := fun _ _ _ _ _ st h => wpAny_pyIter_rangeiter st h
end L2

namespace L2
open PySem PySem.Spec PyProof.Rows
section
variable {X : Cx} {tg : Expr}
def iList (K : PySem.W.Frag) (tl : TE) : TI := fun σ H R => tl σ H fun x H1 => ∃ a, x = .ref a ∧ (∃ xs, SqL K H1 a xs) ∧ R (Itl K a) H1
def iTup (K : PySem.W.Frag) (tl : TE) : TI := fun σ H R => tl σ H fun x H1 => ∃ a, x = .ref a ∧ (∃ xs, SqT K H1 a xs) ∧ R (Itt K a) H1
theorem pi_list {l : Expr} {tl : TE} (hl : PE X l tl) : PI X tg l (iList X.K tl) := by
  intro pins s σ H R I h
  refine thn (hl pins s σ H _ I h) fun v s1 ⟨x, H1, I1, r1, q1⟩ => ?_
  obtain ⟨a, e, ⟨xs, hq⟩, q⟩ := q1
  subst e
  cases r1
  obtain ⟨its, rv, p, hz⟩ := I1.list hq
  refine wpAny_pyIter_list p.isList ?_
  refine ⟨s1.heap.objs.size, [s1.heap.objs.size], _, _, H1, rfl, I1.kept (t' := s1.toks) fun b o e => Heap.get?_push_of_some _ e, turn_list a _, ⟨_, Heap.get?_push_size _ rfl, rfl, rfl⟩, fun b hb => ?_, q⟩
  have e : b = s1.heap.objs.size := by simpa using hb
  subst e
  exact I1.fpOk (Nat.le_refl _) (I1.hok.fresh (Nat.le_refl _))
theorem pi_tup {l : Expr} {tl : TE} (hl : PE X l tl) : PI X tg l (iTup X.K tl) := by
  intro pins s σ H R I h
  refine thn (hl pins s σ H _ I h) fun v s1 ⟨x, H1, I1, r1, q1⟩ => ?_
  obtain ⟨a, e, ⟨xs, hq⟩, q⟩ := q1
  subst e
  cases r1
  obtain ⟨its, rv, p, hz⟩ := I1.tuple hq
  refine wpAny_pyIter_tuple (show s1.heap.IsTuple a its.toArray from p) ?_
  refine ⟨s1.heap.objs.size, [s1.heap.objs.size], _, _, H1, rfl, I1.kept (t' := s1.toks) fun b o e => Heap.get?_push_of_some _ e, turn_tuple a _, ⟨_, Heap.get?_push_size _ rfl, rfl, rfl⟩, fun b hb => ?_, q⟩
  have e : b = s1.heap.objs.size := by simpa using hb
  subst e
  exact I1.fpOk (Nat.le_refl _) (I1.hok.fresh (Nat.le_refl _))
/-- a range object just made, walked -/
theorem range_it {pins : List (Addr × Obj)} {σ : St} {H : Hp} {s : Shared} {R : It → Hp → Prop} {E : Value → Shared → Prop} {lo hi : Int} {t u v : Tok} {tk : Nat} (I : Inv X pins σ H s) (h1 : -(2 ^ 62) ≤ lo) (h2 : lo < 2 ^ 62) (h3 : -(2 ^ 62) ≤ hi) (h4 : hi < 2 ^ 62)
    (q : R (Itr lo (hi - lo).toNat) H) : wpAny (model X.prog X.w) X.A (pyIter (.ref s.heap.objs.size)) (PIE X pins σ tg R) E { s with heap := s.heap.push { cls := .type "range", data := .fields #[.int lo t, .int hi u, .int 1 v] }, toks := tk } := by
  refine wpAny_pyIter_range (IsRange.new ..) (small_one h1 h2 h3 h4) ?_
  have I1 : Inv X pins σ H { s with heap := s.heap.push { cls := .type "range", data := .fields #[.int lo t, .int hi u, .int 1 v] }, toks := tk } := I.kept fun b o e => Heap.get?_push_of_some _ e
  refine ⟨(s.heap.push { cls := .type "range", data := .fields #[.int lo t, .int hi u, .int 1 v] }).objs.size, [(s.heap.push { cls := .type "range", data := .fields #[.int lo t, .int hi u, .int 1 v] }).objs.size], _, _, H, rfl,
    I1.kept (t' := tk) fun b o e => Heap.get?_push_of_some _ e, turn_range _ lo (hi - lo).toNat, ?_, fun b hb => ?_, q⟩
  · have e1 : lo + ((0 : Nat) : Int) * 1 = lo := by simp
    have e2 : (((hi - lo).toNat : Nat) : Int) - ((0 : Nat) : Int) = Builtin.Range.rangeSize lo hi 1 := by rw [rangeSize_one]; split <;> omega
    show IsRangeIter _ _ (lo + ((0 : Nat) : Int) * 1) ((((hi - lo).toNat : Nat) : Int) - ((0 : Nat) : Int)) 1
    rw [e1, e2]
    exact Heap.get?_push_size _ rfl
  · have e : b = (s.heap.push { cls := .type "range", data := .fields #[.int lo t, .int hi u, .int 1 v] }).objs.size := by simpa using hb
    subst e
    exact I1.fpOk (Nat.le_refl _) (I1.hok.fresh (Nat.le_refl _))
def iRng1 (ta : TA) : TI := fun σ H R => ta σ H fun vs H1 => ∃ j : Int, vs = [.int j] ∧ -(2 ^ 62) ≤ j ∧ j < 2 ^ 62 ∧ R (Itr 0 j.toNat) H1
theorem pi_range1 {a : Expr} {ta : TA} {p pos : Pos} (hg : Gl X "range") (hm : X.mg "range" = none) (ha : PA X [a] ta) (hs : starEach [a] X.env = [(false, eval a X.env)] := by rfl) : PI X tg (.Call (.Name "range" p) [a] [] pos) (iRng1 ta) := by
  intro pins s σ H R I h
  refine Call_ (ld_blt I hg hm boot_range (PyProof.Rows.callWith_type1 (thn (ha pos pins s σ H _ I h) fun us s1 ⟨vs, H1, I1, r1, q1⟩ => ?_) hs rfl))
  obtain ⟨j, e, q1, q2, q⟩ := q1
  subst e
  cases r1 with
  | cons r rr =>
    cases rr
    obtain ⟨t, rfl⟩ := r
    exact call_range_1 (range_it I1 (by omega) (by omega) q1 q2 (by simpa using q))

/-! ### for -/
/-- W: the invariant by the turn and a measure; N: what the body is to reach -/
def tFor (wi : TI) (g : TG) (tb : TS) : TS := fun D σ H => wi σ H fun J H1 => ∃ W : Nat → Nat → St → Hp → Prop, (∃ m, W 0 m σ H1) ∧ ∀ i m σ H, W i m σ H →
  (J.stop i H ∧ D.nx σ H) ∨ (J.go i H ∧ ∃ N : St → Hp → Prop, (∀ σ' H', N σ' H' → ∃ m', m' < m ∧ W (i + 1) m' σ' H') ∧ ∀ x H', J.yld i H x H' → g x σ H' fun σ2 H2 => tb { D with nx := N, ct := N, bk := D.nx } σ2 H2)
/-- the records at fp as they stand -/
def pinsAt (fp : List Addr) (h : Heap) : List (Addr × Obj) := fp.filterMap fun b => (h.get? b).map fun o => (b, o)
theorem mem_pinsAt {fp : List Addr} {h : Heap} {b : Addr} {o : Obj} (hb : b ∈ fp) (e : h.get? b = some o) : (b, o) ∈ pinsAt fp h := List.mem_filterMap.mpr ⟨b, hb, by rw [e]; rfl⟩
theorem of_pinsAt {fp : List Addr} {h : Heap} {p : Addr × Obj} (hp : p ∈ pinsAt fp h) : p.1 ∈ fp ∧ h.get? p.1 = some p.2 := by
  obtain ⟨b, hb, e⟩ := List.mem_filterMap.mp hp
  cases q : h.get? b with
  | none => rw [q] at e; cases e
  | some o =>
    rw [q] at e
    have e' : (b, o) = p := Option.some.inj e
    subst e'
    exact ⟨hb, q⟩
theorem Inv.pinned {pins : List (Addr × Obj)} {σ : St} {H : Hp} {s : Shared} {fp : List Addr} (I : Inv X pins σ H s) (hf : ∀ b ∈ fp, FpOk X pins H b) (ho : ∀ b ∈ fp, ∃ o, s.heap.get? b = some o ∧ ∀ v, o.data ≠ .cell v) : Inv X (pins ++ pinsAt fp s.heap) σ H s :=
  I.pins_of fun p hp => (List.mem_append.mp hp).elim (fun z => I.pin p (List.mem_append_right _ z)) fun z => by
    obtain ⟨hb, e⟩ := of_pinsAt z
    obtain ⟨f0, f1, f2, _⟩ := hf p.1 hb
    obtain ⟨o, e', d⟩ := ho p.1 hb
    rw [e] at e'; cases e'
    exact ⟨e, f0, f1, f2, d⟩
theorem Inv.unpinned {pins pl : List (Addr × Obj)} {σ : St} {H : Hp} {s : Shared} (I : Inv X (pins ++ pl) σ H s) : Inv X pins σ H s := I.pins_of fun p hp => I.pin p (List.mem_append_right _ (List.mem_append_left _ hp))
theorem ps_for {iter : Expr} {body : List Stmt} {wi : TI} {g : TG} {tb : TS} {pos : Pos} (hp : PassesOwn (model X.prog X.w) X.A X.env X.xe) (hc : X.calm = true) (hi : PI X tg iter wi) (hg : PG X tg g) (hb : PSs X body tb)
    (hs : ∀ x, foldedSetIterable iter X.env x = pure x := by intro _; rfl) : PS X (.For tg iter body [] pos) (tFor wi g tb) := by
  intro pins s σ H D I h
  refine wpAny_For (thn (hi pins s σ H _ I h) fun v s1 h1 => thn h1 fun itv s2 h2 => ?_) hs
  obtain ⟨it, fp, tn, J, H2, e, I2, T, st2, f2, W, ⟨m0, w0⟩, turn⟩ := h2
  subst e
  -- what stays true of the iterator's objects through the loop
  have stat : ∀ {H' : Hp}, (∀ b ∈ fp, H' b = none) → ∀ b ∈ fp, FpOk X pins H' b := fun hn b hb => ⟨hn b hb, (f2 b hb).2⟩
  refine codeAny_forLoop_any (fun n s' => ∃ i σ' H', Inv X pins σ' H' s' ∧ tn i s'.heap ∧ (∀ b ∈ fp, H' b = none) ∧ W i n σ' H') ?_ m0 ⟨0, σ, H2, I2, st2, fun b hb => (f2 b hb).1, w0⟩
  rintro n s3 ⟨i, σ3, H3, I3, st3, fr3, w3⟩
  rcases turn i n σ3 H3 w3 with ⟨stop, qn⟩ | ⟨go, N, hN, step⟩
  · refine wpAny_passesOwn hp (thn (T.done X rfl rfl rfl hc i pins s3 σ3 H3 X.xe I3 (stat fr3) st3 stop) fun r s4 ⟨hr, I4⟩ => ?_)
    subst hr
    exact wpAny_execs_nil ⟨σ3, H3, I4, qn⟩
  · refine wpAny_passesOwn hp (thn (T.item X rfl rfl rfl hc i pins s3 σ3 H3 X.xe I3 (stat fr3) st3 go) fun r s4 ⟨u, hr, h4⟩ => ?_)
    subst hr
    refine wpAny_passesOwn hp (thn h4 fun _ s5 ⟨x, H5, I5, r5, y5, st5, fr5⟩ => ?_)
    have I5' := I5.pinned (stat fr5) (T.obj _ _ st5)
    refine wpAny_passesOwn hp (thn (hg _ s5 σ3 H5 x u _ I5' r5 (step x H5 y5)) fun _ s6 ⟨σ6, H6, I6, q6⟩ => ?_)
    refine wpAny_passesOwn hp (thn (hb _ s6 σ6 H6 _ I6 q6) fun f s7 q7 => ?_)
    have again : ∀ {σ7 : St} {H7 : Hp}, Inv X (pins ++ pinsAt fp s5.heap) σ7 H7 s7 → N σ7 H7 → ∃ m, m < n ∧ ∃ i σ' H', Inv X pins σ' H' s7 ∧ tn i s7.heap ∧ (∀ b ∈ fp, H' b = none) ∧ W i m σ' H' := fun {σ7 H7} I7 n7 => by
      obtain ⟨m', hm, w7⟩ := hN σ7 H7 n7
      refine ⟨m', hm, i + 1, σ7, H7, I7.unpinned, T.keep _ _ _ st5 fun b hb o e => (I7.pin (b, o) (List.mem_append_right _ (List.mem_append_right _ (mem_pinsAt hb e)))).1, fun b hb => ?_, w7⟩
      obtain ⟨o, e, d⟩ := T.obj _ _ st5 b hb
      exact (I7.pin (b, o) (List.mem_append_right _ (List.mem_append_right _ (mem_pinsAt hb e)))).2.1
    cases f with
    | next => obtain ⟨σ7, H7, I7, n7⟩ := q7; exact again I7 n7
    | cont => obtain ⟨σ7, H7, I7, n7⟩ := q7; exact again I7 n7
    | brk => obtain ⟨σ7, H7, I7, q7⟩ := q7; exact ⟨σ7, H7, I7.unpinned, q7⟩
    | ret v => obtain ⟨x7, σ7, H7, I7, r7, q7⟩ := q7; exact ⟨x7, σ7, H7, I7.unpinned, r7, q7⟩
end

/-! ### the forms one uses -/
/-- over a list that the body leaves as it is -/
theorem for_list {K : PySem.W.Frag} {a : Addr} {xs : List V} {g : TG} {tb : TS} {D : Ends} {σ : St} {H : Hp} (Pv : Nat → St → Hp → Prop) (h0 : Pv 0 σ H) (hl : ∀ i σ H, i ≤ xs.length → Pv i σ H → SqL K H a xs)
    (hs : ∀ i x σ H, xs[i]? = some x → Pv i σ H → g x σ H fun σ2 H2 => tb { D with nx := Pv (i + 1), ct := Pv (i + 1), bk := D.nx } σ2 H2) (hd : ∀ σ H, Pv xs.length σ H → D.nx σ H) :
    ∃ W : Nat → Nat → St → Hp → Prop, (∃ m, W 0 m σ H) ∧ ∀ i m σ H, W i m σ H →
      ((Itl K a).stop i H ∧ D.nx σ H) ∨ ((Itl K a).go i H ∧ ∃ N : St → Hp → Prop, (∀ σ' H', N σ' H' → ∃ m', m' < m ∧ W (i + 1) m' σ' H') ∧ ∀ x H', (Itl K a).yld i H x H' → g x σ H' fun σ2 H2 => tb { D with nx := N, ct := N, bk := D.nx } σ2 H2) := by
  refine ⟨fun i m σ H => m = xs.length - i ∧ i ≤ xs.length ∧ Pv i σ H, ⟨xs.length, by simp, Nat.zero_le _, h0⟩, ?_⟩
  rintro i m σ H ⟨rfl, hi, p⟩
  have q := hl i σ H hi p
  by_cases hlt : i < xs.length
  · refine .inr ⟨⟨xs, xs[i], q, by simp [hlt]⟩, Pv (i + 1), fun σ' H' p' => ⟨xs.length - (i + 1), by omega, rfl, hlt, p'⟩, fun x H' y => ?_⟩
    obtain ⟨e, y⟩ := y
    subst e
    exact hs i x σ _ (y xs q) p
  · have e : i = xs.length := by omega
    subst e
    exact .inl ⟨⟨xs, q, Nat.le_refl _⟩, hd σ H p⟩
theorem for_tup {K : PySem.W.Frag} {a : Addr} {xs : List V} {g : TG} {tb : TS} {D : Ends} {σ : St} {H : Hp} (Pv : Nat → St → Hp → Prop) (h0 : Pv 0 σ H) (hl : ∀ i σ H, i ≤ xs.length → Pv i σ H → SqT K H a xs)
    (hs : ∀ i x σ H, xs[i]? = some x → Pv i σ H → g x σ H fun σ2 H2 => tb { D with nx := Pv (i + 1), ct := Pv (i + 1), bk := D.nx } σ2 H2) (hd : ∀ σ H, Pv xs.length σ H → D.nx σ H) :
    ∃ W : Nat → Nat → St → Hp → Prop, (∃ m, W 0 m σ H) ∧ ∀ i m σ H, W i m σ H →
      ((Itt K a).stop i H ∧ D.nx σ H) ∨ ((Itt K a).go i H ∧ ∃ N : St → Hp → Prop, (∀ σ' H', N σ' H' → ∃ m', m' < m ∧ W (i + 1) m' σ' H') ∧ ∀ x H', (Itt K a).yld i H x H' → g x σ H' fun σ2 H2 => tb { D with nx := N, ct := N, bk := D.nx } σ2 H2) := by
  refine ⟨fun i m σ H => m = xs.length - i ∧ i ≤ xs.length ∧ Pv i σ H, ⟨xs.length, by simp, Nat.zero_le _, h0⟩, ?_⟩
  rintro i m σ H ⟨rfl, hi, p⟩
  have q := hl i σ H hi p
  by_cases hlt : i < xs.length
  · refine .inr ⟨⟨xs, xs[i], q, by simp [hlt]⟩, Pv (i + 1), fun σ' H' p' => ⟨xs.length - (i + 1), by omega, rfl, hlt, p'⟩, fun x H' y => ?_⟩
    obtain ⟨e, y⟩ := y
    subst e
    exact hs i x σ _ (y xs q) p
  · have e : i = xs.length := by omega
    subst e
    exact .inl ⟨⟨xs, q, Nat.le_refl _⟩, hd σ H p⟩
theorem for_range {lo : Int} {n : Nat} {g : TG} {tb : TS} {D : Ends} {σ : St} {H : Hp} (Pv : Nat → St → Hp → Prop) (h0 : Pv 0 σ H)
    (hs : ∀ i σ H, i < n → Pv i σ H → g (.int (lo + i)) σ H fun σ2 H2 => tb { D with nx := Pv (i + 1), ct := Pv (i + 1), bk := D.nx } σ2 H2) (hd : ∀ σ H, Pv n σ H → D.nx σ H) :
    ∃ W : Nat → Nat → St → Hp → Prop, (∃ m, W 0 m σ H) ∧ ∀ i m σ H, W i m σ H →
      ((Itr lo n).stop i H ∧ D.nx σ H) ∨ ((Itr lo n).go i H ∧ ∃ N : St → Hp → Prop, (∀ σ' H', N σ' H' → ∃ m', m' < m ∧ W (i + 1) m' σ' H') ∧ ∀ x H', (Itr lo n).yld i H x H' → g x σ H' fun σ2 H2 => tb { D with nx := N, ct := N, bk := D.nx } σ2 H2) := by
  refine ⟨fun i m σ H => m = n - i ∧ i ≤ n ∧ Pv i σ H, ⟨n, by simp, Nat.zero_le _, h0⟩, ?_⟩
  rintro i m σ H ⟨rfl, hi, p⟩
  by_cases hlt : i < n
  · refine .inr ⟨hlt, Pv (i + 1), fun σ' H' p' => ⟨n - (i + 1), by omega, rfl, hlt, p'⟩, fun x H' y => ?_⟩
    obtain ⟨e, y⟩ := y
    subst e y
    exact hs i σ _ hlt p
  · have e : i = n := by omega
    subst e
    exact .inl ⟨Nat.le_refl _, hd σ H p⟩
end L2

namespace L2
open PySem PySem.Spec PyProof.Rows

abbrev R2 := V → V → Hp → VK → Prop
/-- a two-place operation on values: f is binaryOp op, inplaceOp op or compareOp op -/
def OpR (X : Cx) (f : Value → Value → Sem Value) (r : R2) : Prop :=
  ∀ (pins : List (Addr × Obj)) (s : Shared) (σ : St) (H : Hp) (x y : V) (v u : Value) (Q : VK), Inv X pins σ H s → RelV x v → RelV y u → r x y H Q →
    wpAny (model X.prog X.w) X.A (f v u) (EP X pins σ Q) X.xe s
/-- a one-place operation -/
def UnR (X : Cx) (f : Value → Sem Value) (r : V → Hp → VK → Prop) : Prop :=
  ∀ (pins : List (Addr × Obj)) (s : Shared) (σ : St) (H : Hp) (x : V) (v : Value) (Q : VK), Inv X pins σ H s → RelV x v → r x H Q →
    wpAny (model X.prog X.w) X.A (f v) (EP X pins σ Q) X.xe s
/-- a call of a value that is known (a builtin, a type) with values -/
def CallR (X : Cx) (f : Value) (r : List V → Hp → VK → Prop) : Prop :=
  ∀ (pins : List (Addr × Obj)) (s : Shared) (σ : St) (H : Hp) (xs : List V) (us : List Value) (Q : VK), Inv X pins σ H s → Vals xs us → r xs H Q →
    wpAny (model X.prog X.w) X.A (call f us) (EP X pins σ Q) X.xe s
/-- a value's truth -/
def TruR (X : Cx) (r : V → Hp → (Bool → Hp → Prop) → Prop) : Prop :=
  ∀ (pins : List (Addr × Obj)) (s : Shared) (σ : St) (H : Hp) (x : V) (v : Value) (Q : Bool → Hp → Prop), Inv X pins σ H s → RelV x v → r x H Q →
    wpAny (model X.prog X.w) X.A (truthy v) (TP X pins σ Q) X.xe s

def tOp (r : R2) (ta tb : TE) : TE := fun σ H Q => ta σ H fun x H1 => tb σ H1 fun y H2 => r x y H2 Q
def tUn (r : V → Hp → VK → Prop) (ta : TE) : TE := fun σ H Q => ta σ H fun x H1 => r x H1 Q
/-- ints in, under C, and a value out -/
def rI (C : Int → Int → Prop) (g : Int → Int → V) : R2 := fun x y H Q => ∃ i j, x = .int i ∧ y = .int j ∧ C i j ∧ Q (g i j) H
def rI0 (g : Int → Int → V) : R2 := fun x y H Q => ∃ i j, x = .int i ∧ y = .int j ∧ Q (g i j) H
def rU (g : Int → V) : V → Hp → VK → Prop := fun x H Q => ∃ i, x = .int i ∧ Q (g i) H

section
variable {X : Cx} {a b c : Expr} {ta tb tc : TE} {pos : Pos}

theorem binT (ha : PE X a ta) (hb : PE X b tb) {pins : List (Addr × Obj)} {s : Shared} {σ : St} {H : Hp} {R : V → V → Hp → Prop} (I : Inv X pins σ H s)
    (h : ta σ H fun x H1 => tb σ H1 fun y H2 => R x y H2) {Q : Value → Shared → Prop} {f : Value → Value → Sem Value}
    (hf : ∀ v u s2 x y H2, Inv X pins σ H2 s2 → RelV x v → RelV y u → R x y H2 → wpAny (model X.prog X.w) X.A (f v u) Q X.xe s2) :
    wpAny (model X.prog X.w) X.A (eval a X.env) (fun v s₁ => wpAny (model X.prog X.w) X.A (eval b X.env) (fun u s₂ => wpAny (model X.prog X.w) X.A (f v u) Q X.xe s₂) X.xe s₁) X.xe s := by
  refine thn (ha pins s σ H _ I h) fun v s1 ⟨x, H1, I1, r1, q1⟩ => ?_
  refine thn (hb pins s1 σ H1 _ I1 q1) fun u s2 ⟨y, H2, I2, r2, q2⟩ => ?_
  exact hf v u s2 x y H2 I2 r1 r2 q2

theorem pe_op {op : Operator} {r : R2} (ho : OpR X (binaryOp op) r) (ha : PE X a ta) (hb : PE X b tb) : PE X (.BinOp a op b pos) (tOp r ta tb) := by
  intro pins s σ H Q I h
  exact wpAny_BinOp (binT ha hb I h fun v u s2 x y H2 I2 rx ry q => ho pins s2 σ H2 x y v u Q I2 rx ry q)
theorem pe_un {op : UnaryOp} {r : V → Hp → VK → Prop} (ho : UnR X (unaryOp op) r) (ha : PE X a ta) : PE X (.UnaryOp op a pos) (tUn r ta) := by
  intro pins s σ H Q I h
  exact UnaryOp_ (thn (ha pins s σ H _ I h) fun v s1 ⟨x, H1, I1, r1, q1⟩ => ho pins s1 σ H1 x v Q I1 r1 q1)

/-! ### ints -/
theorem opI {f : Value → Value → Sem Value} {C : Int → Int → Prop} {g : Int → Int → Int}
    (rule : ∀ (i j : Int) (t u : Tok) (s : Shared) (Q : Value → Shared → Prop) (E : Value → Shared → Prop), C i j → Q (.int (g i j) s.toks) { s with toks := s.toks + 1 } → wpAny (model X.prog X.w) X.A (f (.int i t) (.int j u)) Q E s) :
    OpR X f (rI C fun i j => .int (g i j)) := by
  intro pins s σ H x y v u Q I rx ry h
  obtain ⟨i, j, rfl, rfl, hc, q⟩ := h
  obtain ⟨t, rfl⟩ := rx
  obtain ⟨t', rfl⟩ := ry
  exact rule i j t t' s _ _ hc ⟨.int (g i j), H, I.tok _, ⟨_, rfl⟩, q⟩
theorem opI0 {f : Value → Value → Sem Value} {g : Int → Int → Int}
    (rule : ∀ (i j : Int) (t u : Tok) (s : Shared) (Q : Value → Shared → Prop) (E : Value → Shared → Prop), Q (.int (g i j) s.toks) { s with toks := s.toks + 1 } → wpAny (model X.prog X.w) X.A (f (.int i t) (.int j u)) Q E s) :
    OpR X f (rI0 fun i j => .int (g i j)) := by
  intro pins s σ H x y v u Q I rx ry h
  obtain ⟨i, j, rfl, rfl, q⟩ := h
  obtain ⟨t, rfl⟩ := rx
  obtain ⟨t', rfl⟩ := ry
  exact rule i j t t' s _ _ ⟨.int (g i j), H, I.tok _, ⟨_, rfl⟩, q⟩
theorem opB0 {f : Value → Value → Sem Value} {g : Int → Int → Bool}
    (rule : ∀ (i j : Int) (t u : Tok) (s : Shared) (Q : Value → Shared → Prop) (E : Value → Shared → Prop), Q (.bool (g i j)) s → wpAny (model X.prog X.w) X.A (f (.int i t) (.int j u)) Q E s) :
    OpR X f (rI0 fun i j => .bl (g i j)) := by
  intro pins s σ H x y v u Q I rx ry h
  obtain ⟨i, j, rfl, rfl, q⟩ := h
  obtain ⟨t, rfl⟩ := rx
  obtain ⟨t', rfl⟩ := ry
  exact rule i j t t' s _ _ ⟨.bl (g i j), H, I, rfl, q⟩

def CDiv (i j : Int) : Prop := 0 < j ∧ j < 1073741824
def CPow (i j : Int) : Prop := 0 ≤ j ∧ j ≤ 1000000 ∧ i.natAbs < 2 ^ 64
def CMul (i j : Int) : Prop := (-(2 ^ 64) < i ∧ i < 2 ^ 64) ∨ (-(2 ^ 64) < j ∧ j < 2 ^ 64)
theorem CMul.ok {i j : Int} (h : CMul i j) : IntMulOk i j := by
  rcases h with ⟨h1, h2⟩ | ⟨h1, h2⟩
  · exact .of_left (intBits_le_64 h1 h2)
  · exact .of_right (intBits_le_64 h1 h2)

theorem op_add : OpR X (binaryOp .Add) (rI0 fun i j => .int (i + j)) := opI0 fun _ _ _ _ _ _ _ q => add_int q
theorem op_sub : OpR X (binaryOp .Sub) (rI0 fun i j => .int (i - j)) := opI0 fun _ _ _ _ _ _ _ q => sub_int q
theorem op_mul : OpR X (binaryOp .Mult) (rI CMul fun i j => .int (i * j)) := opI fun _ _ _ _ _ _ _ hc q => mul_int q hc.ok
/-- // by a positive divisor -/
theorem op_fdiv : OpR X (binaryOp .FloorDiv) (rI CDiv fun i j => .int (i / j)) := opI fun i j _ _ _ _ _ hc q => by
  have h1 : (0 : Int) < j := hc.1
  have h2 : j < 1073741824 := hc.2
  exact floordiv_int (by omega) (by rw [Int.fdiv_eq_ediv_of_nonneg i (by omega)]; exact q) (.inl (PyProof.noPylong_small (by omega)))
/-- % by a positive divisor of any size -/
theorem op_mod : OpR X (binaryOp .Mod) (rI (fun _ j => 0 < j) fun i j => .int (i % j)) := opI fun i j _ _ _ _ _ hc q => by
  have h1 : (0 : Int) < j := hc
  exact mod_int' (by omega) (by rw [Int.fmod_eq_emod_of_nonneg i (by omega)]; exact q)
theorem op_pow : OpR X (binaryOp .Pow) (rI CPow fun i j => .int (i ^ j.toNat)) := opI fun _ _ _ _ _ _ _ hc q => pow_int_small hc.1 hc.2.1 hc.2.2 q


theorem unI {f : Value → Sem Value} {g : Int → Int}
    (rule : ∀ (i : Int) (t : Tok) (s : Shared) (Q : Value → Shared → Prop) (E : Value → Shared → Prop), Q (.int (g i) s.toks) { s with toks := s.toks + 1 } → wpAny (model X.prog X.w) X.A (f (.int i t)) Q E s) :
    UnR X f (rU fun i => .int (g i)) := by
  intro pins s σ H x v Q I rx h
  obtain ⟨i, rfl, q⟩ := h
  obtain ⟨t, rfl⟩ := rx
  exact rule i t s _ _ ⟨.int (g i), H, I.tok _, ⟨_, rfl⟩, q⟩
theorem un_neg : UnR X (unaryOp .USub) (rU fun i => .int (-i)) := unI fun _ _ _ _ _ q => neg_int q

/-! ### bools among ints: n += (a < b) -/
end

/-! ### comparisons -/
/-- the scalars that == tells apart as data does -/
def scal : V → V → Bool
  | .non, .non => true | .non, .int _ => true | .int _, .non => true | .non, .bl _ => true | .bl _, .non => true | .non, .str _ => true | .str _, .non => true
  | .int _, .int _ => true | .bl _, .bl _ => true | .str _, .str _ => true | .byt _, .byt _ => true
  | .int _, .str _ => true | .str _, .int _ => true | .bl _, .str _ => true | .str _, .bl _ => true
  | _, _ => false
def rEq : R2 := fun x y H Q => scal x y = true ∧ Q (.bl (decide (x = y))) H
def rNe : R2 := fun x y H Q => scal x y = true ∧ Q (.bl (!decide (x = y))) H

theorem dec_int {i j : Int} : decide (V.int i = V.int j) = (i == j) := by
  rw [Bool.eq_iff_iff]
  simp
theorem dec_bl {i j : Bool} : decide (V.bl i = V.bl j) = (i == j) := by
  rw [Bool.eq_iff_iff]
  simp
theorem dec_str {i j : Str} : decide (V.str i = V.str j) = (i == j) := by
  rw [Bool.eq_iff_iff]
  simp
theorem dec_byt {i j : Array UInt8} : decide (V.byt i = V.byt j) = (i.toList == j.toList) := by
  rw [Bool.eq_iff_iff]
  cases i
  cases j
  simp

section
variable {X : Cx} {a b c : Expr} {ta tb tc : TE} {pos : Pos}
theorem fin_bl {pins : List (Addr × Obj)} {σ : St} {H : Hp} {s : Shared} {Q : VK} {k k' : Bool} (I : Inv X pins σ H s) (q : Q (.bl k) H) (e : k = k') : EP X pins σ Q (.bool k') s := by
  subst e
  exact ⟨.bl k, H, I, rfl, q⟩
theorem op_eq : OpR X (compareOp .Eq) rEq := by
  intro pins s σ H x y v u Q I rx ry h
  obtain ⟨hs, q⟩ := h
  cases x with
  | non =>
    cases rx
    cases y with
    | non => cases ry; exact PySem.EqNone.eq_none_none (fin_bl I q (by simp))
    | bl j => cases ry; exact PySem.EqNone.eq_none_bool (fin_bl I q (by simp))
    | int j => obtain ⟨t', rfl⟩ := ry; exact PySem.EqNone.eq_none_int (fin_bl I q (by simp))
    | str j => obtain ⟨t', rfl⟩ := ry; exact PySem.EqNone.eq_none_str (fin_bl I q (by simp))
    | _ => exact absurd (show false = true from hs) Bool.false_ne_true
  | bl i =>
    cases rx
    cases y with
    | non => cases ry; exact PySem.EqNone.eq_bool_none (fin_bl I q (by simp))
    | bl j => cases ry; exact eq_bool (fin_bl I q dec_bl)
    | str j => obtain ⟨t', rfl⟩ := ry; exact PySem.EqMixed.eq_bool_str (fin_bl I q (by simp))
    | _ => exact absurd (show false = true from hs) Bool.false_ne_true
  | int i =>
    obtain ⟨t, rfl⟩ := rx
    cases y with
    | non => cases ry; exact PySem.EqNone.eq_int_none (fin_bl I q (by simp))
    | int j => obtain ⟨t', rfl⟩ := ry; exact eq_int (fin_bl I q dec_int)
    | str j => obtain ⟨t', rfl⟩ := ry; exact PySem.EqMixed.eq_int_str (fin_bl I q (by simp))
    | _ => exact absurd (show false = true from hs) Bool.false_ne_true
  | str i =>
    obtain ⟨t, rfl⟩ := rx
    cases y with
    | non => cases ry; exact PySem.EqNone.eq_str_none (fin_bl I q (by simp))
    | bl j => cases ry; exact PySem.EqMixed.eq_str_bool (fin_bl I q (by simp))
    | int j => obtain ⟨t', rfl⟩ := ry; exact PySem.EqMixed.eq_str_int (fin_bl I q (by simp))
    | str j => obtain ⟨t', rfl⟩ := ry; exact eq_str (fin_bl I q dec_str)
    | _ => exact absurd (show false = true from hs) Bool.false_ne_true
  | byt i =>
    obtain ⟨t, rfl⟩ := rx
    cases y with
    | byt j => obtain ⟨t', rfl⟩ := ry; exact PySem.W.eq_bytes (fin_bl I q dec_byt)
    | _ => exact absurd (show false = true from hs) Bool.false_ne_true
  | _ => cases y <;> exact absurd (show false = true from hs) Bool.false_ne_true
theorem op_ne : OpR X (compareOp .NotEq) rNe := by
  intro pins s σ H x y v u Q I rx ry h
  obtain ⟨hs, q⟩ := h
  cases x with
  | non =>
    cases rx
    cases y with
    | non => cases ry; exact PySem.EqNone.ne_none_none (fin_bl I q (by simp))
    | bl j => cases ry; exact PySem.EqNone.ne_none_bool (fin_bl I q (by simp))
    | int j => obtain ⟨t', rfl⟩ := ry; exact PySem.EqNone.ne_none_int (fin_bl I q (by simp))
    | str j => obtain ⟨t', rfl⟩ := ry; exact PySem.EqNone.ne_none_str (fin_bl I q (by simp))
    | _ => exact absurd (show false = true from hs) Bool.false_ne_true
  | bl i =>
    cases rx
    cases y with
    | non => cases ry; exact PySem.EqNone.ne_bool_none (fin_bl I q (by simp))
    | bl j => cases ry; exact ne_bool (fin_bl I q (congrArg not dec_bl))
    | str j => obtain ⟨t', rfl⟩ := ry; exact PySem.EqMixed.ne_bool_str (fin_bl I q (by simp))
    | _ => exact absurd (show false = true from hs) Bool.false_ne_true
  | int i =>
    obtain ⟨t, rfl⟩ := rx
    cases y with
    | non => cases ry; exact PySem.EqNone.ne_int_none (fin_bl I q (by simp))
    | int j => obtain ⟨t', rfl⟩ := ry; exact ne_int (fin_bl I q (congrArg not dec_int))
    | str j => obtain ⟨t', rfl⟩ := ry; exact PySem.EqMixed.ne_int_str (fin_bl I q (by simp))
    | _ => exact absurd (show false = true from hs) Bool.false_ne_true
  | str i =>
    obtain ⟨t, rfl⟩ := rx
    cases y with
    | non => cases ry; exact PySem.EqNone.ne_str_none (fin_bl I q (by simp))
    | bl j => cases ry; exact PySem.EqMixed.ne_str_bool (fin_bl I q (by simp))
    | int j => obtain ⟨t', rfl⟩ := ry; exact PySem.EqMixed.ne_str_int (fin_bl I q (by simp))
    | str j => obtain ⟨t', rfl⟩ := ry; exact ne_str (fin_bl I q (congrArg not dec_str))
    | _ => exact absurd (show false = true from hs) Bool.false_ne_true
  | byt i =>
    obtain ⟨t, rfl⟩ := rx
    cases y with
    | byt j => obtain ⟨t', rfl⟩ := ry; exact PySem.W.ne_bytes (fin_bl I q (congrArg not dec_byt))
    | _ => exact absurd (show false = true from hs) Bool.false_ne_true
  | _ => cases y <;> exact absurd (show false = true from hs) Bool.false_ne_true

theorem op_lt : OpR X (compareOp .Lt) (rI0 fun i j => .bl (decide (i < j))) := opB0 fun _ _ _ _ _ _ _ q => lt_int q
theorem op_gt : OpR X (compareOp .Gt) (rI0 fun i j => .bl (decide (j < i))) := opB0 fun _ _ _ _ _ _ _ q => gt_int q

theorem op_notN : OpR X (compareOp .IsNot) (fun x y H Q => y = .non ∧ Q (.bl (!decide (x = .non))) H) := by
  intro pins s σ H x y v u Q I rx ry h
  obtain ⟨rfl, q⟩ := h
  cases ry
  refine isnot_none_gen (fin_bl I q ?_)
  cases x <;> first
    | (cases rx; rfl)
    | (obtain ⟨t, rfl⟩ := rx; rfl)



theorem nomark (b : Expr) {op : CmpOp} (h : op ≠ .In := by decide) (h2 : op ≠ .NotIn := by decide) : behindInMarks op b = false := by
  have e1 : (op == CmpOp.In) = false := by cases op <;> first | rfl | exact absurd rfl h
  have e2 : (op == CmpOp.NotIn) = false := by cases op <;> first | rfl | exact absurd rfl h2
  cases b <;> simp [behindInMarks, e1, e2]
/-- a comparison as a value; hm: nomark b, or (for in, not in) by with_unfolding_all rfl -/
theorem pe_cmpR {op : CmpOp} {r : R2} (ho : OpR X (compareOp op) r) (ha : PE X a ta) (hb : PE X b tb) (hm : behindInMarks op b = false) : PE X (.Compare a [op] [b] pos) (tOp r ta tb) := by
  intro pins s σ H Q I h
  exact wpAny_Compare1 (binT ha hb I h fun v u s2 x y H2 I2 rx ry q => ho pins s2 σ H2 x y v u Q I2 rx ry q) hm
/-- a reading of a value as a test -/
def tTest (t : TE) : TT := fun σ H Q => t σ H fun x H' => ∃ k, x = .bl k ∧ Q k H'
theorem pt_cmpR {op : CmpOp} {r : R2} (ho : OpR X (compareOp op) r) (ha : PE X a ta) (hb : PE X b tb) (hm : behindInMarks op b = false) : PT X (.Compare a [op] [b] pos) (tTest (tOp r ta tb)) := by
  intro pins s σ H Q I h
  refine wpAny_isTrue_Compare1 (thn (ha pins s σ H _ I h) fun v s1 ⟨x, H1, I1, r1, q1⟩ => thn (hb pins s1 σ H1 _ I1 q1) fun u s2 ⟨y, H2, I2, r2, q2⟩ =>
    thn (ho pins s2 σ H2 x y v u _ I2 r1 r2 q2) fun c s3 ⟨z, H3, I3, r3, k, e, q3⟩ => ?_) hm
  subst e
  cases r3
  exact wpAny_truthy_bool ⟨H3, I3, q3⟩

/-! ### truth -/
/-- a value's truth by the abstract heap -/
def TruV (K : PySem.W.Frag) (x : V) (H : Hp) (k : Bool) : Prop :=
  match x with
  | .non => k = false
  | .bl b => k = b
  | .int i => k = (i != 0)
  | .str y => y.length ≤ sizeLine ∧ k = ((y.length : Int) != 0)
  | .byt y => y.size ≤ sizeLine ∧ k = ((y.size : Int) != 0)
  | .ref p => (∃ xs, SqL K H p xs ∧ k = !xs.isEmpty) ∨ (∃ xs, SqT K H p xs ∧ k = !xs.isEmpty) ∨ ∃ kvs, H p = some (.dK kvs) ∧ k = !kvs.isEmpty
  | _ => False
theorem isEmpty_kv {κ : Type} {kvs : List (κ × V)} {vs : List (κ × Value)} (r : KV kvs vs) : (!vs.isEmpty) = !kvs.isEmpty := by
  cases r <;> rfl
theorem isEmpty_of {xs : List V} {its : List Value} (r : Vals xs its) : (!its.toArray.isEmpty) = !xs.isEmpty := by
  cases r <;> simp
theorem line63 : (sizeLine : Nat) < 2 ^ 63 := by rw [sizeLine_eq]; decide
theorem tru_ok : TruR X (fun x H Q => ∃ k, TruV X.K x H k ∧ Q k H) := by
  intro pins s σ H x v Q I rx h
  obtain ⟨k, e, q⟩ := h
  have hl := line63
  have hs : sizeLine = 16777216 := sizeLine_eq
  cases x with
  | non =>
    cases rx
    have e' : k = false := e
    subst e'
    exact truthy_none ⟨H, I, q⟩
  | bl b =>
    cases rx
    have e' : k = b := e
    subst e'
    exact wpAny_truthy_bool ⟨H, I, q⟩
  | int i =>
    obtain ⟨t, rfl⟩ := rx
    have e' : k = (i != 0) := e
    subst e'
    exact PySem.P.truthy_int ⟨H, I, q⟩
  | str y =>
    obtain ⟨t, rfl⟩ := rx
    obtain ⟨hy, e'⟩ : y.length ≤ sizeLine ∧ k = ((y.length : Int) != 0) := e
    subst e'
    exact PySem.P.truthy_str (by omega) ⟨H, I.tok _, q⟩
  | byt y =>
    obtain ⟨t, rfl⟩ := rx
    obtain ⟨hy, e'⟩ : y.size ≤ sizeLine ∧ k = ((y.size : Int) != 0) := e
    subst e'
    exact PySem.W.truthy_bytes (by omega) ⟨H, I.tok _, q⟩
  | ref p =>
    cases rx
    have e' : (∃ xs, SqL X.K H p xs ∧ k = !xs.isEmpty) ∨ (∃ xs, SqT X.K H p xs ∧ k = !xs.isEmpty) ∨ ∃ kvs, H p = some (.dK kvs) ∧ k = !kvs.isEmpty := e
    rcases e' with ⟨xs, hx, e'⟩ | ⟨xs, hx, e'⟩ | ⟨kvs, hx, e'⟩
    · subst e'
      obtain ⟨its, r, pl, hz⟩ := I.list hx
      have hlen := r.length
      exact wpAny_truthy_list pl.isList (by simp only [List.size_toArray]; omega) ⟨H, I.tok _, by rw [isEmpty_of r]; exact q⟩
    · subst e'
      obtain ⟨its, r, pl, hz⟩ := I.tuple hx
      have hlen := r.length
      exact truthy_tuple pl (by simp only [List.size_toArray]; omega) ⟨H, I.tok _, by rw [isEmpty_of r]; exact q⟩
    · subst e'
      obtain ⟨hz, hS, vs, r, m⟩ : kvs.length ≤ sizeLine ∧ (p == sysModules) = false ∧ ∃ vs, KV kvs vs ∧ s.heap.DictOf (mixKind X.prog X.w) p vs := I.hok p _ hx
      have hlen : kvs.length = vs.length := Paired.length r
      exact wpAny_truthy_dict hS m (by omega) ⟨H, I.tok _, by rw [isEmpty_kv r]; exact q⟩
  | _ => exact (show False from e).elim
/-- any expression whose test is its value's truth (a name, a call, a subscript, a field ..: he by fun _ => rfl) -/
theorem pt_truth (ha : PE X a ta) (he : ∀ whole, isTrue a X.env whole = (do let v ← whole; standAt a.pos; holding [v] (truthy v))) :
    PT X a (fun σ H Q => ta σ H fun x H' => ∃ k, TruV X.K x H' k ∧ Q k H') := by
  intro pins s σ H Q I h
  exact isTrue_plain (thn (ha pins s σ H _ I h) fun v s1 ⟨x, H1, I1, r1, q1⟩ => tru_ok pins s1 σ H1 x v Q I1 r1 q1) (he _)

/-! ### strs and bytes -/
theorem op_add_str : OpR X (binaryOp .Add) (fun x y H Q => ∃ i j, x = .str i ∧ y = .str j ∧ i.length + j.length ≤ sizeLine ∧ Q (.str (i ++ j)) H) := by
  intro pins s σ H x y v u Q I rx ry h
  obtain ⟨i, j, rfl, rfl, hz, q⟩ := h
  obtain ⟨t, rfl⟩ := rx
  obtain ⟨t', rfl⟩ := ry
  exact add_str (fun t' tk => ⟨.str (i ++ j), H, I.tok _, ⟨_, rfl⟩, q⟩) hz


/-! ### scalar builtins, by CallR -/
theorem vals1 {x : V} {us : List Value} (r : Vals [x] us) : ∃ u, us = [u] ∧ RelV x u := by
  cases r with
  | cons r1 r2 => cases r2; exact ⟨_, rfl, r1⟩
theorem vals2 {x y : V} {us : List Value} (r : Vals [x, y] us) : ∃ u w', us = [u, w'] ∧ RelV x u ∧ RelV y w' := by
  cases r with
  | cons r1 r2 =>
    cases r2 with
    | cons r3 r4 => cases r4; exact ⟨_, _, rfl, r1, r3⟩
theorem call_max2 (hc : X.calm = true) : CallR X (.builtin "max") (fun xs H Q => ∃ i j, xs = [.int i, .int j] ∧ Q (.int (if j > i then j else i)) H) := by
  intro pins s σ H xs us Q I r h
  obtain ⟨i, j, rfl, q⟩ := h
  obtain ⟨u, w', rfl, ⟨t, rfl⟩, ⟨t', rfl⟩⟩ := vals2 r
  refine max_two_ints (I.ok.hd hc) fun h' tk k => ⟨_, H, I.kept k, ?_, q⟩
  by_cases hj : j > i
  · rw [if_pos hj, if_pos hj]; exact ⟨_, rfl⟩
  · rw [if_neg hj, if_neg hj]; exact ⟨_, rfl⟩
end
end L2

namespace L2
open PySem PySem.Spec PyProof.Rows

/-! ### an instance, its attributes a map -/
structure ObjM (h : Heap) (x dx C : Addr) (mA : Str → Option Value) : Prop where
  obj : h.get? x = some (PySem.W.instObj C dx)
  ns : h.Ns1 dx mA
  ne : dx ≠ x

theorem lookIn_ns {h : Heap} {dx : Addr} {mA : Str → Option Value} (n : h.Ns1 dx mA) : ∃ od, h.get? dx = some od ∧ ∀ name, PySem.W.lookIn name od = some (mA name) := by
  obtain ⟨o, es, ep, ho, hd, hk, _, hm⟩ := n
  refine ⟨o, ho, fun name => ?_⟩
  have e := hm name
  unfold nsFind findBy at e
  rw [← Array.find?_toList] at e
  unfold PySem.W.lookIn
  rw [hd]
  dsimp only
  split
  · rename_i y q
    rw [q] at e
    exact congrArg some e
  · rename_i q
    rw [q] at e
    have a : es.toList.any (·.refKey) = false := by
      rw [List.any_eq_false]
      intro y hy
      obtain ⟨z, t, hkey⟩ := hk y (Array.mem_toList_iff.mp hy)
      simp [DictEntry.refKey, hkey]
    have a' : ¬ es.toList.any (·.refKey) = true := by rw [a]; exact Bool.false_ne_true
    rw [if_neg a']
    exact congrArg some e

theorem ObjM.look {h : Heap} {x dx C : Addr} {mA : Str → Option Value} (I : ObjM h x dx C mA) : ∃ od, PySem.W.InstAt h x (PySem.W.instObj C dx) C (some od) ∧ ∀ name, PySem.W.lookIn name od = some (mA name) :=
  let ⟨od, ho, hl⟩ := lookIn_ns I.ns
  ⟨od, ⟨I.obj, rfl, rfl, ho⟩, hl⟩

section
variable {prog : Program} {w : World} {A : Around} {E : Value → Shared → Prop} {s : Shared} {K : PySem.W.Frag} {x dx C f : Addr} {mA : Str → Option Value} {name : Str} {v : Value}

theorem get_map {expr : Bool} {Q : Value → Shared → Prop} (X : K.In s.heap) (I : ObjM s.heap x dx C mA) (hg : PySem.W.plainGet K C name = true) (hh : PySem.W.hasDictIn K C = true)
    (ha : PySem.W.findIn K (.ref C) name = some none) (hv : mA name = some v) (hv' : PySem.W.handedIn v = true) (h : Q v { s with toks := s.toks + 1 }) :
    wpAny (model prog w) A (getAttr (.ref x) name expr) Q E s := by
  obtain ⟨od, J, hl⟩ := I.look
  exact PySem.W.get_value X J (PySem.W.plainGet_of hg).1 (PySem.W.findObj_own hh ha rfl (by rw [hl, hv])) hv' h


theorem get_meth {pl : Sem Bool} {Q : Value × List Value → Shared → Prop} (X : K.In s.heap) (I : ObjM s.heap x dx C mA) (hg : PySem.W.plainGet K C name = true)
    (hf : PySem.W.findIn K (.ref C) name = some (some (.ref f))) (ht : PySem.W.isFn K (.ref f) = true) (hv : mA name = none) (h : Q (.ref f, [.ref x]) s) :
    wpAny (model prog w) A (getMethod (.ref x) name pl) Q E s := by
  obtain ⟨od, J, hl⟩ := I.look
  exact PySem.W.method_fn X J (PySem.W.plainGet_of hg).1 (PySem.W.plainGet_of hg).2 hf (beq_iff_eq.mp ht) (by show (PySem.W.lookIn name od).map (·.isSome) = some false; rw [hl, hv]; rfl) h

theorem set_map {ns : List Str} {Q : Unit → Shared → Prop} (X : K.In s.heap) (I : ObjM s.heap x dx C mA)
    (hs : PySem.W.findIn K (.ref C) "__setattr__" = some (some (.builtin "object.__setattr__"))) (hp : PySem.W.plainOver K C = true) (ht : PySem.W.takerIn K C name = some none) (hh : PySem.W.hasDictIn K C = true)
    (hw : PySem.Within mA ns) (hsz : ns.length ≤ sizeLine)
    (h : ∀ h', ObjM h' x dx C (fun y => if y = name then some v else mA y) → Heap.SameBut dx s.heap h' → Q () { s with heap := h', toks := s.toks + 2 }) :
    wpAny (model prog w) A (setAttr (.ref x) name v) Q E s := by
  obtain ⟨od, J, hl⟩ := I.look
  refine PySem.W.set_plain X J hs (PySem.W.osa_open (s := { s with toks := s.toks + 1 }) (r := none) X J hp ht fun b => ?_)
  obtain ⟨cd, hc, hd'⟩ := PySem.W.any_some hh
  have hx : s.heap.get? x = some ⟨.ref C, some dx, .plain, #[]⟩ := I.obj
  refine wpAny_bind (wpAny_pure (wpAny_bind (wpAny_bind (wpAny_loadPart hx (wpAny_bind (PySem.W.Looks.here (s := { s with toks := s.toks + 1 }) (PySem.W.looks_clsIn X hc) ?_))))))
  rw [hd']
  refine wpAny_pure (a := some dx) (wpAny_bind (wpAny_pure (wpAny_bind ?_)))
  refine wpAny_nsSet1 (s := { s with toks := s.toks + 1 }) I.ns fun h' hn2 hs2 => ?_
  obtain ⟨oD, esD, epD, hoD, hdD, hcD⟩ := hn2.count (PySem.Within.cons name v hw)
  refine wpAny_bind (wpAny_lookBehind hoD (by rw [hdD]; exact pastItsLine_dict (Nat.le_trans hcD (by rw [List.length_cons]; omega))) ?_)
  exact wpAny_pure (h _ ⟨(hs2.2 _ (Ne.symm I.ne)).trans I.obj, hn2, I.ne⟩ hs2)

/-- C(..): the dict at the heap's end, the instance behind it; then its __init__ -/
theorem make_map {R : Result → Shared → Prop} {vs : List Value} {kw : List (Str × Value)} (X : K.In s.heap) (hm : PySem.W.makesIn K C = true)
    (hi : PySem.W.findIn K (.ref C) "__init__" = some (some (.ref f))) (hf : PySem.W.typeIn K (.ref f) = some (.type "function"))
    (h : codeAny (model prog w) (A.under (.builtin "type.__call__" ⟨.ref C :: vs, kw⟩)) (.call (.ref f) ⟨.ref (s.heap.objs.size + 1) :: vs, kw⟩) (PySem.W.InitBack (s.heap.objs.size + 1) R)
      { s with heap := (s.heap.push PySem.W.emptyDict).push (PySem.W.instObj C s.heap.objs.size) }) :
    codeAny (model prog w) A (.call (.ref C) ⟨vs, kw⟩) R s := by
  obtain ⟨hh, g, d, t, os⟩ := s
  exact PySem.W.make_core (PySem.W.makes_of X hm) (PySem.W.looks_findIn X hi) (fun self => PySem.W.bind_fn X self hf) (.inl rfl) h
end

/-! ### the attributes as a list of pairs -/
def putF (f : Str) (v : V) : List (Str × V) → List (Str × V)
  | [] => [(f, v)]
  | (g, x) :: r => if g = f then (g, v) :: r else (g, x) :: putF f v r
theorem lookup_putF (f g : Str) (v : V) : ∀ fs : List (Str × V), (putF f v fs).lookup g = if g = f then some v else fs.lookup g
  | [] => by
    show List.lookup g [(f, v)] = _
    by_cases h : g = f
    · have hb : (g == f) = true := beq_iff_eq.mpr h
      simp only [List.lookup, hb, if_pos h]
    · have hb : (g == f) = false := beq_eq_false_iff_ne.mpr h
      simp only [List.lookup, hb, if_neg h]
  | (k, x) :: r => by
    have ih := lookup_putF f g v r
    rw [show putF f v ((k, x) :: r) = (if k = f then (k, v) :: r else (k, x) :: putF f v r) from rfl]
    by_cases hk : k = f
    · rw [if_pos hk]
      by_cases h : g = k
      · have hb : (g == k) = true := beq_iff_eq.mpr h
        simp only [List.lookup, hb, if_pos (h.trans hk)]
      · have hb : (g == k) = false := beq_eq_false_iff_ne.mpr h
        simp only [List.lookup, hb, if_neg (fun e : g = f => h (e.trans hk.symm))]
    · rw [if_neg hk]
      by_cases h : g = k
      · have hb : (g == k) = true := beq_iff_eq.mpr h
        simp only [List.lookup, hb, if_neg (fun e : g = f => hk (h.symm.trans e))]
      · have hb : (g == k) = false := beq_eq_false_iff_ne.mpr h
        simp only [List.lookup, hb]
        exact ih
theorem keys_putF (f : Str) (v : V) : ∀ fs : List (Str × V), f ∈ (putF f v fs).map (·.1) ∧ ∀ g, g ∈ fs.map (·.1) → g ∈ (putF f v fs).map (·.1)
  | [] => ⟨by simp [putF], fun g h => by simp at h⟩
  | (k, x) :: r => by
    obtain ⟨i1, i2⟩ := keys_putF f v r
    rw [show putF f v ((k, x) :: r) = (if k = f then (k, v) :: r else (k, x) :: putF f v r) from rfl]
    by_cases hk : k = f
    · rw [if_pos hk]
      subst hk
      exact ⟨by simp, fun g h => by simpa using h⟩
    · rw [if_neg hk]
      refine ⟨?_, fun g h => ?_⟩
      · rw [List.map_cons]
        exact List.mem_cons_of_mem _ i1
      · rw [List.map_cons] at h ⊢
        rcases List.mem_cons.mp h with e | e
        · exact List.mem_cons.mpr (.inl e)
        · exact List.mem_cons_of_mem _ (i2 g e)
theorem length_putF (f : Str) (v : V) : ∀ fs : List (Str × V), (putF f v fs).length ≤ fs.length + 1
  | [] => by simp [putF]
  | (k, x) :: r => by
    have ih := length_putF f v r
    rw [show putF f v ((k, x) :: r) = (if k = f then (k, v) :: r else (k, x) :: putF f v r) from rfl]
    by_cases hk : k = f
    · rw [if_pos hk, List.length_cons, List.length_cons]; omega
    · rw [if_neg hk, List.length_cons, List.length_cons]; omega

theorem RelO.some_of {v : V} {o : Option Value} (r : RelO (some v) o) : ∃ u, o = some u ∧ RelV v u := by
  cases o with
  | none => exact (show False from r).elim
  | some u => exact ⟨u, rfl, r⟩
theorem RelO.none_of {o : Option Value} (r : RelO none o) : o = none := by
  cases o with
  | none => rfl
  | some u => exact (show False from r).elim
theorem handed_of {v : V} {u : Value} (r : RelV v u) : PySem.W.handedIn u = true := by
  cases v with
  | non => cases (show u = Value.none from r); rfl
  | bl b => cases (show u = Value.bool b from r); rfl
  | int i => obtain ⟨t, e⟩ := (show ∃ t, u = Value.int i t from r); cases e; rfl
  | str x => obtain ⟨t, e⟩ := (show ∃ t, u = Value.str x t from r); cases e; rfl
  | byt b => obtain ⟨t, e⟩ := (show ∃ t, u = Value.bytes b t from r); cases e; rfl
  | flt b => obtain ⟨t, e⟩ := (show ∃ t, u = Value.float b t from r); cases e; rfl
  | ref a => cases (show u = Value.ref a from r); rfl
  | ty n => cases (show u = Value.type n from r); rfl

section
variable {P : Program} {w : World} {H H' : Hp} {h h' : Heap} {a C dx : Addr} {fs fs' : List (Str × V)}
theorem ins_get (hok : HOk P w H h) (e : H a = some (.ins C dx fs)) : ∃ mA, ObjM h a dx C mA ∧ (∀ f, RelO (fs.lookup f) (mA f)) ∧ PySem.Within mA (fs.map (·.1)) ∧ fs.length ≤ 1000 ∧ H dx = some (.own a) := by
  obtain ⟨d, z, ne, ob, mA, n, r, q⟩ := (show ObjOk P w H h a (.ins C dx fs) from hok a _ e)
  exact ⟨mA, ⟨ob, n, ne⟩, r, q, z, d⟩
end

/-! ### what of the text a class must have -/
structure Cls (K : PySem.W.Frag) (C : Addr) : Prop where
  pg : PySem.W.plainGet K C Str.empty = true
  hd : PySem.W.hasDictIn K C = true
  po : PySem.W.plainOver K C = true
  sa : PySem.W.findIn K (.ref C) "__setattr__" = some (some (.builtin "object.__setattr__"))
theorem Cls.get {K : PySem.W.Frag} {C : Addr} (c : Cls K C) (f : Str) : PySem.W.plainGet K C f = true := c.pg
/-- no class of it has the name -/
def NoAttr (K : PySem.W.Frag) (C : Addr) (f : Str) : Prop := PySem.W.findIn K (.ref C) f = some none
theorem NoAttr.taker {K : PySem.W.Frag} {C : Addr} {f : Str} (n : NoAttr K C f) : PySem.W.takerIn K C f = some none := by
  unfold PySem.W.takerIn
  rw [show PySem.W.findIn K (.ref C) f = some none from n]
  rfl
/-- a constant of the class -/
structure Con (K : PySem.W.Frag) (C : Addr) (f : Str) (v : V) (u : Value) : Prop where
  at_ : PySem.W.findIn K (.ref C) f = some (some u)
  rel : RelV v u
  get : PySem.W.specialIn K u "__get__" = some none
  cp : PySem.W.copiedNames.contains f = false
/-- a method: a plain def of the class or of one above it -/
structure Meth (K : PySem.W.Frag) (C : Addr) (m : Str) (f : Addr) : Prop where
  at_ : PySem.W.findIn K (.ref C) m = some (some (.ref f))
  fn : PySem.W.isFn K (.ref f) = true
  kp : PySem.W.keepIn K (.ref f) = true

section
variable {X : Cx} {pins : List (Addr × Obj)} {σ : St} {H : Hp} {s : Shared} {a C dx : Addr} {fs : List (Str × V)} {f : Str} {v : V} {A : Around} {E : Value → Shared → Prop}

theorem getattr_ok {b : Bool} {Q : Value → Shared → Prop} (I : Inv X pins σ H s) (e : H a = some (.ins C dx fs)) (c : Cls X.K C) (n : NoAttr X.K C f) (l : fs.lookup f = some v)
    (h : ∀ u s', Inv X pins σ H s' → RelV v u → Q u s') : wpAny (model X.prog X.w) A (getAttr (.ref a) f b) Q E s := by
  obtain ⟨mA, O, r, _, _, _⟩ := ins_get I.hok e
  obtain ⟨u, hu, ru⟩ := RelO.some_of (v := v) (o := mA f) (by rw [← l]; exact r f)
  exact get_map I.kIn O (c.get f) c.hd n hu (handed_of ru) (h u _ (I.tok _) ru)


theorem getmeth_ok {m : Str} {g : Addr} {pl : Sem Bool} {Q : Value × List Value → Shared → Prop} (I : Inv X pins σ H s) (e : H a = some (.ins C dx fs)) (c : Cls X.K C) (k : Meth X.K C m g) (l : fs.lookup m = none)
    (h : Q (.ref g, [.ref a]) s) : wpAny (model X.prog X.w) A (getMethod (.ref a) m pl) Q E s := by
  obtain ⟨mA, O, r, _, _, _⟩ := ins_get I.hok e
  have hn : mA m = none := RelO.none_of (by rw [← l]; exact r m)
  exact get_meth I.kIn O (c.get m) k.at_ k.fn hn h

theorem setattr_ok {y : V} {u : Value} {Q : Unit → Shared → Prop} (I : Inv X pins σ H s) (e : H a = some (.ins C dx fs)) (c : Cls X.K C) (n : NoAttr X.K C f) (hl : fs.length < 1000) (ry : RelV y u)
    (h : ∀ s', Inv X pins σ (upd H a (.ins C dx (putF f y fs))) s' → Q () s') : wpAny (model X.prog X.w) A (setAttr (.ref a) f u) Q E s := by
  obtain ⟨mA, O, r, wi, _, ho⟩ := ins_get I.hok e
  have hz : (fs.map (·.1)).length ≤ sizeLine := by rw [List.length_map, sizeLine_eq]; omega
  refine set_map I.kIn O c.sa c.po n.taker c.hd wi hz fun h' O' sb => h _ ?_
  have hd : ∃ o, h'.get? dx = some o := let ⟨o, _, _, e', _⟩ := O'.ns; ⟨o, e'⟩
  refine I.write (x := a) (e := dx) (by rw [e]; exact True.intro) (.inr ho) (fun b q hb z => (sb.2 b hb).trans z) hd ?_
  refine ⟨by rw [upd_ne O.ne]; exact ho, ?_, O.ne, O'.obj, _, O'.ns, fun g => ?_, fun g hg => ?_⟩
  · have := length_putF f y fs; omega
  · show RelO ((putF f y fs).lookup g) (if g = f then some u else mA g)
    rw [lookup_putF]
    by_cases q : g = f
    · rw [if_pos q, if_pos q]; exact ry
    · rw [if_neg q, if_neg q]; exact r g
  · by_cases q : g = f
    · rw [q]; exact (keys_putF f y fs).1
    · refine (keys_putF f y fs).2 g (wi g fun z => hg ?_)
      show (if g = f then some u else mA g) = none
      rw [if_neg q]; exact z

/-- a new instance, tracked, without attributes -/
theorem Inv.made (I : Inv X pins σ H s) : Inv X pins σ (upd (upd H s.heap.objs.size (.own (s.heap.objs.size + 1))) (s.heap.objs.size + 1) (.ins C s.heap.objs.size []))
    { s with heap := (s.heap.push PySem.W.emptyDict).push (PySem.W.instObj C s.heap.objs.size) } := by
  have e1 : (s.heap.push PySem.W.emptyDict).get? s.heap.objs.size = some PySem.W.emptyDict := Heap.get?_push_size s.heap rfl
  have e2 : ((s.heap.push PySem.W.emptyDict).push (PySem.W.instObj C s.heap.objs.size)).get? (s.heap.objs.size + 1) = some (PySem.W.instObj C s.heap.objs.size) := by
    have := Heap.get?_push_size (s.heap.push PySem.W.emptyDict) (o := PySem.W.instObj C s.heap.objs.size) rfl
    rwa [Heap.size_push] at this
  have e3 : (s.heap.push PySem.W.emptyDict).Ns s.heap.objs.size (fun _ => none) := ⟨PySem.W.emptyDict, #[], _, e1, rfl, (fun e he => absurd he (by simp)), fun _ => rfl⟩
  have I1 := I.laid (a := s.heap.objs.size) (o := .own (s.heap.objs.size + 1)) (h' := s.heap.push PySem.W.emptyDict) (t' := s.toks) (fun b u q => Heap.get?_push_of_some _ q) (Nat.le_refl _) ⟨_, e1⟩
  refine I1.laid (a := s.heap.objs.size + 1) (o := .ins C s.heap.objs.size []) (t' := s.toks) (fun b u q => Heap.get?_push_of_some _ q) (Nat.le_of_eq (Heap.size_push _ _)) ?_
  have ne : s.heap.objs.size ≠ s.heap.objs.size + 1 := Nat.ne_of_lt (Nat.lt_succ_self _)
  refine ⟨by rw [upd_ne ne, upd_same], Nat.zero_le _, ne, e2, fun _ => none, (Heap.Ns1.of_empty e3).at fun o q => Heap.get?_push_of_some _ q, fun _ => True.intro, fun y hy => absurd rfl hy⟩

/-- e.f where nothing but the object is asked: through attributeBase (super) and the last hold -/
theorem attr_of {prog : Program} {w : World} {env : Env} {e : Expr} {f : Str} {pos : Pos} {s : Shared} {Q : Value → Shared → Prop} (hb : attributeBase e f env (eval e env) = eval e env)
    (h : wpAny (model prog w) A (eval e env) (fun o s₁ => wpAny (model prog w) A (getAttr o f true) Q E s₁) E s) : wpAny (model prog w) A (eval (.Attribute e f pos) env) Q E s :=
  Attribute_any_ h (by rw [arm_eval_Attribute, hb])
end

/-! ### readings and rules -/
/-- e.f, an attribute of the instance -/
def tFld (K : PySem.W.Frag) (ta : TE) (f : Str) : TE := fun σ H Q => ta σ H fun x H1 => ∃ a C dx fs v, x = .ref a ∧ H1 a = some (.ins C dx fs) ∧ Cls K C ∧ NoAttr K C f ∧ fs.lookup f = some v ∧ Q v H1
/-- e.f = value -/
def sFld (K : PySem.W.Frag) (ta tv : TE) (f : Str) : TS := fun D σ H => tv σ H fun y H1 => ta σ H1 fun x H2 => ∃ a C dx fs, x = .ref a ∧ H2 a = some (.ins C dx fs) ∧ Cls K C ∧ NoAttr K C f ∧ fs.length < 1000 ∧
  D.nx σ (upd H2 a (.ins C dx (putF f y fs)))

section
variable {X : Cx} {o e value : Expr} {f : Str} {pos pos' tpos : Pos} {ta tv : TE}
theorem pe_fld (he : PE X e ta) (hb : attributeBase e f X.env (eval e X.env) = eval e X.env) : PE X (.Attribute e f pos) (tFld X.K ta f) := by
  intro pins s σ H Q I h
  refine attr_of hb (thn (he pins s σ H _ I h) fun u s1 ⟨x, H1, I1, rx, a, C, dx, fs, v, ex, ea, c, n, l, q⟩ => ?_)
  subst ex
  obtain rfl : u = Value.ref a := rx
  exact getattr_ok I1 ea c n l fun u' s2 I2 ru => ⟨v, H1, I2, ru, q⟩
theorem ps_fld (ha : PE X o ta) (hv : PE X value tv) (hs : swapsWith value (some (.Attribute o f pos')) pos.line X.env = pure false) : PS X (.Assign [.Attribute o f pos'] value pos) (sFld X.K ta tv f) := by
  intro pins s σ H D I h
  refine plainObj_wpAny_Assign_Attribute (thn (hv pins s σ H _ I h) fun u s1 ⟨y, H1, I1, ry, q⟩ => thn (ha pins s1 σ H1 _ I1 q) fun ov s2 ⟨x, H2, I2, rx, a, C, dx, fs, ex, ea, c, n, l, q2⟩ => ?_) hs
  subst ex
  obtain rfl : ov = Value.ref a := rx
  exact setattr_ok I2 ea c n l ry fun s3 I3 => ⟨σ, _, I3, q2⟩

end

/-! ### isinstance -/
section
variable {X : Cx} {pins : List (Addr × Obj)} {σ : St} {H : Hp} {s : Shared} {A : Around} {E : Value → Shared → Prop} {Q : Value → Shared → Prop} {c : Value} {b : Bool}
/-- the type of a value, as the fragment's deciders take it; for an instance its class -/
inductive TyOf (K : PySem.W.Frag) (H : Hp) : V → Value → Prop where
  | non : TyOf K H .non (.type "NoneType")
  | bl (x : Bool) : TyOf K H (.bl x) (.type "bool")
  | int (i : Int) : TyOf K H (.int i) (.type "int")
  | str (x : Str) : TyOf K H (.str x) (.type "str")
  | flt (x : UInt64) : TyOf K H (.flt x) (.type "float")
  | lst {a : Addr} {xs : List V} (e : H a = some (.lst xs)) : TyOf K H (.ref a) (.type "list")
  | frz {a : Addr} {o : Obj} {xs : List V} (e : H a = some (.frz o (.lst xs))) : TyOf K H (.ref a) (.type "list")
  | tup {a : Addr} {xs : List V} (e : H a = some (.tup xs)) : TyOf K H (.ref a) (.type "tuple")
  | dK {a : Addr} {kvs : List (Key × V)} (e : H a = some (.dK kvs)) : TyOf K H (.ref a) (.type "dict")
  | dT {a : Addr} {kvs : List (List Key × V)} (e : H a = some (.dT kvs)) : TyOf K H (.ref a) (.type "dict")
  | ins {a C dx : Addr} {fs : List (Str × V)} (e : H a = some (.ins C dx fs)) (cl : Cls K C) (ha : PySem.W.findIn K (.ref C) "__class__" = some (some (.builtin "object.__class__")))
      (hn : PySem.W.specialIn K (.builtin "object.__class__") "__get__" = some (some (.builtin "getset_descriptor.__get__"))) (htk : PySem.W.takesIn K (.builtin "object.__class__") = some true)
      (hm : PySem.W.mroIn K C (.type "object") = some true) : TyOf K H (.ref a) (.ref C)
/-- isinstance(x, c) for one class c, a built-in or an own one: kitOne's answer -/
theorem isinst_ok {x : V} {u t : Value} (I : Inv X pins σ H s) (rx : RelV x u) (ty : TyOf X.K H x t) (e : PySem.W.kitOne X.K t c = some b) (h : ∀ tk, Q (.bool b) { s with toks := tk }) :
    wpAny (model X.prog X.w) A (call (.builtin "isinstance") [u, c]) Q E s := by
  cases ty with
  | non => cases (show u = Value.none from rx); exact PySem.W.kia_one PySem.W.kitx_none I.kIn True.intro e (fun z => nomatch z) h
  | bl y => cases (show u = Value.bool y from rx); exact PySem.W.kia_one PySem.W.kitx_bool I.kIn True.intro e (fun z => nomatch z) h
  | int i => obtain ⟨t, q⟩ := (show ∃ t, u = Value.int i t from rx); cases q; exact PySem.W.kia_one PySem.W.kitx_int I.kIn True.intro e (fun z => nomatch z) h
  | str y => obtain ⟨t, q⟩ := (show ∃ t, u = Value.str y t from rx); cases q; exact PySem.W.kia_one PySem.W.kitx_str I.kIn True.intro e (fun z => nomatch z) h
  | flt y => obtain ⟨t, q⟩ := (show ∃ t, u = Value.float y t from rx); cases q; exact PySem.W.kia_one PySem.W.kitx_float I.kIn True.intro e (fun z => nomatch z) h
  | @lst a xs ea =>
    cases (show u = Value.ref a from rx)
    obtain ⟨_, _, n, _, h1⟩ := (show ObjOk X.prog X.w H s.heap a (.lst xs) from I.hok a _ ea)
    exact PySem.W.kia_one PySem.W.kitx_list I.kIn ⟨_, h1, rfl⟩ e (fun z => nomatch z) h
  | @frz a ob xs ea =>
    cases (show u = Value.ref a from rx)
    obtain ⟨_, _, _, n, _, h1⟩ := (show ObjOk X.prog X.w H s.heap a (.frz ob (.lst xs)) from I.hok a _ ea)
    exact PySem.W.kia_one PySem.W.kitx_list I.kIn ⟨_, h1, rfl⟩ e (fun z => nomatch z) h
  | @tup a xs ea =>
    cases (show u = Value.ref a from rx)
    obtain ⟨_, _, _, p⟩ := (show ObjOk X.prog X.w H s.heap a (.tup xs) from I.hok a _ ea)
    obtain ⟨o, h1, h2, _⟩ := p
    exact PySem.W.kia_one PySem.W.kitx_tuple I.kIn ⟨o, h1, h2⟩ e (fun z => nomatch z) h
  | @dK a kvs ea =>
    cases (show u = Value.ref a from rx)
    obtain ⟨_, _, vs, _, p⟩ := (show ObjOk X.prog X.w H s.heap a (.dK kvs) from I.hok a _ ea)
    obtain ⟨o, es, ep, h1, h2, _⟩ := p
    exact PySem.W.kia_one PySem.W.kitx_dict I.kIn ⟨o, h1, h2.1⟩ e (fun z => nomatch z) h
  | @dT a kvs ea =>
    cases (show u = Value.ref a from rx)
    obtain ⟨_, _, xs, _, o, es, ep, h1, h2, _⟩ := (show ObjOk X.prog X.w H s.heap a (.dT kvs) from I.hok a _ ea)
    exact PySem.W.kia_one PySem.W.kitx_dict I.kIn ⟨o, h1, h2.1⟩ e (fun z => nomatch z) h
  | @ins a C dx fs ea cl ha hn htk hm =>
    cases (show u = Value.ref a from rx)
    obtain ⟨mA, O, _⟩ := ins_get I.hok ea
    obtain ⟨od, J, _⟩ := O.look
    exact PySem.W.kia_one (PySem.W.kitx_own (cl.get _) cl.hd ha hn htk hm) I.kIn J e (fun z => nomatch z) h
end
end L2

namespace L2
open PySem PySem.Spec PyProof.Rows

/-! ### room -/
structure Room (k : Nat) (A : Around) : Prop where
  hd : A.handled = none
  dp : A.depth + 3 * k + 5 < recursionLimit
  un : A.units + 16 * k + 200 < cLine
theorem Room.mono {j k : Nat} {A : Around} (r : Room k A) (h : j ≤ k) : Room j A := ⟨r.hd, by have := r.dp; omega, by have := r.un; omega⟩
theorem Room.deeper {k : Nat} {A : Around} (r : Room (k + 1) A) (env : Env) : Room k (A.deeper env) :=
  ⟨r.hd, by have := r.dp; show A.depth + 1 + 3 * k + 5 < _; omega, by have := r.un; show A.units + 3 + 16 * k + 200 < _; omega⟩
theorem make_depth {A : Around} {C : Addr} {us : List Value} {kw : List (Str × Value)} : (A.under (.builtin "type.__call__" ⟨.ref C :: us, kw⟩)).depth = A.depth + 1 := by
  first | rfl | simp [Around.under, Code.weight, Code.isCreation, Code.isGuard, Code.isCaller, Code.frames, Code.isFrame, guardIds]
theorem make_units {A : Around} {C : Addr} {us : List Value} {kw : List (Str × Value)} : (A.under (.builtin "type.__call__" ⟨.ref C :: us, kw⟩)).units = A.units + 1 := by
  first | rfl | simp [Around.under, Code.cUnits, Code.frames, Code.isFrame]
theorem Room.make {k : Nat} {A : Around} (r : Room (k + 1) A) (C : Addr) (us : List Value) (kw : List (Str × Value)) : Room k (A.under (.builtin "type.__call__" ⟨.ref C :: us, kw⟩)) :=
  ⟨r.hd, by have := r.dp; rw [make_depth]; omega, by have := r.un; rw [make_units]; omega⟩
theorem Room.depth {k : Nat} {A : Around} (r : Room k A) : A.depth < recursionLimit := by have := r.dp; omega
theorem Room.units {k : Nat} {A : Around} (r : Room k A) : A.units + 64 < cLine := by have := r.un; omega

/-! ### argument lists and displays -/
def tNil : TA := fun _ H Q => Q [] H
def tCons (ta : TE) (tr : TA) : TA := fun σ H Q => ta σ H fun x H1 => tr σ H1 fun xs H2 => Q (x :: xs) H2
section
variable {X : Cx} {e : Expr} {es : List Expr} {te : TE} {t : TA} {pos : Pos}
theorem pa_nil : PA X [] tNil := fun _ _ _ _ H Q I h => Calls.spliced_nil ⟨[], H, I, .nil, h⟩
theorem pa_cons (ha : PE X e te) (hr : PA X es t) (hs : starEach (e :: es) X.env = (false, eval e X.env) :: starEach es X.env := by rfl) : PA X (e :: es) (tCons te t) := by
  intro pos pins s σ H Q I h
  rw [hs]
  show wpAny _ _ (spliced ((false, eval e X.env) :: backTo pos (starEach es X.env))) _ _ s
  refine Calls.spliced_cons (thn (ha pins s σ H _ I h) fun u s1 ⟨x, H1, I1, r1, q1⟩ => ?_)
  exact thn (hr pos pins s1 σ H1 _ I1 q1) fun us s2 ⟨xs, H2, I2, r2, q2⟩ => ⟨x :: xs, H2, I2, .cons r1 r2, q2⟩

/-- a tuple, a list of written items -/
def tTup (t : TA) : TE := fun σ H Q => t σ H fun xs H1 => xs.length ≤ sizeLine ∧ ∀ p, H1 p = none → Q (.ref p) (upd H1 p (.tup xs))
def tLst (t : TA) : TE := fun σ H Q => t σ H fun xs H1 => xs.length ≤ sizeLine ∧ ∀ p, H1 p = none → Q (.ref p) (upd H1 p (.lst xs))
theorem pe_tup {x1} (h : PA X es t) : PE X (.Tuple es x1 pos) (tTup t) := by
  intro pins s σ H Q I hq
  refine wpAny_Tuple_spliced (thn (h pos pins s σ H _ I hq) fun us s1 ⟨xs, H1, I1, r, z, q⟩ => ⟨by rw [← r.length]; exact z, ?_⟩)
  have hf : H1 s1.heap.objs.size = none := I1.hok.fresh (Nat.le_refl _)
  refine ⟨.ref s1.heap.objs.size, upd H1 s1.heap.objs.size (.tup xs), I1.laid (t' := s1.toks) (fun b u e => Heap.get?_push_of_some _ e) (Nat.le_refl _) ?_, rfl, q _ hf⟩
  exact ⟨z, us, r, ⟨_, Heap.get?_push_size _ rfl, rfl, rfl, _, rfl⟩⟩
theorem pe_lst (h : PA X es t) : PE X (.List es pos) (tLst t) := by
  intro pins s σ H Q I hq
  refine wpAny_List_spliced (thn (h pos pins s σ H _ I hq) fun us s1 ⟨xs, H1, I1, r, z, q⟩ => ⟨by rw [← r.length]; exact z, ?_⟩)
  have hf : H1 s1.heap.objs.size = none := I1.hok.fresh (Nat.le_refl _)
  refine ⟨.ref s1.heap.objs.size, upd H1 s1.heap.objs.size (.lst xs), I1.laid (t' := s1.toks) (fun b u e => Heap.get?_push_of_some _ e) (Nat.le_refl _) ?_, rfl, q _ hf⟩
  exact ⟨z, us, 0, r, Heap.get?_push_size _ rfl⟩
end

/-! ### what a def promises -/
/-- a def's promise: the bound arguments in the parameters' order, the heap, the wanted end, the wanted exception -/
abbrev Sp := List V → Hp → VK → XK → Prop
/-- how an exception lies behind a call (file 08 gives it): the callers' frames, abstract heap and state ahead of the call, the wish, the exception, the state -/
abbrev CXT := List Env → Hp → Shared → XK → Value → Shared → Prop

/-- the state at a call -/
structure Env0 (P : Program) (w : World) (K : PySem.W.Frag) (mg : Str → Option Value) (base : Heap) (A : Around) (outer : List Env) (s : Shared) (H : Hp) : Prop where
  frames : A.frames = some outer
  mod : Mod K mg base
  bs : ∀ b o, base.get? b = some o → s.heap.get? b = some o ∧ H b = none
  bsz : base.objs.size ≤ s.heap.objs.size
  funs : s.heap.FunFrames base outer
  frf : ∀ b ∈ frs outer, H b = none
  hok : HOk P w H s.heap
  bare : AllBare s.gens
/-- a call's end -/
def CE (outer : List Env) (P : Program) (w : World) (H : Hp) (s : Shared) (Q : VK) (u : Value) (s' : Shared) : Prop :=
  ∃ v H', s'.os = s.os ∧ AllBare s'.gens ∧ Un (frs outer) [] H H' s.heap s'.heap ∧ HOk P w H' s'.heap ∧ RelV v u ∧ Q v H'
def CR (CX : CXT) (outer : List Env) (P : Program) (w : World) (H : Hp) (s : Shared) (Q : VK) (E : XK) (r : Result) (s' : Shared) : Prop :=
  match r with
  | .ok (.ret u) => CE outer P w H s Q u s'
  | .ok _ => False
  | .error e => CX outer H s E e s'
structure FnOk (P : Program) (w : World) (K : PySem.W.Frag) (mg : Str → Option Value) (base : Heap) (CX : CXT) (k : Nat) (f : Addr) (fd : FuncData) (ps : List Str) (sp : Sp) : Prop where
  len : ∀ vs H Q E, sp vs H Q E → vs.length = ps.length
  run : ∀ (A : Around) (outer : List Env) (s : Shared) (H : Hp) (args : Args) (us : List Value) (vs : List V) (Q : VK) (E : XK), Room k A → Env0 P w K mg base A outer s H → BindsTo s fd args (ps.zip us) → Vals vs us → sp vs H Q E →
    codeAny (model P w) A (.call (.ref f) args) (CR CX outer P w H s Q E) s

theorem Env0.make {P : Program} {w : World} {K : PySem.W.Frag} {mg : Str → Option Value} {base : Heap} {A : Around} {outer : List Env} {s : Shared} {H : Hp} (e : Env0 P w K mg base A outer s H) (C : Addr) (us : List Value) (kw : List (Str × Value)) :
    Env0 P w K mg base (A.under (.builtin "type.__call__" ⟨.ref C :: us, kw⟩)) outer s H := ⟨by first | exact e.frames | (simpa [Around.under, Code.envs, Code.isFrame, pushEnvs] using e.frames), e.mod, e.bs, e.bsz, e.funs, e.frf, e.hok, e.bare⟩

section
variable {X : Cx} {pins : List (Addr × Obj)} {σ : St} {H : Hp} {s s' : Shared}
/-- from a body: what a callee wants -/
theorem Inv.env0 (I : Inv X pins σ H s) : Env0 X.prog X.w X.K X.mg X.base X.A X.stack s H :=
  ⟨I.ok.frames, I.ok.mod, I.bs, Nat.le_trans I.ok.bsz I.sz, I.stack, I.stkFree, I.hok, I.bare⟩
/-- behind a call -/
theorem Inv.after {Q : VK} {u : Value} (I : Inv X pins σ H s) (h : CE X.stack X.prog X.w H s Q u s') : EP X pins σ Q u s' := by
  obtain ⟨v, H', os, bare, un, hok, r, q⟩ := h
  obtain ⟨hh, g, d, t, os'⟩ := s'
  obtain rfl : os' = s.os := os
  exact ⟨v, H', I.call (h' := hh) (g' := g) (d' := d) (t' := t) (ch := []) un hok bare (fun b z => absurd z (by simp)), r, q⟩
end

/-! ### calls -/
/-- f(..): the written arguments, then the defaults dvs; E: what is wanted of an exception -/
def tCall (sp : Sp) (dvs : List V) (E : XK) (t : TA) : TE := fun σ H Q => t σ H fun vs H1 => sp (vs ++ dvs) H1 Q E
/-- C(..): a new instance and its dict, then __init__ -/
def tMake (C : Addr) (sp : Sp) (dvs : List V) (E : XK) (t : TA) : TE := fun σ H Q => t σ H fun vs H1 => ∀ x dx, H1 x = none → H1 dx = none → dx ≠ x →
  sp (.ref x :: (vs ++ dvs)) (upd (upd H1 dx (.own x)) x (.ins C dx [])) (fun v H2 => v = .non ∧ Q (.ref x) H2) E

/-- how the parameters are bound: us the positional arguments, kw the keywords' values by name, ds the defaults that fill up -/
def Binds (K : PySem.W.Frag) (fd : FuncData) (ps : List Str) (ds : List Value) : Prop :=
  ∀ (s : Shared) (us : List Value), K.In s.heap → (us ++ ds).length = ps.length → BindsTo s fd ⟨us, []⟩ (ps.zip (us ++ ds))
/-- every parameter is given -/
theorem Binds.all {K : PySem.W.Frag} {fd : FuncData} {ps : List Str} (h : ∀ us : List Value, us.length = ps.length → bindArgs fd ⟨us, []⟩ = pure (ps.zip us)) : Binds K fd ps [] := fun s us _ hl => by
  rw [List.append_nil] at hl ⊢
  exact .of_eq (h us hl)

/-- an exception of a callee reaches what this body wants of exceptions -/
def Passes (CX : CXT) (X : Cx) (E : XK) : Prop := ∀ (pins : List (Addr × Obj)) (σ : St) (H : Hp) (s : Shared) (e : Value) (s' : Shared), Inv X pins σ H s → CX X.stack H s E e s' → X.xe e s'

section
variable {X : Cx} {CX : CXT} {k : Nat} {f C : Addr} {fd : FuncData} {ps : List Str} {sp : Sp} {dvs : List V} {ds : List Value} {E : XK} {x m : Str} {p pos apos : Pos} {e o : Expr} {es : List Expr} {ta : TE} {t : TA}

/-- the callee runs -/
theorem run_fn {pins : List (Addr × Obj)} {σ : St} {H : Hp} {s : Shared} {Q : VK} {us : List Value} {vs : List V} (F : FnOk X.prog X.w X.K X.mg X.base CX k f fd ps sp) (hr : Room k X.A) (hb : Binds X.K fd ps ds) (hd : Vals dvs ds) (hx : Passes CX X E)
    (I : Inv X pins σ H s) (r : Vals vs us) (h : sp (vs ++ dvs) H Q E) : wpAny (model X.prog X.w) X.A (call (.ref f) us) (EP X pins σ Q) X.xe s := by
  have r2 : Vals (vs ++ dvs) (us ++ ds) := r.append hd
  have hl : (us ++ ds).length = ps.length := by rw [← r2.length]; exact F.len _ _ _ _ h
  refine wpAny_call (codeAny_mono (F.run X.A X.stack s H ⟨us, []⟩ (us ++ ds) (vs ++ dvs) Q E hr I.env0 (hb s us I.kIn hl) r2 h) fun r s' hq => ?_)
  cases r with
  | error e => exact hx pins σ H s e s' I hq
  | ok fl =>
    cases fl with
    | ret u => exact I.after hq
    | next => exact False.elim hq
    | brk => exact False.elim hq
    | cont => exact False.elim hq

theorem pe_call (F : FnOk X.prog X.w X.K X.mg X.base CX k f fd ps sp) (hr : Room k X.A) (hg : Gl X x) (hm : X.mg x = some (.ref f)) (hk : PySem.W.keepIn X.K (.ref f) = true) (hb : Binds X.K fd ps ds) (hd : Vals dvs ds) (hx : Passes CX X E)
    (ha : PA X (e :: es) t) (hdb : (x == ("__debug__" : Str)) = false := by decide) (he : starEach (e :: es) X.env = (false, eval e X.env) :: starEach es X.env := by rfl) (hpl : (backTo pos (starEach es X.env)).any (·.1) = false := by rfl) :
    PE X (.Call (.Name x p) (e :: es) [] pos) (tCall sp dvs E t) := by
  intro pins s σ H Q I h
  refine wpAny_Call_Name_kw (ld_glob I hg hm ?_ hdb)
  refine PySem.W.callWith_K (h₀ := X.base) I.ok.mod.kin hk (thn (ha pos pins s σ H _ I h) fun us s1 ⟨vs, H1, I1, r, q⟩ => ⟨I1.kIn, ?_⟩) he hpl
  exact run_fn F hr hb hd hx I1 r q


/-- what a class must have to be made -/
structure Mk (K : PySem.W.Frag) (C f : Addr) : Prop where
  makes : PySem.W.makesIn K C = true
  init : PySem.W.findIn K (.ref C) "__init__" = some (some (.ref f))
  fn : PySem.W.isFn K (.ref f) = true
  kp : PySem.W.keepIn K (.ref C) = true

theorem run_make {pins : List (Addr × Obj)} {σ : St} {H : Hp} {s : Shared} {Q : VK} {us : List Value} {vs : List V} (M : Mk X.K C f) (F : FnOk X.prog X.w X.K X.mg X.base CX k f fd ps sp) (hr : Room (k + 1) X.A) (hb : Binds X.K fd ps ds) (hd : Vals dvs ds)
    (hx : Passes CX X E) (I : Inv X pins σ H s) (r : Vals vs us)
    (h : ∀ x dx, H x = none → H dx = none → dx ≠ x → sp (.ref x :: (vs ++ dvs)) (upd (upd H dx (.own x)) x (.ins C dx [])) (fun v H2 => v = .non ∧ Q (.ref x) H2) E) :
    wpAny (model X.prog X.w) X.A (call (.ref C) us) (EP X pins σ Q) X.xe s := by
  have hq := h (s.heap.objs.size + 1) s.heap.objs.size (I.hok.fresh (Nat.le_succ _)) (I.hok.fresh (Nat.le_refl _)) (Nat.ne_of_lt (Nat.lt_succ_self _))
  have I2 := Inv.made (C := C) I
  have r2 : Vals (V.ref (s.heap.objs.size + 1) :: (vs ++ dvs)) (Value.ref (s.heap.objs.size + 1) :: (us ++ ds)) := .cons rfl (r.append hd)
  have hl : (Value.ref (s.heap.objs.size + 1) :: us ++ ds).length = ps.length := by
    have e := r2.length
    rw [F.len _ _ _ _ hq] at e
    exact e.symm
  refine wpAny_call (make_map (f := f) I.kIn M.makes M.init (beq_iff_eq.mp M.fn) (codeAny_mono (F.run _ X.stack _ _ ⟨Value.ref (s.heap.objs.size + 1) :: us, []⟩ (Value.ref (s.heap.objs.size + 1) :: (us ++ ds)) _ _ E (hr.make C us [])
    (I2.env0.make C us []) (hb _ (Value.ref (s.heap.objs.size + 1) :: us) I2.kIn hl) r2 hq) fun r s' hq' => ?_))
  cases r with
  | error e => exact hx pins σ _ _ e s' I2 hq'
  | ok fl =>
    cases fl with
    | ret u =>
      obtain ⟨v, H', I3, rv, ev, q3⟩ := I2.after hq'
      subst ev
      exact ⟨rv, ⟨V.ref (s.heap.objs.size + 1), H', I3, rfl, q3⟩⟩
    | next => exact False.elim hq'
    | brk => exact False.elim hq'
    | cont => exact False.elim hq'
theorem pe_make (M : Mk X.K C f) (F : FnOk X.prog X.w X.K X.mg X.base CX k f fd ps sp) (hr : Room (k + 1) X.A) (hg : Gl X x) (hm : X.mg x = some (.ref C)) (hb : Binds X.K fd ps ds) (hd : Vals dvs ds) (hx : Passes CX X E)
    (ha : PA X (e :: es) t) (hdb : (x == ("__debug__" : Str)) = false := by decide) (he : starEach (e :: es) X.env = (false, eval e X.env) :: starEach es X.env := by rfl) (hpl : (backTo pos (starEach es X.env)).any (·.1) = false := by rfl) :
    PE X (.Call (.Name x p) (e :: es) [] pos) (tMake C sp dvs E t) := by
  intro pins s σ H Q I h
  refine wpAny_Call_Name_kw (ld_glob I hg hm ?_ hdb)
  refine PySem.W.callWith_K (h₀ := X.base) I.ok.mod.kin M.kp (thn (ha pos pins s σ H _ I h) fun us s1 ⟨vs, H1, I1, r, q⟩ => ⟨I1.kIn, ?_⟩) he hpl
  exact run_make M F hr hb hd hx I1 r q
end

/-! ### keywords -/
/-- the values of the keywords, from the left -/
def PK (X : Cx) (kws : List Keyword) (t : TA) : Prop :=
  ∀ (pos : Pos) (pins : List (Addr × Obj)) (s : Shared) (σ : St) (H : Hp) (Q : List V → Hp → Prop), Inv X pins σ H s → t σ H Q → wpAny (model X.prog X.w) X.A (evalAll ((backToKw pos (keywordEach kws X.env)).map (·.2))) (AP X pins σ Q) X.xe s
section
variable {X : Cx} {CX : CXT} {k : Nat} {f C : Addr} {fd : FuncData} {ps ks : List Str} {sp : Sp} {E : XK} {x m : Str} {p pos apos kpos : Pos} {e o : Expr} {es : List Expr} {kws : List Keyword} {te ta : TE} {t tk : TA} {nm : Option Str}
theorem pk_nil : PK X [] tNil := fun _ _ _ _ H Q I h => wpAny_evalAll_nil ⟨[], H, I, .nil, h⟩
theorem pk_cons (ha : PE X e te) (hr : PK X kws t) : PK X (⟨nm, e, kpos⟩ :: kws) (tCons te t) := by
  intro pos pins s σ H Q I h
  show wpAny _ _ (evalAll ((do let v ← eval e X.env; standAt pos; pure v) :: (backToKw pos (keywordEach kws X.env)).map (·.2))) _ _ s
  refine wpAny_evalAll_cons (wpAny_bind (thn (ha pins s σ H _ I h) fun u s1 ⟨x, H1, I1, r1, q1⟩ => wpAny_bind (wpAny_standAt (wpAny_pure ?_))))
  exact thn (hr pos pins s1 σ H1 _ I1 q1) fun us s2 ⟨xs, H2, I2, r2, q2⟩ => ⟨x :: xs, H2, I2, .cons r1 r2, q2⟩

/-- how a call with keywords binds: g puts the positional values us and the keywords' values ws (names ks) in the parameters' order, defaults among them -/
structure KBinds (K : PySem.W.Frag) (fd : FuncData) (ps ks : List Str) (g : List Value → List Value → List Value) (gV : List V → List V → List V) : Prop where
  to : ∀ (s : Shared) (us ws : List Value), K.In s.heap → (g us ws).length = ps.length → BindsTo s fd ⟨us, ks.zip ws⟩ (ps.zip (g us ws))
  rel : ∀ {vs : List V} {us : List Value} {zs : List V} {ws : List Value}, Vals vs us → Vals zs ws → Vals (gV vs zs) (g us ws)
variable {g : List Value → List Value → List Value} {gV : List V → List V → List V}
end

/-! ### a def's body keeps its promise -/
/-- names: the parameters first -/
structure FnScope (N P : List Str) (sc : Scope) : Prop where
  kind : sc.kind = .function
  co : sc.isCoroutine = false
  gen : sc.isGenerator = false
  nd : N.Nodup
  pre : N.take P.length = P
  par : ∀ x ∈ P, sc.names.lookup x = some .local ∨ sc.names.lookup x = some .cell
  nofree : ∀ y ∈ sc.names, y.2 ≠ .free

theorem bindL_out {kindOf : Str → Option NameKind} {x : Str} : ∀ {binds : List (Str × Value)} {m : Str → Option Value}, (∀ v, (x, v) ∉ binds) → bindL kindOf binds m x = m x
  | [], _, _ => rfl
  | (n, v) :: r, m, h => by
    unfold bindL
    rw [bindL_out fun w hw => h w (List.mem_cons_of_mem _ hw)]
    split
    · have : x ≠ n := by rintro rfl; exact h v List.mem_cons_self
      simp [this]
    · rfl
theorem bindC_out {kindOf : Str → Option NameKind} {x : Str} : ∀ {binds : List (Str × Value)} {m : Str → Option Value}, (∀ v, (x, v) ∉ binds) → bindC kindOf binds m x = m x
  | [], _, _ => rfl
  | (n, v) :: r, m, h => by
    unfold bindC
    rw [bindC_out fun w hw => h w (List.mem_cons_of_mem _ hw)]
    split
    · rfl
    · have : x ≠ n := by rintro rfl; exact h v List.mem_cons_self
      simp [this]
theorem bindL_get {kindOf : Str → Option NameKind} {x : Str} {v : Value} : ∀ {P : List Str} {vs : List Value} {i : Nat} {m : Str → Option Value}, P.Nodup → P[i]? = some x → vs[i]? = some v → kindOf x = some .local →
    bindL kindOf (P.zip vs) m x = some v
  | [], _, _, _, _, h, _, _ => by simp at h
  | _ :: _, [], _, _, _, _, h, _ => by simp at h
  | p :: P, w :: vs, 0, m, nd, h1, h2, hk => by
    simp at h1 h2; subst h1; subst h2
    show bindL kindOf ((p, w) :: P.zip vs) m p = _
    unfold bindL
    rw [bindL_out fun v hv => (List.nodup_cons.mp nd).1 (List.of_mem_zip hv).1, if_pos hk]
    simp
  | p :: P, w :: vs, i + 1, m, nd, h1, h2, hk => by
    show bindL kindOf ((p, w) :: P.zip vs) m x = _
    unfold bindL
    exact bindL_get (i := i) (List.nodup_cons.mp nd).2 (by simpa using h1) (by simpa using h2) hk
theorem bindC_get {kindOf : Str → Option NameKind} {x : Str} {v : Value} : ∀ {P : List Str} {vs : List Value} {i : Nat} {m : Str → Option Value}, P.Nodup → P[i]? = some x → vs[i]? = some v → kindOf x ≠ some .local →
    bindC kindOf (P.zip vs) m x = some v
  | [], _, _, _, _, h, _, _ => by simp at h
  | _ :: _, [], _, _, _, _, h, _ => by simp at h
  | p :: P, w :: vs, 0, m, nd, h1, h2, hk => by
    simp at h1 h2; subst h1; subst h2
    show bindC kindOf ((p, w) :: P.zip vs) m p = _
    unfold bindC
    rw [bindC_out fun v hv => (List.nodup_cons.mp nd).1 (List.of_mem_zip hv).1, if_neg hk]
    simp
  | p :: P, w :: vs, i + 1, m, nd, h1, h2, hk => by
    show bindC kindOf ((p, w) :: P.zip vs) m x = _
    unfold bindC
    exact bindC_get (i := i) (List.nodup_cons.mp nd).2 (by simpa using h1) (by simpa using h2) hk

/-- the names' values at the entry -/
def start (N : List Str) (vs : List V) : St := vs.map some ++ List.replicate (N.length - vs.length) none

/-- the context of a def's body, at its entry; an exception leaves the frame, then lies as CX says -/
def cxOf (CX : CXT) (P : Program) (w : World) (K : PySem.W.Frag) (mg : Str → Option Value) (base : Heap) (N : List Str) (qual : Str) (scope : Scope) (f : Addr) (cd : Value) (A : Around) (outer : List Env) (s : Shared) (H : Hp) (E : XK) : Cx where
  prog := P
  w := w
  K := K
  mg := mg
  base := base
  A := A.deeper (envOfC qual scope s.heap.objs.size f cd)
  N := N
  s₀ := s
  H₀ := H
  env := envOfC qual scope s.heap.objs.size f cd
  outer := outer
  stack := envOfC qual scope s.heap.objs.size f cd :: outer
  ex := []
  calm := true
  fn := fun _ => true
  pn := []
  xe := fun e s' => wpAny (model P w) (A.deeper (envOfC qual scope s.heap.objs.size f cd)) (leaving (envOfC qual scope s.heap.objs.size f cd) e) (fun _ s'' => CX outer H s E e s'') (fun e' s'' => CX outer H s E e' s'') s'

theorem cell_has {sc : Scope} {n : Nat} {x : Str} (h : sc.names.lookup x = some .cell) : ∃ c, (cellsFrom n sc.names []).lookup x = some c := by
  have q := PySem.W.cellsFrom_some sc.names n [] (.inl h)
  exact Option.isSome_iff_exists.mp q

theorem inv_start {CX : CXT} {P : Program} {w : World} {K : PySem.W.Frag} {mg : Str → Option Value} {base : Heap} {N ps : List Str} {qual : Str} {scope : Scope} {f : Addr} {cd : Value} {A : Around} {outer : List Env} {s s1 : Shared} {H : Hp} {E : XK} {us : List Value} {vs : List V}
    (S : FnScope N ps scope) (hd : A.handled = none) (e0 : Env0 P w K mg base A outer s H) (hl : vs.length = ps.length) (r : Vals vs us)
    (x : InCallC s s.heap.objs.size (bindL (envOfC qual scope s.heap.objs.size f cd).kindOf (ps.zip us) fun _ => none) (cellsFrom (s.heap.objs.size + 1) scope.names []) (bindC (envOfC qual scope s.heap.objs.size f cd).kindOf (ps.zip us) fun _ => none) s1) :
    Inv (cxOf CX P w K mg base N qual scope f cd A outer s H E) [] (start N vs) H s1 := by
  have hpl : ps.length ≤ N.length := by have := congrArg List.length S.pre; rw [List.length_take] at this; omega
  obtain ⟨h1, tk, rfl, hk⟩ := x.done
  have noA : ∀ b : Addr, b ∉ (cxOf CX P w K mg base N qual scope f cd A outer s H E).ex := fun b z => absurd (show b ∈ ([] : List Addr) from z) (by simp)
  refine ⟨⟨e0.mod, S.kind, rfl, rfl, Nat.le_refl _, fun y z c h1 h2 => ?_, fun y hy => ?_, fun y c _ h => ?_, fun _ => hd, Around.frames_deeper e0.frames, .inr ⟨rfl, rfl⟩, fun b z => absurd z (noA b), e0.bs, e0.bsz, fun b _ _ => noA b, fun b z => absurd z (noA b), e0.funs, e0.frf⟩,
    rfl, e0.bare, Un.kept hk, ⟨_, x.toInCall.ns, fun i y v h1 h2 h3 => ?_⟩, fun y c h => ⟨_, x.cell y c h⟩, e0.hok.fresh (Nat.le_refl _), fun y c h => ?_, fun p hp => absurd (show p ∈ ([] : List (Addr × Obj)) from hp) (by simp), e0.hok.kept hk, ?_⟩
  · exact name_of_addr x.apart (PySem.mem_of_lookup h1) (PySem.mem_of_lookup h2)
  · have hy : scope.names.lookup y = some .cell ∨ scope.names.lookup y = some .free := hy
    rcases hy with hy | hy
    · exact cell_has hy
    · exact absurd rfl (S.nofree _ (PySem.mem_of_lookup hy))
  · exact Nat.le_of_lt (x.above y c (PySem.mem_of_lookup h))
  · have hi : i < vs.length := by
      unfold start at h2
      by_cases hi : i < vs.length
      · exact hi
      · rw [List.getElem?_append_right (by simpa using hi)] at h2
        rw [List.getElem?_replicate] at h2
        split at h2 <;> cases h2
    have ha : vs[i]? = some v := by
      unfold start at h2
      rw [List.getElem?_append_left (by simpa using hi), List.getElem?_map] at h2
      cases e : vs[i]? with
      | none => rw [e] at h2; cases h2
      | some a => rw [e] at h2; cases h2; rfl
    obtain ⟨u, hu, rv⟩ := r.get ha
    have hp : ps[i]? = some y := by
      rw [← S.pre, List.getElem?_take_of_lt (by omega)]; exact h1
    have ndP : ps.Nodup := by rw [← S.pre]; exact S.nd.sublist (List.take_sublist _ _)
    refine ⟨u, rv, ?_⟩
    rcases S.par y (List.mem_of_getElem? hp) with k | k
    · exact .inl ⟨k, bindL_get ndP hp hu k⟩
    · obtain ⟨c, e⟩ := cell_has (n := s.heap.objs.size + 1) k
      refine .inr ⟨.inl k, c, e, ?_⟩
      have q := x.cell y c e
      rw [bindC_get ndP hp hu (by show scope.names.lookup y ≠ _; rw [k]; decide)] at q
      exact q
  · exact e0.hok.fresh (Nat.le_of_lt (x.above y c (PySem.mem_of_lookup h)))
  · unfold start
    show _ = N.length
    rw [List.length_append, List.length_map, List.length_replicate]
    omega

/-- THE RULE: a def (or a method) of the text, by its body. The body's reading t is chosen for each entry; it is run at the parameters' values -/
theorem fn_of {CX : CXT} {P : Program} {w : World} {K : PySem.W.Frag} {mg : Str → Option Value} {base : Heap} {k : Nat} {f : Addr} {name qual : Str} {params : Arguments} {body : List Stmt} {scope : Scope} {dV kV doc pm cdv ct oc : Value} {an od : Option Addr}
    {osl : Array (Option Value)} {N ps : List Str} {sp : Sp} (lk : K.lookup f = some ⟨oc, od, .func (PySem.W.fnOf name qual params body scope dV kV doc pm an cdv ct), osl⟩) (hcd : PySem.W.codeIn K cdv qual = true) (S : FnScope N ps scope)
    (len : ∀ vs H Q E, sp vs H Q E → vs.length = ps.length)
    (hbody : ∀ (A : Around) (outer : List Env) (s : Shared) (H : Hp) (vs : List V) (Q : VK) (E : XK), Room k (A.deeper (envOfC qual scope s.heap.objs.size f cdv)) → sp vs H Q E →
      ∃ t, PSs (cxOf CX P w K mg base N qual scope f cdv A outer s H E) body t ∧ t { nx := fun _ H' => Q .non H', rt := Q } (start N vs) H) :
    FnOk P w K mg base CX (k + 1) f (PySem.W.fnOf name qual params body scope dV kV doc pm an cdv ct) ps sp := by
  refine ⟨len, fun A outer s H args us vs Q E hr e0 hb r hsp => ?_⟩
  have hl := len _ _ _ _ hsp
  have KX : K.In s.heap := e0.mod.kin.keeps fun b o e => (e0.bs b o e).1
  have lim : s.heap.NoLimit := e0.mod.nolimit.keeps fun b o e => (e0.bs b o e).1
  have hkind : ∀ y ∈ ps.zip us, scope.names.lookup y.1 = some .local ∨ (scope.names.lookup y.1 = some .cell ∧ ((cellsFrom (s.heap.objs.size + 1) scope.names []).lookup y.1).isSome = true) := fun ⟨n, v⟩ hy => by
    rcases S.par n (List.of_mem_zip hy).1 with q | q
    · exact .inl q
    · exact .inr ⟨q, PySem.W.cellsFrom_some _ _ _ (.inl q)⟩
  refine codeAny_call_function hr.depth (KX _ _ lk) rfl S.co S.gen rfl (PySem.W.codeRec_of KX hcd) (hb _ _ _ _ ?_)
  refine wpAny_newFunctionEnv_cells S.kind hkind fun env he s1 x => ?_
  subst he
  refine ⟨lim.keeps x.toInCall.keep, codeAny_func ?_⟩
  obtain ⟨t, ht, hq⟩ := hbody A outer s H vs Q E (hr.deeper _) hsp
  have I : Inv (cxOf CX P w K mg base N qual scope f cdv A outer s H E) [] (start N vs) H s1 := inv_start S hr.hd e0 hl r x
  refine wpAny_mono (ht [] s1 (start N vs) H _ I hq) (fun fl s' hs => ?_) fun e s' hs => hs
  have fin : ∀ {σ' : St} {H' : Hp} {v : V} {u : Value}, Inv (cxOf CX P w K mg base N qual scope f cdv A outer s H E) [] σ' H' s' → RelV v u → Q v H' → CE outer P w H s Q u s' :=
    fun {σ' H' v u} J rv q => ⟨v, H', J.os, J.bare, J.base, J.hok, rv, q⟩
  cases fl with
  | ret u =>
    obtain ⟨v, σ', H', J, rv, q⟩ := hs
    exact fin J rv q
  | next =>
    obtain ⟨σ', H', J, q⟩ := hs
    exact fin (v := V.non) (u := Value.none) J rfl q
  | brk =>
    obtain ⟨_, _, _, q⟩ := hs
    exact False.elim q
  | cont =>
    obtain ⟨_, _, _, q⟩ := hs
    exact False.elim q
end L2

namespace L2
open PySem PySem.Spec PyProof.Rows
section
variable {X : Cx} {x : Str} {p pos : Pos} {e : Expr} {es : List Expr} {t : TA} {id T : String} {r : List V → Hp → VK → Prop}

def tCB (r : List V → Hp → VK → Prop) (t : TA) : TE := fun σ H Q => t σ H fun vs H1 => r vs H1 Q
/-- f(e, ..), f a built-in function -/
theorem pe_callB (hc : CallR X (.builtin id) r) (hg : Gl X x) (hm : X.mg x = none) (hv : bootBuiltins x = some (.builtin id)) (ha : PA X (e :: es) t) (hn : x ≠ "__name__" := by decide) (hdb : (x == ("__debug__" : Str)) = false := by decide)
    (he : starEach (e :: es) X.env = (false, eval e X.env) :: starEach es X.env := by rfl) (hpl : (backTo pos (starEach es X.env)).any (·.1) = false := by rfl) : PE X (.Call (.Name x p) (e :: es) [] pos) (tCB r t) := by
  intro pins s σ H Q I h
  refine wpAny_Call_Name_kw (ld_blt I hg hm hv ?_ hn hdb)
  exact PyProof.Rows.callWith_builtin1 (thn (ha pos pins s σ H _ I h) fun us s1 ⟨vs, H1, I1, r1, q1⟩ => hc pins s1 σ H1 vs us Q I1 r1 q1) he hpl
/-- T(e, ..), T a built-in type -/
theorem pe_callTy (hc : CallR X (.type T) r) (hg : Gl X x) (hm : X.mg x = none) (hv : bootBuiltins x = some (.type T)) (ha : PA X (e :: es) t) (hn : x ≠ "__name__" := by decide) (hdb : (x == ("__debug__" : Str)) = false := by decide)
    (he : starEach (e :: es) X.env = (false, eval e X.env) :: starEach es X.env := by rfl) (hpl : (backTo pos (starEach es X.env)).any (·.1) = false := by rfl) : PE X (.Call (.Name x p) (e :: es) [] pos) (tCB r t) := by
  intro pins s σ H Q I h
  refine wpAny_Call_Name_kw (ld_blt I hg hm hv ?_ hn hdb)
  exact PyProof.Rows.callWith_type1 (thn (ha pos pins s σ H _ I h) fun us s1 ⟨vs, H1, I1, r1, q1⟩ => hc pins s1 σ H1 vs us Q I1 r1 q1) he hpl
end
end L2

namespace HT
open PySem PyProof.Rows



section
open PySem.SeqAt
open PySem.AutoSeq1 (wpAny_loadPart')
open PySem.MeetsSeq PySem.MeetsSeq2 PySem.MeetsSeq3

end

section
variable {prog : Program} {w : World} {A : Around} {E : Value → Shared → Prop} {s : Shared}



/-! ### t[a:b], not the whole -/
/-- a slice's bound as a place among n (d where it is left out) -/
def sIx (n d : Nat) : Option Int → Nat
  | none => d
  | some v => if v < 0 then (v + (n : Int)).toNat else min v.toNat n
theorem sIx_none (n d : Nat) : sIx n d none = d := rfl
theorem sIx_nat (n d k : Nat) : sIx n d (some (k : Int)) = min k n := by
  show (if (k : Int) < 0 then ((k : Int) + (n : Int)).toNat else min (k : Int).toNat n) = min k n
  rw [if_neg (by omega), Int.toNat_natCast]

end
end HT

namespace L2
open PySem PySem.Spec PyProof.Rows

/-! ### the parts of a slice -/
abbrev TO := St → Hp → (Option Int → Hp → Prop) → Prop
/-- a slice's part (left out, or an int) -/
def PO (X : Cx) (e : Option Expr) (t : TO) : Prop :=
  ∀ (pins : List (Addr × Obj)) (s : Shared) (σ : St) (H : Hp) (Q : Option Int → Hp → Prop), Inv X pins σ H s → t σ H Q →
    wpAny (model X.prog X.w) X.A (evalPart e X.env) (fun u s' => ∃ o H', Inv X pins σ H' s' ∧ IsPart u o ∧ Q o H') X.xe s
def tNoPart : TO := fun _ H Q => Q none H
def tPart (t : TE) : TO := fun σ H Q => t σ H fun x H1 => ∃ i, x = .int i ∧ Q (some i) H1

theorem intsAre_of {ns : List Int} : ∀ {us : List Value}, Vals (ns.map V.int) us → IntsAre us ns := by
  induction ns with
  | nil => intro us r; rw [List.map_nil] at r; cases r; exact .nil
  | cons n ns ih =>
    intro us r
    rw [List.map_cons] at r
    cases r with
    | cons r1 r2 =>
      obtain ⟨t, e⟩ := r1
      subst e
      exact .cons n t (ih r2)

section
variable {X : Cx} {e : Expr} {te : TE} {lo hi : Option Expr} {tl th : TO} {pos p2 : Pos}

theorem po_none : PO X none tNoPart := by
  intro pins s σ H Q I h
  rw [evalPart_none]
  exact wpAny_pure ⟨none, H, I, .none, h⟩
theorem po_some (h : PE X e te) : PO X (some e) (tPart te) := by
  intro pins s σ H Q I hw
  rw [evalPart_some]
  refine thn (h pins s σ H _ I hw) fun u s1 ⟨x, H1, I1, r1, q1⟩ => ?_
  obtain ⟨i, rfl, q⟩ := q1
  obtain ⟨t, rfl⟩ := r1
  exact ⟨some i, H1, I1, .int i t, q⟩

/-- what a slice of a value is, by values: the slice object stands at sl -/
def SlR (X : Cx) (r : V → Option Int → Option Int → Hp → VK → Prop) : Prop :=
  ∀ (pins : List (Addr × Obj)) (s : Shared) (σ : St) (H : Hp) (x : V) (v vl vu : Value) (lo hi : Option Int) (sl : Addr) (Q : VK), Inv X pins σ H s → RelV x v → s.heap.IsSliceOf sl vl vu .none → IsPart vl lo → IsPart vu hi → r x lo hi H Q →
    ∃ T id, typeLookup (.type T) "__getitem__" = pure (some (.builtin id)) ∧ s.TypeIs v T ∧ wpAny (model X.prog X.w) X.A (getItem v (.ref sl)) (EP X pins σ Q) X.xe s
def tSl (r : V → Option Int → Option Int → Hp → VK → Prop) (te : TE) (tl th : TO) : TE := fun σ H Q => te σ H fun x H1 => tl σ H1 fun l H2 => th σ H2 fun u H3 => r x l u H3 Q
/-- a[lo:hi], any a -/
theorem pe_slice {r : V → Option Int → Option Int → Hp → VK → Prop} (hr : SlR X r) (he : PE X e te) (hl : PO X lo tl) (hu : PO X hi th) : PE X (.Subscript e (.Slice lo hi none p2) pos) (tSl r te tl th) := by
  intro pins s σ H Q I h
  refine Subscript_ (thn (he pins s σ H _ I h) fun v s1 ⟨x, H1, I1, r1, q1⟩ => ?_)
  refine wpAny_Slice (thn (hl pins s1 σ H1 _ I1 q1) fun vl s2 ⟨l, H2, I2, pl, q2⟩ => thn (hu pins s2 σ H2 _ I2 q2) fun vu s3 ⟨u, H3, I3, pu, q3⟩ => ?_)
  rw [evalPart_none]
  refine wpAny_pure ?_
  have I4 : Inv X pins σ H3 { s3 with heap := s3.heap.push { cls := .type "slice", data := .fields #[vl, vu, .none] } } := I3.kept (t' := s3.toks) fun b ob q => Heap.get?_push_of_some _ q
  obtain ⟨T, id, hT, ht, hg⟩ := hr pins { s3 with heap := s3.heap.push { cls := .type "slice", data := .fields #[vl, vu, .none] } } σ H3 x v vl vu l u s3.heap.objs.size Q I4 r1 (Heap.IsSliceOf.new ..) pl pu q3
  show wpAny (model X.prog X.w) X.A (subscriptTail e (.Slice lo hi none p2) v (.ref s3.heap.objs.size)) (EP X pins σ Q) X.xe { s3 with heap := s3.heap.push { cls := .type "slice", data := .fields #[vl, vu, .none] } }
  exact tail_any (ops := [.ref s3.heap.objs.size, v]) ht hT hg (by with_unfolding_all rfl)

/-- the items of xs[lo:hi] -/
def cutV (xs : List V) (lo hi : Option Int) : List V := (xs.drop (HT.sIx xs.length 0 lo)).take (HT.sIx xs.length xs.length hi - HT.sIx xs.length 0 lo)
theorem cutV_length (xs : List V) (lo hi : Option Int) : (cutV xs lo hi).length ≤ xs.length := by
  unfold cutV
  rw [List.length_take, List.length_drop]
  omega

/-! ### t < u, t + u -/
end
end L2

namespace L2
open PySem PySem.Spec PyProof.Rows

/-! ### places -/
/-- the place that an index of any sign means -/
def ixN (n : Nat) (i : Int) : Option Nat := if 0 ≤ i then (if i < n then some i.toNat else none) else if -(n : Int) ≤ i then some (i + n).toNat else none
def atI {α : Type} (xs : List α) (i : Int) : Option α := (ixN xs.length i).bind fun j => xs[j]?
theorem ixN_seq {n : Nat} {i : Int} {j : Nat} (h : ixN n i = some j) : seqIndex? i n = some j ∧ j < n ∧ -(n : Int) ≤ i ∧ i < n := by
  unfold ixN at h
  by_cases h0 : 0 ≤ i
  · rw [if_pos h0] at h
    by_cases h1 : i < n
    · rw [if_pos h1] at h
      have e : i.toNat = j := Option.some.inj h
      exact ⟨by rw [seqIndex_of h0 h1, e], by omega, by omega, h1⟩
    · rw [if_neg h1] at h; cases h
  · rw [if_neg h0] at h
    by_cases h1 : -(n : Int) ≤ i
    · rw [if_pos h1] at h
      have e : (i + n).toNat = j := Option.some.inj h
      exact ⟨by rw [seqIndex_neg (by omega) h1, e], by omega, h1, by omega⟩
    · rw [if_neg h1] at h; cases h
theorem atI_get {α : Type} {xs : List α} {i : Int} {v : α} (h : atI xs i = some v) : ∃ j, seqIndex? i xs.length = some j ∧ xs[j]? = some v ∧ j < xs.length ∧ -(xs.length : Int) ≤ i ∧ i < xs.length := by
  unfold atI at h
  cases e : ixN xs.length i with
  | none => rw [e] at h; cases h
  | some j =>
    rw [e] at h
    obtain ⟨h1, h2, h3, h4⟩ := ixN_seq e
    exact ⟨j, h1, h, h2, h3, h4⟩
theorem atI_nat {α : Type} {xs : List α} {j : Nat} {v : α} (h : xs[j]? = some v) : atI xs (j : Int) = some v := by
  have hj : j < xs.length := (List.getElem?_eq_some_iff.mp h).1
  have e : ixN xs.length (j : Int) = some j := by
    unfold ixN
    rw [if_pos (by omega), if_pos (by omega)]; simp
  unfold atI; rw [e]; exact h
theorem atI_last {α : Type} (xs : List α) (v : α) : atI (xs ++ [v]) (-1) = some v := by
  have hl : (xs ++ [v]).length = xs.length + 1 := by simp
  have e : ixN (xs ++ [v]).length (-1) = some xs.length := by
    unfold ixN
    rw [hl, if_neg (by decide), if_pos (by omega)]
    congr 1
    omega
  unfold atI
  rw [e]
  show (xs ++ [v])[xs.length]? = some v
  simp

/-! ### what may be subscripted -/
/-- what stands as an index of a plain subscript -/
def PlainIx (b : Expr) : Prop := ∀ o i, subscripted b false o i = operate [o, i] (getItem o i)
/-- a subscript by values -/
def IxR (X : Cx) (r : R2) : Prop :=
  ∀ (value slice : Expr) (pins : List (Addr × Obj)) (s : Shared) (σ : St) (H : Hp) (x y : V) (v u : Value) (Q : VK), Inv X pins σ H s → RelV x v → RelV y u → r x y H Q →
    subscripted slice false v u = operate [v, u] (getItem v u) → wpAny (model X.prog X.w) X.A (subscriptTail value slice v u) (EP X pins σ Q) X.xe s
/-- a call of a builtin's method by values: the receiver, the arguments -/
def MtR (X : Cx) (id : String) (r : V → List V → Hp → VK → Prop) : Prop :=
  ∀ (pins : List (Addr × Obj)) (s : Shared) (σ : St) (H : Hp) (x : V) (xs : List V) (v : Value) (us : List Value) (Q : VK), Inv X pins σ H s → RelV x v → Vals xs us → r x xs H Q →
    wpAny (model X.prog X.w) X.A (call (.builtin id) (v :: us)) (EP X pins σ Q) X.xe s
section
variable {X : Cx} {a b : Expr} {ta tb : TE} {pos : Pos}
/-- a[b] -/
theorem pe_ix {r : R2} (hr : IxR X r) (ha : PE X a ta) (hb : PE X b tb) (hs : PlainIx b) : PE X (.Subscript a b pos) (tOp r ta tb) := by
  intro pins s σ H Q I h
  exact Subscript_ (binT ha hb I h fun v u s2 x y H2 I2 rx ry q => hr a b pins s2 σ H2 x y v u Q I2 rx ry q (hs _ _))

def rIxL (K : PySem.W.Frag) : R2 := fun x y H Q => ∃ p xs i v, x = .ref p ∧ y = .int i ∧ SqL K H p xs ∧ atI xs i = some v ∧ Q v H
def rIxT (K : PySem.W.Frag) : R2 := fun x y H Q => ∃ p xs i v, x = .ref p ∧ y = .int i ∧ SqT K H p xs ∧ atI xs i = some v ∧ Q v H
def rIxS : R2 := fun x y H Q => ∃ z i c, x = .str z ∧ y = .int i ∧ z.length ≤ sizeLine ∧ atI z.cps.toList i = some c ∧ Q (.str ⟨#[c]⟩) H
theorem ix_list : IxR X (rIxL X.K) := by
  intro value slice pins s σ H x y v u Q I rx ry h hs
  obtain ⟨p, xs, i, z, rfl, rfl, hq, he, q⟩ := h
  cases rx
  obtain ⟨t, rfl⟩ := ry
  obtain ⟨its, r, pl, hz⟩ := I.list hq
  obtain ⟨j, h1, h2, h3, h4, h5⟩ := atI_get he
  obtain ⟨w, ew, rw'⟩ := r.get h2
  have hl := r.length
  have hn := line63
  have fin : EP X pins σ Q w s := ⟨z, H, I, rw', q⟩
  by_cases h0 : 0 ≤ i
  · have hj : i.toNat = j := by
      rw [seqIndex_of h0 h5] at h1
      exact Option.some.inj h1
    exact item_listR pl.isList h0 (by omega) (by rw [hj]; simpa using ew) fin hs
  · have hj : (i + (its.toArray.size : Int)).toNat = j := by
      rw [seqIndex_neg (by omega) h4] at h1
      rw [List.size_toArray, ← hl]
      exact Option.some.inj h1
    exact subscriptTail_builtinR (x := w) pl.isList.typeIs slot_list_getitem.lookup
      (wpAny_getItem_list_neg (Q := fun r s' => r = w ∧ EP X pins σ Q r s') pl.isList (by omega) (by rw [List.size_toArray] <;> omega) (by omega) (by rw [hj]; simpa using ew) ⟨rfl, fin⟩) hs
theorem ix_tup : IxR X (rIxT X.K) := by
  intro value slice pins s σ H x y v u Q I rx ry h hs
  obtain ⟨p, xs, i, z, rfl, rfl, hq, he, q⟩ := h
  cases rx
  obtain ⟨t, rfl⟩ := ry
  obtain ⟨its, r, pl, hz⟩ := I.tuple hq
  obtain ⟨j, h1, h2, h3, h4, h5⟩ := atI_get he
  obtain ⟨w, ew, rw'⟩ := r.get h2
  have hl := r.length
  have hn := line63
  have fin : EP X pins σ Q w s := ⟨z, H, I, rw', q⟩
  exact subscriptTail_builtinR (x := w) pl.typeIs slot_tuple_getitem.lookup
    (getItem_tuple (j := j) (Q := fun r s' => r = w ∧ EP X pins σ Q r s') pl (by omega) (by omega) (by rw [List.size_toArray, ← hl]; exact h1) (by simpa using ew) ⟨rfl, fin⟩) hs
theorem ix_str : IxR X rIxS := by
  intro value slice pins s σ H x y v u Q I rx ry h hs
  obtain ⟨z, i, c, rfl, rfl, hz, he, q⟩ := h
  obtain ⟨t, rfl⟩ := rx
  obtain ⟨t', rfl⟩ := ry
  obtain ⟨j, h1, h2, h3, h4, h5⟩ := atI_get he
  have hl : z.cps.toList.length = z.length := by simp [Str.length]
  rw [hl] at h1 h4 h5
  have hn := line63
  exact tail_any (typeIs_str s z t) slot_str_getitem.lookup (getItem_str (c := c) (by
    have e1 : decide (i < -(2 ^ 63 : Int)) = false := decide_eq_false (by omega)
    have e2 : decide (i ≥ 2 ^ 63) = false := decide_eq_false (by omega)
    rw [e1, e2, Bool.or_false]) (by rw [h1]; simpa using h2) ⟨.str ⟨#[c]⟩, H, I.tok _, ⟨_, rfl⟩, q⟩) hs

/-! ### xs[i] = v, any sign -/

/-! ### slices -/
theorem slice_bounds (lo hi : Option Int) (n : Nat) : (sliceBounds lo hi none n).1 = ((HT.sIx n 0 lo : Nat) : Int) ∧ (sliceBounds lo hi none n).2.1 = ((HT.sIx n n hi : Nat) : Int) ∧ (sliceBounds lo hi none n).2.2 = 1 := by
  refine ⟨?_, ?_, rfl⟩
  · cases lo with
    | none => simp [sliceBounds, HT.sIx]
    | some i =>
      simp only [sliceBounds, HT.sIx, Option.getD_none, show (1 : Int) > 0 by decide, if_true]
      by_cases h : i < 0
      · simp only [h, if_true] <;> omega
      · simp only [h, if_false] <;> omega
  · cases hi with
    | none => simp [sliceBounds, HT.sIx]
    | some i =>
      simp only [sliceBounds, HT.sIx, Option.getD_none, show (1 : Int) > 0 by decide, if_true]
      by_cases h : i < 0
      · simp only [h, if_true] <;> omega
      · simp only [h, if_false] <;> omega
theorem slicePick_cut (its : List Value) (lo hi : Option Int) : slicePick its.toArray lo hi none = ((its.drop (HT.sIx its.length 0 lo)).take (HT.sIx its.length its.length hi - HT.sIx its.length 0 lo)).toArray := by
  obtain ⟨h1, h2, h3⟩ := slice_bounds lo hi its.toArray.size
  unfold slicePick
  rw [h1, h2, h3]
  simp only [sliceRange_one, pick_run, List.size_toArray] <;> rfl
/-- xs[lo:hi] of a list: a new list -/
def rSlL (K : PySem.W.Frag) : V → Option Int → Option Int → Hp → VK → Prop := fun x lo hi H Q => ∃ a xs, x = .ref a ∧ SqL K H a xs ∧ ∀ p, H p = none → Q (.ref p) (upd H p (.lst (cutV xs lo hi)))
theorem sl_list : SlR X (rSlL X.K) := by
  intro pins s σ H x v vl vu lo hi sl Q I rx hs pl pu h
  obtain ⟨a, xs, rfl, hx, q⟩ := h
  cases rx
  obtain ⟨its, r, ht, hz⟩ := I.list hx
  have hlen := r.length
  refine ⟨"list", _, slot_list_getitem.lookup, ht.isList.typeIs, ?_⟩
  refine wpAny_getItem_list_slice ht.isList hs pl pu .none (by simp) ?_ (by rw [List.size_toArray] <;> omega)
  rw [slicePick_cut, ← hlen]
  refine ⟨.ref s.heap.objs.size, _, I.laid (t' := s.toks) (o := .lst (cutV xs lo hi)) (fun b ob q => Heap.get?_push_of_some _ q) (Nat.le_refl _) ?_, rfl, q _ (I.hok.fresh (Nat.le_refl _))⟩
  exact ⟨Nat.le_trans (cutV_length xs lo hi) hz, _, 0, (r.drop (HT.sIx xs.length 0 lo)).take (HT.sIx xs.length xs.length hi - HT.sIx xs.length 0 lo), Heap.get?_push_size _ rfl⟩

/-! ### in, not in: flat items -/
def flatV : V → Bool
  | .non => true
  | .bl _ => true
  | .int _ => true
  | .str _ => true
  | _ => false
/-- == of flat values -/
def eqV : V → V → Bool
  | .non, .non => true
  | .bl a, .bl b => a == b
  | .bl a, .int b => (if a then 1 else 0) == b
  | .int a, .bl b => a == (if b then 1 else 0)
  | .int a, .int b => a == b
  | .str a, .str b => a == b
  | _, _ => false
theorem eqAt_V {A : Around} {s : Shared} {y x : V} {u v : Value} (ry : RelV y u) (rx : RelV x v) (fy : flatV y = true) (fx : flatV x = true) : SeqAt.EqAt A s u v (eqV y x) := by
  cases y with
  | non =>
    cases ry
    cases x with
    | non => cases rx; exact SeqAt.EqAt.same _
    | bl b => cases rx; exact SeqAt.EqAt.none_bool b
    | int b => obtain ⟨t, rfl⟩ := rx; exact SeqAt.EqAt.none_int b t
    | str b => obtain ⟨t, rfl⟩ := rx; exact SeqAt.EqAt.none_str b t
    | _ => exact absurd (show false = true from fx) Bool.false_ne_true
  | bl a =>
    cases ry
    cases x with
    | non => cases rx; exact SeqAt.EqAt.bool_none a
    | bl b => cases rx; exact SeqAt.EqAt.bool_bool a b
    | int b => obtain ⟨t, rfl⟩ := rx; exact SeqAt.EqAt.bool_int a b t
    | str b => obtain ⟨t, rfl⟩ := rx; exact SeqAt.EqAt.bool_str a b t
    | _ => exact absurd (show false = true from fx) Bool.false_ne_true
  | int a =>
    obtain ⟨t', rfl⟩ := ry
    cases x with
    | non => cases rx; exact SeqAt.EqAt.int_none a t'
    | bl b => cases rx; exact SeqAt.EqAt.int_bool a t' b
    | int b => obtain ⟨t, rfl⟩ := rx; exact SeqAt.EqAt.int_int a t' b t
    | str b => obtain ⟨t, rfl⟩ := rx; exact SeqAt.EqAt.int_str a t' b t
    | _ => exact absurd (show false = true from fx) Bool.false_ne_true
  | str a =>
    obtain ⟨t', rfl⟩ := ry
    cases x with
    | non => cases rx; exact SeqAt.EqAt.str_none a t'
    | bl b => cases rx; exact SeqAt.EqAt.str_bool a t' b
    | int b => obtain ⟨t, rfl⟩ := rx; exact SeqAt.EqAt.str_int a t' b t
    | str b => obtain ⟨t, rfl⟩ := rx; exact SeqAt.EqAt.str_str a t' b t
    | _ => exact absurd (show false = true from fx) Bool.false_ne_true
  | _ => exact absurd (show false = true from fy) Bool.false_ne_true

/-! ### len, list(x), tuple(x) of any list or tuple that is read -/
theorem call_len_seq : CallR X (.builtin "len") (fun xs H Q => ∃ p ys, xs = [.ref p] ∧ (SqL X.K H p ys ∨ SqT X.K H p ys) ∧ Q (.int ys.length) H) := by
  intro pins s σ H xs us Q I r h
  obtain ⟨p, ys, rfl, hq, q⟩ := h
  obtain ⟨u, rfl, rx⟩ := vals1 r
  cases rx
  have hn := line63
  rcases hq with hq | hq
  · obtain ⟨its, r', pl, hz⟩ := I.list hq
    have hlen := r'.length
    exact Calls.call_len_list pl.isList (by simp only [List.size_toArray] <;> omega) ⟨.int ys.length, H, I.tok _, ⟨s.toks + 1, by rw [List.size_toArray, hlen]⟩, q⟩
  · obtain ⟨its, r', pl, hz⟩ := I.tuple hq
    have hlen := r'.length
    exact len_tuple pl (by simp only [List.size_toArray] <;> omega) ⟨.int ys.length, H, I.tok _, ⟨s.toks + 1, by rw [List.size_toArray, hlen]⟩, q⟩
theorem call_len_str : CallR X (.builtin "len") (fun xs H Q => ∃ z, xs = [.str z] ∧ z.length ≤ sizeLine ∧ Q (.int z.length) H) := by
  intro pins s σ H xs us Q I r h
  obtain ⟨z, rfl, hz, q⟩ := h
  obtain ⟨u, rfl, t, rfl⟩ := vals1 r
  have hn := line63
  exact len_str (by omega) ⟨.int z.length, H, I.tok _, ⟨_, rfl⟩, q⟩
theorem call_list_of : CallR X (.type "list") (fun xs H Q => ∃ p ys, xs = [.ref p] ∧ (SqL X.K H p ys ∨ SqT X.K H p ys) ∧ ∀ l, H l = none → Q (.ref l) (upd H l (.lst ys))) := by
  intro pins s σ H xs us Q I r h
  obtain ⟨p, ys, rfl, hq, q⟩ := h
  obtain ⟨u, rfl, rx⟩ := vals1 r
  cases rx
  have fin : ∀ (its : List Value), Vals ys its → ys.length ≤ sizeLine → ∀ (h' : Heap) (c' : Nat), (∀ b o', s.heap.get? b = some o' → h'.get? b = some o') →
      h'.get? s.heap.objs.size = some { cls := .type "list", dict := none, data := .seq its.toArray c', slots := #[] } → EP X pins σ Q (.ref s.heap.objs.size) { s with heap := h' } := fun its r' hz h' c' kp e =>
    ⟨.ref s.heap.objs.size, _, I.laid (t' := s.toks) kp (Nat.le_refl _) (show ObjOk X.prog X.w _ h' _ (.lst ys) from ⟨hz, its, c', r', e⟩), rfl, q _ (I.hok.fresh (Nat.le_refl _))⟩
  rcases hq with hq | hq
  · obtain ⟨its, r', pl, hz⟩ := I.list hq
    have hlen := r'.length
    obtain ⟨o, ho, hc, n, hd⟩ := pl.isList
    exact call_list_seq p (.inl rfl) ho hc hd (fun h' c' kp e => fin its r' hz h' c' kp e) (by simp only [List.size_toArray] <;> omega)
  · obtain ⟨its, r', pl, hz⟩ := I.tuple hq
    have hlen := r'.length
    obtain ⟨o, ho, hc, n, hd⟩ := pl
    exact call_list_seq p (.inr rfl) ho hc hd (fun h' c' kp e => fin its r' hz h' c' kp e) (by simp only [List.size_toArray] <;> omega)
theorem call_tuple_of : CallR X (.type "tuple") (fun xs H Q => ∃ p ys, xs = [.ref p] ∧ ((SqL X.K H p ys ∧ ∀ l, H l = none → Q (.ref l) (upd H l (.tup ys))) ∨ (SqT X.K H p ys ∧ Q (.ref p) H))) := by
  intro pins s σ H xs us Q I r h
  obtain ⟨p, ys, rfl, h⟩ := h
  obtain ⟨u, rfl, rx⟩ := vals1 r
  cases rx
  rcases h with ⟨hq, q⟩ | ⟨hq, q⟩
  · obtain ⟨its, r', pl, hz⟩ := I.list hq
    have hlen := r'.length
    refine call_tuple_list pl.isList (fun h' kp => ?_) (by simp only [List.size_toArray] <;> omega)
    have I1 : Inv X pins σ H { s with heap := h' } := I.kept (t' := s.toks) kp
    have I2 : Inv X pins σ (upd H h'.objs.size (.tup ys)) { s with heap := h'.push { cls := .type "tuple", data := .seq its.toArray } } :=
      I1.laid (t' := s.toks) (fun b o e => Heap.get?_push_of_some _ e) (Nat.le_refl _) (show ObjOk X.prog X.w _ _ _ (.tup ys) from ⟨hz, its, r', TupN.new _ _⟩)
    exact ⟨.ref h'.objs.size, _, I2, rfl, q _ (I1.hok.fresh (Nat.le_refl _))⟩
  · obtain ⟨its, r', pl, hz⟩ := I.tuple hq
    exact call_tuple_same pl ⟨.ref p, H, I, rfl, q⟩

/-! ### the call of a builtin's method: o.m(..) -/
/-- the value is of that builtin type -/
def tyV (K : PySem.W.Frag) (T : String) (x : V) (H : Hp) : Prop := match x with
  | .str _ => T = "str"
  | .int _ => T = "int"
  | .ref p => (T = "list" ∧ ∃ xs, SqL K H p xs) ∨ (T = "tuple" ∧ ∃ o, K.lookup p = some o ∧ o.cls = .type "tuple" ∧ o.dict = none) ∨
      (T = "dict" ∧ ((∃ kvs, H p = some (.dK kvs)) ∨ ∃ kvs, H p = some (.dT kvs))) ∨ (T = "set" ∧ ∃ S n, H p = some (.set S n))
  | _ => False
theorem tyV_is {pins : List (Addr × Obj)} {σ : St} {H : Hp} {s : Shared} {T : String} {x : V} {v : Value} (I : Inv X pins σ H s) (r : RelV x v) (ty : tyV X.K T x H) :
    s.TypeIs v T ∧ ∀ a, v = .ref a → ∃ ob, s.heap.get? a = some ob ∧ ob.dict = none := by
  cases x with
  | str z =>
    obtain ⟨t, rfl⟩ := r
    cases (show T = "str" from ty)
    exact ⟨typeIs_str s z t, fun _ e => nomatch e⟩
  | int i =>
    obtain ⟨t, rfl⟩ := r
    cases (show T = "int" from ty)
    exact ⟨typeIs_int s i t, fun _ e => nomatch e⟩
  | ref p =>
    cases r
    rcases ty with ⟨rfl, xs, hq⟩ | ⟨rfl, o, hk, hc, hd⟩ | ⟨rfl, hk⟩ | ⟨rfl, S, n, hk⟩
    · obtain ⟨its, _, pl, _⟩ := I.list hq
      refine ⟨pl.isList.typeIs, fun a e => ?_⟩
      cases e
      obtain ⟨o, n, e, c, hd, _⟩ := pl
      exact ⟨o, e, hd⟩
    · refine ⟨⟨o, I.kIn p o hk, hc⟩, fun a e => ?_⟩
      cases e
      exact ⟨o, I.kIn _ o hk, hd⟩
    · have z : ∃ o, s.heap.get? p = some o ∧ o.ExactDict := by
        rcases hk with ⟨kvs, hk⟩ | ⟨kvs, hk⟩
        · obtain ⟨_, _, _, _, o, _, _, e, ex, _⟩ := I.hok p _ hk
          exact ⟨o, e, ex⟩
        · obtain ⟨_, _, _, _, o, _, _, e, ex, _⟩ := I.hok p _ hk
          exact ⟨o, e, ex⟩
      obtain ⟨o, e, ex⟩ := z
      refine ⟨⟨o, e, ex.1⟩, fun a e2 => ?_⟩
      cases e2
      exact ⟨o, e, ex.2.1⟩
    · obtain ⟨o, _, _, _, e, ex, _⟩ := I.hok p _ hk
      refine ⟨⟨o, e, ex.1⟩, fun a e2 => ?_⟩
      cases e2
      exact ⟨o, e, ex.2.1⟩
  | _ => exact False.elim ty
def tBM (K : PySem.W.Frag) (T : String) (r : V → List V → Hp → VK → Prop) (to : TE) (t : TA) : TE := fun σ H Q => to σ H fun x H1 => tyV K T x H1 ∧ t σ H1 fun xs H2 => r x xs H2 Q
variable {o e : Expr} {es : List Expr} {to : TE} {t : TA} {name : Str} {apos cpos : Pos} {T id : String} {r : V → List V → Hp → VK → Prop}
theorem pe_bm (pa : PlainAttrs T) (slot : Slot T name id) (hty : typeOf (.builtin id) = pure (.type "method_descriptor")) (hm : MtR X id r) (ho : PE X o to) (ha : PA X (e :: es) t)
    (hbase : attributeBase o name X.env (eval o X.env) = eval o X.env := by rfl)
    (hfew : ((backTo cpos (starEach (e :: es) X.env)).all (fun x => !x.1) && (backToKw cpos (keywordEach [] X.env)).all (fun x => x.1.isSome)
      && decide ((e :: es).length + ([] : List Keyword).length + (if ([] : List Keyword).isEmpty then 0 else 1) < 30)) = true := by rfl)
    (hline : (apos.endLine == cpos.line) = true := by rfl) (hs : starEach (e :: es) X.env = (false, eval e X.env) :: starEach es X.env := by rfl) (hplain : (backTo cpos (starEach es X.env)).any (·.1) = false := by rfl) :
    PE X (.Call (.Attribute o name apos) (e :: es) [] cpos) (tBM X.K T r to t) := by
  intro pins s σ H Q I h
  refine wpAny_Call_method_late hbase hfew hline rfl (thn (ho pins s σ H _ I h) fun v s1 ⟨x, H1, I1, r1, ty, q1⟩ => ?_)
  obtain ⟨h1, h2⟩ := tyV_is I1 r1 ty
  refine ⟨T, id, pa, slot, hty, h1, h2, ?_⟩
  have hA := ha cpos pins s1 σ H1 _ I1 q1
  rw [hs] at hA ⊢
  refine Calls.callWith_builtin (by show (false || (backTo cpos (starEach es X.env)).any (·.1)) = false; rw [hplain] <;> rfl) (Calls.evalArgs_plain ?_)
  exact thn hA fun us s2 ⟨vs, H2, I2, r2, q2⟩ => hm pins s2 σ H2 x vs v us Q I2 r1 r2 q2
/- xs.append(e), list.index on a module's tuple .. are MtR facts of 06m -/
end
end L2

namespace L2
open PySem PySem.Spec PyProof.Rows

def MtM (X : Cx) (id : String) (r : V → List V → Hp → VK → Prop) : Prop :=
  ∀ (pins : List (Addr × Obj)) (s : Shared) (σ : St) (H : Hp) (x : V) (xs : List V) (v : Value) (us : List Value) (Q : VK), Inv X pins σ H s → RelV x v → Vals xs us → r x xs H Q →
    wpAny (model X.prog X.w) X.A (call (.builtin id) (v :: us)) (EP X pins σ Q) X.xe s

/-! ### lists of values -/
theorem Vals.one : ∀ {x : V} {us : List Value}, Vals [x] us → ∃ u, us = [u] ∧ RelV x u
  | _, _, .cons r .nil => ⟨_, rfl, r⟩

section
variable {X : Cx} {pins : List (Addr × Obj)} {σ : St} {H : Hp} {s : Shared} {l b : Addr} {xs ys zs : List V}

/-! ### the two steps: a tracked list is rewritten, a new list is laid -/
theorem Inv.lset {its its' : List Value} {n : Nat} {f : Array Value → Array Value} {t' : Nat} (I : Inv X pins σ H s) (hH : H l = some (.lst xs))
    (e : s.heap.get? l = some { cls := .type "list", data := .seq its.toArray n }) (hf : f its.toArray = its'.toArray) (hv : Vals ys its') (hz : ys.length ≤ sizeLine) :
    Inv X pins σ (upd H l (.lst ys)) { s with heap := s.heap.update l (Obj.mapSeq f), toks := t' } := by
  have q := PySem.IsL.update e f
  rw [hf] at q
  refine I.write (x := l) (e := l) (by rw [hH]; exact trivial) (.inl rfl) (fun b' u hb hu => (Heap.get?_update_other s.heap (Obj.mapSeq f) (Ne.symm hb)).trans hu) ⟨_, q⟩ ?_
  exact ⟨hz, its', _, hv, q⟩
theorem Inv.lnew {its : List Value} {t' : Nat} (I : Inv X pins σ H s) (hv : Vals ys its) (hz : ys.length ≤ sizeLine) :
    Inv X pins σ (upd H s.heap.objs.size (.lst ys)) { s with heap := s.heap.push { cls := .type "list", data := .seq its.toArray }, toks := t' } :=
  I.laid (fun _ _ q => Heap.get?_push_of_some _ q) (Nat.le_refl _) ⟨hz, its, 0, hv, Heap.get?_push_size _ rfl⟩
theorem Inv.fresh (I : Inv X pins σ H s) : H s.heap.objs.size = none := I.hok.fresh (Nat.le_refl _)
theorem Inv.lstM (I : Inv X pins σ H s) (hH : H l = some (.lst xs)) : xs.length ≤ sizeLine ∧ ∃ (its : List Value) (n : Nat), Vals xs its ∧ xs.length = its.length ∧ s.heap.get? l = some { cls := .type "list", data := .seq its.toArray n } := by
  obtain ⟨z, its, n, r, e⟩ := I.hok l _ hH
  exact ⟨z, its, n, r, r.length, e⟩

theorem notLongL {n : Nat} (h : n ≤ sizeLine) : Builtin.List.listTooLong n = false := by
  unfold Builtin.List.listTooLong
  exact decide_eq_false (by omega)
end

section
variable {X : Cx}

/-! ### methods -/
def rAppend : V → List V → Hp → VK → Prop := fun x vs H Q => ∃ l xs y, x = .ref l ∧ vs = [y] ∧ H l = some (.lst xs) ∧ xs.length < sizeLine ∧ Q .non (upd H l (.lst (xs ++ [y])))
theorem mt_append : MtM X "list.append" rAppend := by
  intro pins s σ H x vs v us Q I rx rv h
  obtain ⟨l, xs, y, rfl, rfl, hH, hz, q⟩ := h
  cases rx
  obtain ⟨u, rfl, ru⟩ := rv.one
  obtain ⟨z, its, n, r, hl, e⟩ := I.lstM hH
  refine call_meets F.slot_list_append ⟨_, e, rfl⟩ F.entry_list_append (F.args_list_append_2 _ _) (PySem.list_append l its.toArray n u (by rw [List.size_toArray]; omega)) ⟨e, ?_⟩
  refine ⟨.non, _, I.lset (its' := its ++ [u]) hH e (by simp) (r.append (.cons ru .nil)) ?_, rfl, q⟩
  rw [List.length_append, List.length_singleton]
  omega






/-! ### list + list, list += list, list * int -/
def rCat : R2 := fun x y H Q => ∃ l b xs zs, x = .ref l ∧ y = .ref b ∧ H l = some (.lst xs) ∧ H b = some (.lst zs) ∧ xs.length + zs.length ≤ sizeLine ∧ ∀ p, H p = none → Q (.ref p) (upd H p (.lst (xs ++ zs)))
theorem op_cat : OpR X (binaryOp .Add) rCat := by
  intro pins s σ H x y v u Q I rx ry h
  obtain ⟨l, b, xs, zs, rfl, rfl, hH, hB, hz, q⟩ := h
  cases rx
  cases ry
  obtain ⟨z, its, n, r, hl, e⟩ := I.lstM hH
  obtain ⟨z2, its2, n2, r2, hl2, e2⟩ := I.lstM hB
  refine PySem.P.add_list e e2 ?_ (by rw [List.size_toArray, List.size_toArray]; omega)
  have ea : its.toArray ++ its2.toArray = (its ++ its2).toArray := by simp
  rw [ea]
  exact ⟨.ref _, _, I.lnew (t' := s.toks) (r.append r2) (by rw [List.length_append]; omega), rfl, q _ I.fresh⟩

/-! ### del xs[i] -/
end

/-! ### xs[a:b] = ys -/
section
variable {prog : Program} {w : World} {A : Around} {E : Value → Shared → Prop} {s : Shared}
set_option maxRecDepth 100000 in
end

section
variable {X : Cx}
end
end L2

namespace L2
open PySem PySem.Spec PyProof.Rows

/-! ### lists of pairs as tables -/
section
variable {κ : Type} [DecidableEq κ]
def valV (kvs : List (κ × V)) (k : κ) : Option V := (kvs.find? fun kv => decide (kv.1 = k)).map (·.2)

theorem valV_pos {p : κ × V} {r : List (κ × V)} {k : κ} (e : p.1 = k) : valV (p :: r) k = some p.2 := by simp [valV, List.find?_cons, e]
theorem valV_neg {p : κ × V} {r : List (κ × V)} {k : κ} (e : ¬ p.1 = k) : valV (p :: r) k = valV r k := by simp [valV, List.find?_cons, e]


/-- raw tables of the same keys -/
theorem KV.val {kvs : List (κ × V)} {vs : List (κ × Value)} (r : KV kvs vs) (k : κ) : RelO (valV kvs k) (valueAt vs k) := by
  unfold KV at r
  induction r with
  | nil => exact True.intro
  | @cons p q ps qs h t ih =>
    obtain ⟨h1, h2⟩ := h
    by_cases e : p.1 = k
    · have e' : q.1 = k := h1.symm.trans e
      have b : valueAt (q :: qs) k = some q.2 := by simp [valueAt, List.find?_cons, e']
      rw [valV_pos e, b]; exact h2
    · have e' : ¬ q.1 = k := fun z => e (h1.trans z)
      have b : valueAt (q :: qs) k = valueAt qs k := by simp [valueAt, List.find?_cons, e']
      rw [valV_neg e, b]; exact ih
theorem KV.length {kvs : List (κ × V)} {vs : List (κ × Value)} (r : KV kvs vs) : kvs.length = vs.length := Paired.length r
end


/-! ### a tracked dict, its keys ints and texts or tuples of these -/
theorem kV_is {P : Program} {w : World} {k : Key} {u : Value} (r : RelV (kV k) u) : (mixKind P w).is k u = true := by
  cases k with
  | inl i => obtain ⟨t, e⟩ := (show ∃ t, u = Value.int i t from r); subst e; exact mixKind_int P w i t
  | inr x => obtain ⟨t, e⟩ := (show ∃ t, u = Value.str x t from r); subst e; exact mixKind_str P w x t
theorem items_are {P : Program} {w : World} : ∀ {ks : List Key} {us : List Value}, Vals (ks.map kV) us → ItemsAre (mixKind P w) ks us
  | [], _, r => by rw [List.map_nil] at r; cases r; exact .nil
  | k :: ks, _, r => by
    rw [List.map_cons] at r
    cases r with
    | cons h t => exact .cons (kV_is h) (items_are t)

/-- raw entries of a dict with tuple keys -/
abbrev KT (H : Hp) : List (List Key × V) → List (List Key × Addr × Value) → Prop := Paired fun p q => p.1 = q.1 ∧ H q.2.1 = some (.tup (p.1.map kV)) ∧ RelV p.2 q.2.2
theorem KT.val {H : Hp} {kvs : List (List Key × V)} {xs : List (List Key × Addr × Value)} (r : KT H kvs xs) (k : List Key) : RelO (valV kvs k) ((atKey xs k).map (·.2)) := by
  induction r with
  | nil => exact True.intro
  | @cons p q ps qs h t ih =>
    obtain ⟨h1, _, h2⟩ := h
    by_cases e : p.1 = k
    · have e' : q.1 = k := h1.symm.trans e
      have b : atKey (q :: qs) k = some q.2 := by simp [atKey, List.find?_cons, e']
      rw [valV_pos e, b]; exact h2
    · have e' : ¬ q.1 = k := fun z => e (h1.trans z)
      have b : atKey (q :: qs) k = atKey qs k := by simp [atKey, List.find?_cons, e']
      rw [valV_neg e, b]; exact ih

section
variable {P : Program} {w : World} {H : Hp} {h : Heap} {a : Addr}
theorem rd_of {u : HO} (ok : HOk P w H h) (e : Rd H a u) : ObjOk P w H h a u := e.ok ok
theorem dk_rd {kvs : List (Key × V)} (ok : HOk P w H h) (e : Rd H a (.dK kvs)) : kvs.length ≤ sizeLine ∧ (a == sysModules) = false ∧ ∃ vs, KV kvs vs ∧ h.DictOf (mixKind P w) a vs :=
  show ObjOk P w H h a (.dK kvs) from rd_of ok e
theorem dk_of {kvs : List (Key × V)} (ok : HOk P w H h) (e : H a = some (.dK kvs)) : kvs.length ≤ sizeLine ∧ (a == sysModules) = false ∧ ∃ vs, KV kvs vs ∧ h.DictOf (mixKind P w) a vs := dk_rd ok (.inl e)
/-- a tracked tuple of ints and texts is a key -/
theorem key_of {ks : List Key} (ok : HOk P w H h) (e : H a = some (.tup (ks.map kV))) : (tupleKind (mixKind P w)).is h ks a := by
  obtain ⟨_, its, r, o, h1, h2, _, n, h3⟩ := (show ObjOk P w H h a (.tup (ks.map kV)) from ok a _ e)
  exact ⟨o, its.toArray, n, h1, h2, h3, by simpa using items_are r⟩
theorem dt_rd {kvs : List (List Key × V)} (ok : HOk P w H h) (e : Rd H a (.dT kvs)) : kvs.length ≤ sizeLine ∧ (a == sysModules) = false ∧
    ∃ xs, KT H kvs xs ∧ h.DictOfH (tupleKind (mixKind P w)) a xs := by
  obtain ⟨z, y, xs, r, o, es, ep, h1, h2, h3, h4, h5⟩ := (show ObjOk P w H h a (.dT kvs) from rd_of ok e)
  refine ⟨z, y, xs, r, o, es, ep, h1, h2, h3, h4, fun x hx => ?_, h5⟩
  have all : ∀ {l : List (List Key × V)} {m : List (List Key × Addr × Value)}, KT H l m → ∀ x ∈ m, (tupleKind (mixKind P w)).is h x.1 x.2.1 := by
    intro l m q
    induction q with
    | nil => intro x hx; exact nomatch hx
    | @cons p q ps qs hq t ih =>
      intro x hx
      rcases List.mem_cons.mp hx with e | hx
      · subst e
        exact key_of ok (by rw [← hq.1]; exact hq.2.1)
      · exact ih x hx
  exact all r x hx
end

/-- what the dict at a holds at the key y -/
def DGet (H : Hp) (a : Addr) (y : V) (r : Option V) : Prop :=
  (∃ kvs k, Rd H a (.dK kvs) ∧ y = kV k ∧ r = valV kvs k) ∨ ∃ kvs k b, Rd H a (.dT kvs) ∧ y = .ref b ∧ H b = some (.tup (k.map kV)) ∧ r = valV kvs k
theorem DGet.k {H : Hp} {a : Addr} {kvs : List (Key × V)} {k : Key} (e : H a = some (.dK kvs)) : DGet H a (kV k) (valV kvs k) := .inl ⟨kvs, k, .inl e, rfl, rfl⟩


section
variable {X : Cx} {pins : List (Addr × Obj)} {σ : St} {H : Hp} {s : Shared} {a : Addr} {y v : V} {u r : Value} {o : Option V} {A : Around} {E : Value → Shared → Prop}

theorem Inv.big (I : Inv X pins σ H s) : sysModules < s.heap.objs.size := by
  have h : mainGlobals < s.heap.objs.size := (I.mod.glob.keeps I.bk).lt
  exact Nat.lt_trans (by decide) h

/-- d[y], there -/
theorem d_getItem {Q : Value → Shared → Prop} (hu : A.units + 1 < cLine) (I : Inv X pins σ H s) (g : DGet H a y (some v)) (ry : RelV y u) (h : ∀ w' s', Inv X pins σ H s' → RelV v w' → Q w' s') :
    wpAny (model X.prog X.w) A (getItem (.ref a) u) Q E s := by
  rcases g with ⟨kvs, k, e, ey, l⟩ | ⟨kvs, k, b, e, ey, eb, l⟩
  · subst ey
    obtain ⟨z, hd, vs, rel, dd⟩ := dk_rd I.hok e
    obtain ⟨w', hw, rw'⟩ := RelO.some_of (v := v) (o := valueAt vs k) (by rw [l]; exact rel.val k)
    exact wpAny_getItem_of (kV_is ry) dd.mapOf hw (h w' _ (I.tok _) rw')
  · subst ey
    cases (show u = Value.ref b from ry)
    obtain ⟨z, hd, xs, rel, dd⟩ := dt_rd I.hok e
    obtain ⟨w', hw, rw'⟩ := RelO.some_of (v := v) (o := (atKey xs k).map (·.2)) (by rw [l]; exact rel.val k)
    obtain ⟨p, hp, hp2⟩ := Option.map_eq_some_iff.mp hw
    refine wpAny_getItem_heap (tupleKind_room_in1 hu) (key_of I.hok eb) dd hp ?_
    rw [hp2]
    exact h w' _ (I.tok _) rw'
end

section
variable {X : Cx} {pins : List (Addr × Obj)} {σ : St} {H : Hp} {s : Shared} {a : Addr} {kvs : List (Key × V)} {k : Key} {u : Value} {A : Around} {E : Value → Shared → Prop}
end


/-! ### readings and rules -/
/-- the element of a subscription, not a slice -/
def NoSl (i : Expr) : Prop := ∀ ov iv, subscripted i false ov iv = operate [ov, iv] (getItem ov iv)
theorem subD_of {prog : Program} {w : World} {A : Around} {E : Value → Shared → Prop} {s : Shared} {env : Env} {value slice : Expr} {pos : Pos} {T id : String} {Q : Value → Shared → Prop}
    (hl : typeLookup (.type T) "__getitem__" = pure (some (.builtin id))) (hs : NoSl slice)
    (h : wpAny (model prog w) A (eval value env) (fun o s₁ => wpAny (model prog w) A (eval slice env) (fun i s₂ => s₂.TypeIs o T ∧ wpAny (model prog w) A (getItem o i) Q E s₂) E s₁) E s) :
    wpAny (model prog w) A (eval (.Subscript value slice pos) env) Q E s := by
  refine Subscript_ (wpAny_mono h (fun o s₁ h₁ => wpAny_mono h₁ (fun i s₂ h₂ => ?_) fun _ _ x => x) fun _ _ x => x)
  obtain ⟨hT, h₂⟩ := h₂
  unfold subscriptTail
  refine wpAny_bind ?_
  rw [getitemInPython_of_ne hT.not_modules]
  refine wpAny_bind (wpAny_specialOf hT hl ?_)
  have fin : wpAny (model prog w) A (subscripted slice false o i) (fun r s₃ => wpAny (model prog w) A (letTemporaryGo value o r >>= fun _ => pure r) Q E s₃) E s₂ := by
    rw [hs o i]
    exact wpAny_operating (wpAny_mono h₂ (fun r s₃ h₃ => wpAny_bind (wpAny_letTemporaryGo (wpAny_pure h₃))) fun _ _ x => x)
  first
    | exact wpAny_pure (wpAny_bind fin)
    | exact wpAny_bind (wpAny_pure (wpAny_bind fin))
    | exact wpAny_bind fin

theorem dict_typeIs {X : Cx} {pins : List (Addr × Obj)} {σ : St} {H : Hp} {s : Shared} {a : Addr} {y : V} {o : Option V} (I : Inv X pins σ H s) (g : DGet H a y o) : s.TypeIs (.ref a) "dict" := by
  rcases g with ⟨kvs, k, e, _, _⟩ | ⟨kvs, k, b, e, _, _, _⟩
  · obtain ⟨_, _, vs, _, dd⟩ := dk_rd I.hok e
    exact dd.typeIs
  · obtain ⟨_, _, xs, _, dd⟩ := dt_rd I.hok e
    exact dd.typeIs

/-- d[y] -/
def tDGet (td ty : TE) : TE := fun σ H Q => td σ H fun x H1 => ty σ H1 fun y H2 => ∃ a v, x = .ref a ∧ DGet H2 a y (some v) ∧ Q v H2

section
variable {X : Cx} {o i e value : Expr} {pos pos' tpos : Pos} {td ty tv : TE}
theorem pe_dget (hu : X.A.units + 1 < cLine) (ho : PE X o td) (hi : PE X i ty) (hs : NoSl i) : PE X (.Subscript o i pos) (tDGet td ty) := by
  intro pins s σ H Q I h
  refine subD_of PySem.F.slot_dict_getitem.lookup hs (thn (ho pins s σ H _ I h) fun u s1 ⟨x, H1, I1, rx, q1⟩ => thn (hi pins s1 σ H1 _ I1 q1) fun iv s2 ⟨y, H2, I2, ry, a, v, ex, g, q2⟩ => ?_)
  subst ex
  obtain rfl : u = Value.ref a := rx
  exact ⟨dict_typeIs I2 g, d_getItem hu I2 g ry fun w' s3 I3 rw' => ⟨v, H2, I3, rw', q2⟩⟩
end


/-! ### displays -/
theorem dk_empty {P : Program} {w : World} {H : Hp} (h : Heap) (hb : sysModules < h.objs.size) : ObjOk P w H (h.push { cls := .type "dict", data := .dict #[] }) h.objs.size (.dK []) :=
  ⟨Nat.zero_le _, beq_eq_false_iff_ne.mpr (Ne.symm (Nat.ne_of_lt hb)), [], .nil, Heap.DictOf.new h⟩
/-- {}, to be a dict of the kind that is wanted -/
def tDNewK : TE := fun _ H Q => ∀ p, H p = none → Q (.ref p) (upd H p (.dK []))
section
variable {X : Cx} {pos : Pos}
theorem pe_dnewK : PE X (.Dict [] [] pos) tDNewK := fun pins s σ H Q I h =>
  wpAny_Dict_empty ⟨.ref s.heap.objs.size, _, I.laid (a := s.heap.objs.size) (o := .dK []) (t' := s.toks) (fun _ _ q => Heap.get?_push_of_some _ q) (Nat.le_refl _) (dk_empty s.heap I.big), rfl, h _ (I.hok.fresh (Nat.le_refl _))⟩
end




/-! ### methods -/
/-- a method call o.m(e) of a built-in, with one argument: what must be seen of the text -/
structure M1 (X : Cx) (o : Expr) (m : Str) (apos : Pos) (e : Expr) (cpos : Pos) : Prop where
  base : attributeBase o m X.env (eval o X.env) = eval o X.env
  few : ((backTo cpos (starEach [e] X.env)).all (fun x => !x.1) && (backToKw cpos (keywordEach [] X.env)).all (fun x => x.1.isSome)
    && decide (([e] : List Expr).length + ([] : List Keyword).length + (if ([] : List Keyword).isEmpty then 0 else 1) < 30)) = true
  line : (apos.endLine == cpos.line) = true
  trees : backTo cpos (starEach [e] X.env) = [(false, eval e X.env)]
structure M2 (X : Cx) (o : Expr) (m : Str) (apos : Pos) (e f : Expr) (cpos : Pos) : Prop where
  base : attributeBase o m X.env (eval o X.env) = eval o X.env
  few : ((backTo cpos (starEach [e, f] X.env)).all (fun x => !x.1) && (backToKw cpos (keywordEach [] X.env)).all (fun x => x.1.isSome)
    && decide (([e, f] : List Expr).length + ([] : List Keyword).length + (if ([] : List Keyword).isEmpty then 0 else 1) < 30)) = true
  line : (apos.endLine == cpos.line) = true
  trees : backTo cpos (starEach [e, f] X.env) = [(false, eval e X.env), (false, eval f X.env)]


section
variable {X : Cx} {pins : List (Addr × Obj)} {σ : St} {H : Hp} {s : Shared} {a : Addr} {y d : V} {u r : Value} {o : Option V} {A : Around} {E : Value → Shared → Prop}
end

section
variable {X : Cx} {o e f : Expr} {apos cpos : Pos} {td ty tx : TE}
end

/-! ### dict(d): a copy -/
section
variable {X : Cx} {pins : List (Addr × Obj)} {σ : St} {H : Hp} {s : Shared} {a : Addr} {kvs : List (Key × V)} {A : Around} {E : Value → Shared → Prop}
end


section
variable {X : Cx} {pins : List (Addr × Obj)} {σ : St} {H : Hp} {s : Shared} {a : Addr} {y : V} {u : Value} {A : Around} {E : Value → Shared → Prop}
end
end L2

namespace Att
open PySem PySem.W PySem.Calls PyProof.Rows

/-! ### the script -/
theorem ints_of_wellAll {P : Params} {h : Heap} : ∀ (ns : List Int) (vs : List Value), WellAll P h vs (ns.map WData.int) → IntsAre vs ns := by
  intro ns
  induction ns with
  | nil =>
    intro vs w
    rw [List.map_nil] at w
    cases w
    exact .nil
  | cons n ns ih =>
    intro vs w
    rw [List.map_cons] at w
    cases w with
    | cons a b =>
      cases a
      exact .cons _ _ (ih _ b)

theorem script_of {l : OpenLaw} {n : Nat} (hn : l.most = some n) {P : Params} {h : Heap} {args : List WData} {vals : List Value}
    (hpre : l.row.toRowW.claim.pre args = true) (hwl : WellAll P h vals args) :
    ∃ a vs ns, vals = [Value.ref a] ∧ args = [WData.list (ns.map WData.int)] ∧ h.get? a = some { cls := .type "list", data := .seq vs.toArray } ∧ IntsAre vs ns ∧ ns.length ≤ n := by
  have hsh : WShape.hasAll [] args [.list .int] = true := (pre_splitW hpre).1
  have hc : l.pre.holds [] { args := args } = true := (pre_splitW hpre).2
  obtain ⟨d, r, rfl, h1, h2⟩ := hasAllW_cons hsh
  obtain rfl := hasAllW_nil h2
  obtain ⟨xs, rfl, h3⟩ := hasW_list h1
  obtain ⟨ns, rfl⟩ := items_int h3
  have hlen : ns.length ≤ n := by
    unfold OpenLaw.pre at hc
    have h4 : (WTm.not (.lt (.lit (.int (n : Int))) (.len (.arg 0)))).holds [] { args := [.list (ns.map .int)] } = true := by
      have h4 := (holds_andW hc).1
      rw [hn] at h4
      exact h4
    have h5 := condW_of h4 (w_not (w_lt w_lit (w_len_list (w_arg rfl))))
    rw [List.length_map] at h5
    refine Nat.le_of_not_lt fun q => ?_
    have q' : (n : Int) < ((ns.length : Nat) : Int) := by omega
    first
      | (rw [decide_eq_true q'] at h5; exact absurd h5 (by decide))
      | (simp at h5; omega)
  cases hwl with
  | cons w1 w2 =>
    cases w2
    cases w1 with
    | list ho hall => exact ⟨_, _, ns, rfl, rfl, ho, ints_of_wellAll ns _ hall, hlen⟩

theorem post_true (l : OpenLaw) (args : List WData) : l.row.toRowW.claim.post args (.bool true) args = true :=
  postW_of (r := l.row.toRowW) (X := (true == true))
    (show WShape.has [] (.bool true) .bool = true by first | rfl | decide | simp [WShape.has, WShape.arms, WShape.armsAll])
    (show (WTm.eq .res (.lit (.bool true))).value [] { args := args, res := some (.bool true), after := args } = some (.bool (true == true)) from w_eq_bool (w_res rfl) w_lit) rfl

/-! ### the attachment: holds_open's last premise (the goal 'hc' behind k_head) from a wpAny of the law's body -/

/-- the same from a codeAny of the CALL (for a layer whose function contracts speak of calls) -/
theorem attach_call {l : OpenLaw} {n : Nat} {q : Program} {loose : List Str} {XP : (Str → Option Value) → Heap → Prop} {YP : World → Heap → Prop} {d : DefRec}
    (hn : l.most = some n) (hdf : d.params.defaults = [])
    (call : ∀ (w : World) (s₀ s₁ : Shared) (mg mb : Str → Option Value) (fa : Addr) (o : Obj) (pm cd doc : Value) (a : Addr) (vs : List Value) (ns : List Int),
      Ground q loose [] XP w s₀ mg mb s₁.heap → YP w s₁.heap →
      s₁.heap.get? fa = some o → o.data = .func (docDef d.name d.params d.body d.scope pm cd doc) → s₁.heap.CodeRec cd d.name → mg d.name = some (.ref fa) →
      s₁.heap.get? a = some { cls := .type "list", data := .seq vs.toArray } → IntsAre vs ns → ns.length ≤ n → s₁.gens = #[] →
      codeAny (model l.prog w) callerA (.call (.ref fa) ⟨[.ref a], []⟩) (fun r s' => r = .ok (.ret (.bool true)) ∧ OldK s₁.heap s'.heap ∧ s'.os = s₁.os ∧ AllBare s'.gens) s₁) :
    WalkO q loose XP YP l.row.toRowW d [] (fun f vs => PySem.call f vs) := by
  intro w s₀ s₁ mg mb G Y fa o pm cd doc dV kV ho hd hcd hD hmg hg args vals as hpre hlay hrd hwl hlo
  obtain rfl : dV = .none := Dflts.none hD hdf
  obtain rfl : kV = .none := Dflts.noKw hD
  obtain ⟨a, vs, ns, rfl, rfl, hobj, hints, hlen⟩ := script_of hn hpre hwl
  refine enter_call (codeAny_mono (call w s₀ s₁ mg mb fa o pm cd doc a vs ns G Y ho (fd_plain hd) hcd hmg hobj hints hlen hg) fun r s' hq => ?_)
  obtain ⟨rfl, h2, h3, h4⟩ := hq
  exact ⟨.inl ⟨.bool true, .bool true, [], rfl, fun _ => rfl, .bool true, post_true l _, fun _ => ⟨List.Pairwise.nil, fun _ hm => (nomatch hm)⟩⟩, h2, h3, h4⟩


/-! ### rules over ANY heap (no ledger) from facts about the written part K: the library's own take a ledger (News) for what they write -/
section
variable {prog : Program} {w : World} {A : Around} {E : Value → Shared → Prop} {s : Shared} {K : Frag}





/-! the whole heap as the ledger: makes every rule that writes through a ledger a rule over any heap -/

end
end Att

namespace L2
open PySem PySem.Spec PyProof.Rows

theorem vals_ints : ∀ {vs : List Value} {ns : List Int}, IntsAre vs ns → Vals (ns.map V.int) vs
  | _, _, .nil => .nil
  | _, _, .cons n t h => .cons ⟨t, rfl⟩ (vals_ints h)

/-- nothing is tracked but the script, known to the object (or it is an object of the module) -/
def Only (H : Hp) : Prop := ∀ b, H b = none ∨ ∃ o xs, H b = some (.frz o (.lst xs))

/-- THE HEAD: the law's promise, at the heap behind the top. F, the promise of the law's def, may use that base is part of the heap (so K.In base, base.Ns mainGlobals mg stand in Mod) -/
theorem law_call {P : Program} {w : World} {K : PySem.W.Frag} {mg mb : Str → Option Value} {CX : CXT} {k : Nat} {fa a : Addr} {fd : FuncData} {x : Str} {sp : Sp} {s₁ : Shared} {vs : List Value} {ns : List Int}
    (KX : K.In s₁.heap) (hns : s₁.heap.Ns mainGlobals mg) (hb : s₁.heap.Ns builtinsNs mb) (hbb : ∀ x : Str, x ≠ "__name__" → mb x = bootBuiltins x) (hlim : s₁.heap.NoLimit) (hg : s₁.gens = #[])
    (ha : s₁.heap.get? a = some { cls := .type "list", data := .seq vs.toArray }) (hi : IntsAre vs ns) (hl : ns.length ≤ sizeLine) (hr : Room k callerA)
    (F : ∀ base : Heap, K.In base → base.Ns mainGlobals mg → FnOk P w K mg base CX k fa fd [x] sp) (hbind : ∀ (s : Shared) (u : Value), BindsTo s fd ⟨[u], []⟩ [(x, u)])
    (hsp : ∀ H : Hp, Only H → SqL K H a (ns.map V.int) → sp [.ref a] H (fun v _ => v = .bl true) fun _ _ _ => False)
    (hCX : ∀ H e s', CX [] H s₁ (fun _ _ _ => False) e s' → False) :
    codeAny (model P w) callerA (.call (.ref fa) ⟨[.ref a], []⟩) (fun r s' => r = .ok (.ret (.bool true)) ∧ OldK s₁.heap s'.heap ∧ s'.os = s₁.os ∧ AllBare s'.gens) s₁ := by
  have rv := vals_ints hi
  have lenV := hi.length
  -- from an abstract heap in which nothing but the script may be tracked
  have core : ∀ H : Hp, Only H → SqL K H a (ns.map V.int) → HOk P w H s₁.heap → (∀ b, H b ≠ none → b = a) → (H a ≠ none → K.lookup a = none) →
      codeAny (model P w) callerA (.call (.ref fa) ⟨[.ref a], []⟩) (fun r s' => r = .ok (.ret (.bool true)) ∧ OldK s₁.heap s'.heap ∧ s'.os = s₁.os ∧ AllBare s'.gens) s₁ := by
    intro H hO hS hok hA hK
    have base_of : ∀ {b : Addr} {o : Obj}, s₁.heap.get? b = some o → H b = none → (hidT s₁.heap H).get? b = some o := fun e n => hidT_get e n
    have noA : ∀ {b : Addr} {o : Obj} {es : Array DictEntry} {ep : Nat}, s₁.heap.get? b = some o → o.data = .dict es ep → H b = none := fun {b o es ep} e d => by
      cases q : H b with
      | none => rfl
      | some u =>
        have e' : b = a := hA b (by rw [q]; simp)
        subst e'
        rw [ha] at e; cases e
        have d' : Data.seq vs.toArray _ = Data.dict es ep := d
        cases d'
    have nsK : ∀ {b : Addr} {m : Str → Option Value}, s₁.heap.Ns b m → (hidT s₁.heap H).Ns b m := fun {b m} ⟨o, es, ep, e, d, r⟩ => ⟨o, es, ep, base_of e (noA e d), d, r⟩
    have hKb : K.In (hidT s₁.heap H) := fun b o e => base_of (KX b o e) (by
      cases q : H b with
      | none => rfl
      | some u =>
        have e' : b = a := hA b (by rw [q]; simp)
        subst e'
        rw [hK (by rw [q]; simp)] at e; cases e)
    have hM : Mod K mg (hidT s₁.heap H) := ⟨hKb, nsK hns, ⟨mb, nsK hb, hbb⟩, let ⟨mc, h1, h2⟩ := hlim; ⟨mc, nsK h1, h2⟩⟩
    have e0 : Env0 P w K mg (hidT s₁.heap H) callerA [] s₁ H := ⟨rfl, hM, fun b o e => of_hidT e, Nat.le_of_eq (hidT_size _ _), trivial, fun b hb => absurd (show b ∈ ([] : List Addr) from hb) (by simp), hok, .of_eq hg⟩
    refine codeAny_mono ((F _ hKb (nsK hns)).run callerA [] s₁ H ⟨[.ref a], []⟩ [.ref a] [.ref a] _ _ hr e0 (hbind s₁ (.ref a)) (.cons rfl .nil) (hsp H hO hS)) fun r s' h => ?_
    cases r with
    | error e => exact (hCX H e s' h).elim
    | ok fl =>
      cases fl with
      | next => exact False.elim h
      | brk => exact False.elim h
      | cont => exact False.elim h
      | ret u =>
        obtain ⟨v, H', os, bare, un, hok', r', q⟩ := h
        have q' : v = .bl true := q
        subst q'
        obtain rfl : u = Value.bool true := r'
        refine ⟨rfl, OldK.of_keep fun b o e => ?_, os, bare⟩
        cases q : H b with
        | none => exact un.keep b o e q (by intro z; exact absurd (show b ∈ ([] : List Addr) from z) (by simp)) (by simp)
        | some u =>
          rcases hO b with z | ⟨ob, xs, z⟩
          · rw [q] at z; cases z
          · have z2 := un.frzs b ob _ z
            obtain ⟨e1, _⟩ := hok b _ z
            obtain ⟨e2, _⟩ := hok' b _ z2
            rw [e] at e1; cases e1
            exact e2
  cases hk : K.lookup a with
  | some o =>
    -- the script is one of the module's own objects
    have e := KX a o hk
    rw [ha] at e
    cases e
    refine core (fun _ => none) (fun _ => .inl rfl) (.inr ⟨_, vs.toArray, _, hk, rfl, rfl, rfl, by rw [List.size_toArray, lenV]; exact hl, by simpa using rv⟩) (fun b u z => by have z' : (none : Option HO) = some u := z; cases z') (fun b z => absurd rfl z) fun z => absurd rfl z
  | none =>
    refine core (fun b => if b = a then some (.frz { cls := .type "list", data := .seq vs.toArray } (.lst (ns.map V.int))) else none) (fun b => ?_) (.inl (.inr ⟨{ cls := .type "list", data := .seq vs.toArray }, if_pos rfl⟩)) (fun b u z => ?_) (fun b z => ?_) fun _ => hk
    · by_cases hb : b = a
      · exact .inr ⟨_, _, if_pos hb⟩
      · exact .inl (if_neg hb)
    · by_cases hb : b = a
      · have z' := (if_pos hb).symm.trans z
        cases z'
        subst hb
        exact ⟨ha, by rw [List.length_map]; exact hl, vs, _, rv, ha⟩
      · have z' := (if_neg hb).symm.trans z
        cases z'
    · by_cases hb : b = a
      · exact hb
      · exact absurd (if_neg hb) z
end L2

namespace L2
open PySem PySem.Spec PyProof.Rows


/-- the goal that k_head leaves (case hc), from the law's promise. F gives the function object fd (K's own) once, then the promise over every base -/
theorem walk_of {l : PySem.W.OpenLaw} {n k : Nat} {q : Program} {loose : List Str} {XP : (Str → Option Value) → Heap → Prop} {YP : World → Heap → Prop} {d : DefRec} {K : Params → PySem.W.Frag} {CX : World → CXT} {sp : World → Sp} {x : Str}
    (hn : l.most = some n) (hn2 : n ≤ sizeLine) (hdf : d.params.defaults = []) (hr : Room k callerA)
    (hY : ∀ (w : World) (h : Heap), YP w h → (K w.params).In h)
    (F : ∀ (w : World) (mg : Str → Option Value) (fa : Addr) (h : Heap), (K w.params).In h → h.Ns mainGlobals mg → mg d.name = some (.ref fa) →
      ∃ fd : FuncData, (∀ (s : Shared) (u : Value), BindsTo s fd ⟨[u], []⟩ [(x, u)]) ∧
        ∀ base : Heap, (K w.params).In base → base.Ns mainGlobals mg → FnOk l.prog w (K w.params) mg base (CX w) k fa fd [x] (sp w))
    (hsp : ∀ (w : World) (H : Hp) (a : Addr) (ns : List Int), ns.length ≤ n → Only H → SqL (K w.params) H a (ns.map V.int) → sp w [.ref a] H (fun v _ => v = .bl true) fun _ _ _ => False)
    (hCX : ∀ (w : World) (H : Hp) (s : Shared) (e : Value) (s' : Shared), CX w [] H s (fun _ _ _ => False) e s' → False) :
    PySem.W.WalkO q loose XP YP l.row.toRowW d [] (fun f vs => PySem.call f vs) := by
  refine Att.attach_call hn hdf fun w s₀ s₁ mg mb fa o pm cd doc a vs ns G Y ho hd hcd hmg hobj hints hlen hg => ?_
  have KX := hY w _ Y
  obtain ⟨fd, hb, hF⟩ := F w mg fa _ KX G.T.g hmg
  exact law_call KX G.T.g G.T.b G.T.builtins G.T.nolimit hg hobj hints (Nat.le_trans hlen hn2) hr hF hb (fun H hO hS => hsp w H a ns hlen hO hS) fun H e s' => hCX w H s₁ e s'
end L2

/- THE LAST THEOREM (shape; LID, My.* are yours):
   My.Adr: a structure of the addresses that your layer names (classes, functions); My.Txt K t: a structure (Prop) of the equations over K;
   My.txt_mk : {K} {implicit addresses ..} (e1 : nsIn K mainGlobals "law" = some (some (.ref f))) (e2 : K.lookup f = some ⟨oc, od, .func (fnOf "law" "law" params body scope dV kV doc pm an cdv ct), sl⟩) (e3 : codeIn K cdv "law" = true) .. : ∃ t, My.Txt K t

set_option maxRecDepth 100000 in
set_option maxHeartbeats 0 in
theorem PySem.Challenge.cw_LID_holds : PySem.Challenge.rw_LID.Holds := by
  w_on; o_law; k_head; (case hw => w_witness2)
  k_fill
  refine L2.walk_of (l := PySem.Challenge.rw_LID) (n := 63) (k := 40) (x := "script") (CX := fun w => ..) (sp := fun _ => My.sp_law) rfl (by decide) rfl ⟨rfl, by decide, by decide⟩ (fun w h Y => PySem.W.kIn_of Y) ?F ?S ?C
  case F =>
    intro w mg fa h KX G hmg
    have T : ∃ t, My.Txt (L2.KOf KX) t := by
      dsimp only [L2.KOf]                          -- K must stand as «<heap const> w.params» for k_is
      refine' My.txt_mk ?e1 ?e2 ?e3 ..
      (case e1 => PySem.W.k_is)                    -- in the order: a name -> its address -> its object -> its parts
      (case e2 => PySem.W.k_is)
      ..
    obtain ⟨t, T⟩ := T
    have e0 := hmg.symm.trans (PySem.W.mg_of KX G T.law)
    cases e0                                       -- fa is the law's own address
    exact ⟨_, fun s u => .of_eq rfl, fun base kb nb => My.law_fn T kb nb⟩     -- if «.of_eq rfl» comes too early: refine' ⟨_, ?b, fun base kb nb => My.law_fn T kb nb⟩; exact fun s u => .of_eq rfl
  case S => exact fun w H a ns hl hO hS => ..
  case C => exact ..
(the tactic k_is has no namespace: write k_is) -/

/-! SHORT WORDS over the layer: a def of the text, its body, what a loop and a test want. -/
namespace L2
open PySem PySem.Spec PyProof.Rows

/-! ### the text by places -/
/-- the j-th statement of a class's body -/
def inClass (s : Stmt) (j : Nat) : Stmt := match s with
  | .ClassDef _ _ _ body _ _ _ _ _ _ _ => body.getD j (.Pass ⟨0, 0, 0, 0⟩)
  | _ => .Pass ⟨0, 0, 0, 0⟩
def defArgs (s : Stmt) : Arguments := match s with
  | .FunctionDef _ a _ _ _ _ _ _ _ _ => a
  | _ => { posonlyargs := [], args := [], vararg := none, kwonlyargs := [], kw_defaults := [], kwarg := none, defaults := [] }
def defBody (s : Stmt) : List Stmt := match s with
  | .FunctionDef _ _ b _ _ _ _ _ _ _ => b
  | _ => []
def defScope (s : Stmt) : Scope := match s with
  | .FunctionDef _ _ _ _ _ _ sc _ _ _ => sc
  | _ => { kind := .function, names := [], isGenerator := false, isCoroutine := false }

/-! ### no exception leaves a def -/
abbrev CX0 : CXT := fun _ _ _ _ _ _ => False
abbrev E0 : XK := fun _ _ _ => False
theorem pass0 {X : Cx} : Passes CX0 X E0 := fun _ _ _ _ _ _ _ h => h.elim

/-! ### a def (or method) of the text as it stands behind the top -/
structure Fun (K : PySem.W.Frag) (x qual : Str) (st : Stmt) (f : Addr) (fd : FuncData) : Prop where
  ex : ∃ (oc : Value) (od : Option Addr) (kV doc pm : Value) (an : Option Addr) (cdv ct : Value) (osl : Array (Option Value)),
    fd = PySem.W.fnOf x qual (defArgs st) (defBody st) (defScope st) .none kV doc pm an cdv ct ∧ K.lookup f = some ⟨oc, od, .func fd, osl⟩ ∧ PySem.W.codeIn K cdv qual = true
  kp : PySem.W.keepIn K (.ref f) = true
section
variable {P : Program} {w : World} {K : PySem.W.Frag} {mg : Str → Option Value} {base : Heap}
/-- THE RULE for a def: its body as a term of rules, and the reading of that term -/
theorem Fun.ok {x qual : Str} {st : Stmt} {f : Addr} {fd : FuncData} {N ps : List Str} {k : Nat} {sp : Sp} (F : Fun K x qual st f fd) (S : FnScope N ps (defScope st)) (len : ∀ vs H Q E, sp vs H Q E → vs.length = ps.length)
    (hbody : ∀ (cdv : Value) (A : Around) (outer : List Env) (s : Shared) (H : Hp) (vs : List V) (Q : VK) (E : XK), Room k (A.deeper (envOfC qual (defScope st) s.heap.objs.size f cdv)) → sp vs H Q E →
      ∃ t, PSs (cxOf CX0 P w K mg base N qual (defScope st) f cdv A outer s H E).nox (defBody st) t ∧ t { nx := fun _ H' => Q .non H', rt := Q } (start N vs) H) : FnOk P w K mg base CX0 (k + 1) f fd ps sp := by
  obtain ⟨oc, od, kV, doc, pm, an, cdv, ct, osl, rfl, lk, hcd⟩ := F.ex
  refine fn_of lk hcd S len fun A outer s H vs Q E hr hsp => ?_
  obtain ⟨t, h, q⟩ := hbody cdv A outer s H vs Q E hr hsp
  exact ⟨t, h.nox, q⟩
/-- how its arguments bind (no defaults): h is «fun _ _ _ _ _ _ us hl => match us, hl with | [_, _], _ => rfl», one _ a parameter -/
theorem Fun.binds {x qual : Str} {st : Stmt} {f : Addr} {fd : FuncData} {ps : List Str} (F : Fun K x qual st f fd)
    (h : ∀ (kV doc pm : Value) (an : Option Addr) (cdv ct : Value) (us : List Value), us.length = ps.length → bindArgs (PySem.W.fnOf x qual (defArgs st) (defBody st) (defScope st) .none kV doc pm an cdv ct) ⟨us, []⟩ = pure (ps.zip us)) : Binds K fd ps [] := by
  obtain ⟨oc, od, kV, doc, pm, an, cdv, ct, osl, rfl, lk, hcd⟩ := F.ex
  exact .all (h kV doc pm an cdv ct)
theorem fun_mk {x qual : Str} {st : Stmt} {f : Addr} {oc : Value} {od an : Option Addr} {osl : Array (Option Value)} {kV doc pm cdv ct : Value} (l : K.lookup f = some ⟨oc, od, .func (PySem.W.fnOf x qual (defArgs st) (defBody st) (defScope st) .none kV doc pm an cdv ct), osl⟩)
    (c : PySem.W.codeIn K cdv qual = true) (k : PySem.W.keepIn K (.ref f) = true) : Fun K x qual st f (PySem.W.fnOf x qual (defArgs st) (defBody st) (defScope st) .none kV doc pm an cdv ct) := ⟨⟨oc, od, kV, doc, pm, an, cdv, ct, osl, rfl, l, c⟩, k⟩
end
theorem hu_of {A : Around} {k : Nat} (hr : Room k A) : A.units + 1 < cLine := Nat.lt_of_le_of_lt (Nat.add_le_add_left (by decide : 1 ≤ 64) _) hr.units
theorem small1000 {n : Nat} (h : n ≤ 1000) : n < sizeLine := Nat.lt_of_le_of_lt h (by decide)

/-! ### expressions in short: the name that stands in the i-th slot -/
section
variable {X : Cx}
theorem pv (i : Nat) {x : Str} {pos : Pos} (hN : X.N[i]? = some x := by rfl) (hv : Vis X.env.scope x := by first | exact Or.inl rfl | exact Or.inr (Or.inl rfl) | exact Or.inr (Or.inr rfl)) (hd : (x == ("__debug__" : Str)) = false := by decide)
    (hcd : (x == ("__classdict__" : Str)) = false := by decide) : PE X (.Name x pos) (tVar i) := pe_var hN hv hd hcd
end

/-! ### tests -/
theorem iteF {A B : Prop} (h : B) : if false = true then A else B := by
  rw [if_neg Bool.false_ne_true]
  exact h
theorem iteT {A B : Prop} (h : A) : if true = true then A else B := by
  rw [if_pos rfl]
  exact h
theorem ite2 {c A B : Prop} [Decidable c] (h1 : c → A) (h2 : ¬ c → B) : if c then A else B := by
  by_cases h : c
  · rw [if_pos h]
    exact h1 h
  · rw [if_neg h]
    exact h2 h

/-! ### heaps -/
/-- all that was tracked is as it was -/
def Same (H H' : Hp) : Prop := ∀ b o, H b = some o → H' b = some o
theorem Same.refl (H : Hp) : Same H H := fun _ _ h => h
theorem Same.trans {H H1 H2 : Hp} (a : Same H H1) (b : Same H1 H2) : Same H H2 := fun c o h => b c o (a c o h)
theorem Same.seq {K : PySem.W.Frag} {H H' : Hp} {a : Addr} {xs : List V} (e : Same H H') (h : SqL K H a xs) : SqL K H' a xs := by
  rcases h with (h | ⟨o, h⟩) | h
  · exact .inl (.inl (e _ _ h))
  · exact .inl (.inr ⟨o, e _ _ h⟩)
  · exact .inr h

/-! ### a dict's pairs: keys that differ -/
section
variable {κ : Type} [DecidableEq κ]
end
end L2
namespace L2
open PySem PySem.Spec PyProof.Rows
section
variable {X : Cx}
/-- text[lo:hi] -/
def rSlS : V → Option Int → Option Int → Hp → VK → Prop := fun x lo hi H Q => ∃ z, x = .str z ∧ z.length ≤ sizeLine ∧ Q (.str (Txt.slice z lo hi)) H
theorem part_val {v : Value} {o : Option Int} (p : IsPart v o) : ∃ q : Option (Int × Tok), v = partValue q ∧ o = q.map (·.1) := by
  cases p with
  | none => exact ⟨none, rfl, rfl⟩
  | int i t => exact ⟨some (i, t), rfl, rfl⟩
theorem sl_str : SlR X rSlS := by
  intro pins s σ H x v vl vu lo hi sl Q I rx hs pl pu h
  obtain ⟨z, rfl, hz, q⟩ := h
  obtain ⟨t, rfl⟩ := rx
  obtain ⟨l, rfl, rfl⟩ := part_val pl
  obtain ⟨u, rfl, rfl⟩ := part_val pu
  refine ⟨"str", _, PySem.F.slot_str_getitem.lookup, typeIs_str _ _ _, ?_⟩
  have hq : ∀ t' k, EP X pins σ Q (.str (Txt.slice z (l.map (·.1)) (u.map (·.1))) t') { s with toks := k } := fun t' k => ⟨.str _, H, I.tok k, ⟨t', rfl⟩, q⟩
  have hl := Nat.le_trans (Txt.slice_le z (l.map (·.1)) (u.map (·.1))) hz
  cases l <;> cases u <;> exact wpAny_getItem_str_slice (st := none) hs rfl (post_val_or_str ⟨hl, fun t' k => hq t' k⟩)
/-- isinstance of a bool -/
theorem call_isi_bool : CallR X (.builtin "isinstance") (fun xs H Q => ∃ b, xs = [.bl b, .ty "bool"] ∧ Q (.bl true) H) := by
  intro pins s σ H xs us Q I r h
  obtain ⟨b, rfl, q⟩ := h
  obtain ⟨u, w', rfl, r1, r2⟩ := vals2 r
  cases r1
  cases r2
  exact call_isinstance_yes (Tx := "bool") (T := "bool") rfl (by kernel_rfl) (by kernel_rfl) ⟨.bl true, H, I, rfl, q⟩
end

/-! ### two lists that hold the same, lists and dicts within -/
/-- the two are equal here -/
def EqW (P : Program) (w : World) (A : Around) (s : Shared) (y x : Value) : Prop := ∀ (E : Value → Shared → Prop) (Q : Bool → Shared → Prop), Q true s → wpAny (model P w) A (eqBool y x) Q E s
section
variable {P : Program} {w : World} {A : Around} {s : Shared}
theorem EqW.of {y x : Value} (h : SeqAt.EqAt A s y x true) : EqW P w A s y x := fun E Q q => h P w E Q q
theorem EqW.refs {l b : Addr} (hne : l ≠ b) (h : ∀ (E : Value → Shared → Prop) (Q : Value → Shared → Prop), Q (.bool true) s → wpAny (model P w) A (richCompare .Eq (.ref l) (.ref b)) Q E s) : EqW P w A s (.ref l) (.ref b) := by
  intro E Q q
  unfold eqBool
  refine wpAny_holding ?_
  refine wpAny_ite_split (fun z => absurd (by have := eq_of_beq z; injection this) hne) (fun _ => ?_)
  exact wpAny_bind (h E _ (wpAny_truthy_bool q))
end
section
open AutoSeq1 (wpAny_loadPart')
open MeetsSeq MeetsSeq2 MeetsSeq3
theorem ne_loopW (P : Program) (w : World) (a b : Addr) (us vs : Array Value) (n1 n2 : Nat) (d1 d2 : Option Addr) (s1 s2 : Array (Option Value)) (hz : us.size = vs.size) (m : Nat) :
    ∀ i : Nat, us.size - i = m → MeetsIn P w (Builtin.«list.__eq__.loop» ⟨[.ref a, .ref b, rawInt i, rawInt 3], []⟩)
      (fun A R s => s.heap.get? a = some { cls := .type "list", dict := d1, data := .seq us n1, slots := s1 } ∧ s.heap.get? b = some { cls := .type "list", dict := d2, data := .seq vs n2, slots := s2 } ∧
        (∀ j (h1 : j < us.size) (h2 : j < vs.size), EqW P w A.in1 s us[j] vs[j]) ∧ R (.ok (.ret (.bool false))) s) := by
  induction m with
  | zero =>
    intro i hm A R st hh
    obtain ⟨k0, k1, k2, k3, k4⟩ := st
    obtain ⟨hA, hB, hE, hR⟩ := hh
    wp_walk using wpAny_loadPart' hA, wpAny_loadPart' hB
    have e1 : us[((i : Nat) : Int).toNat]? = none := by simp; omega
    have e2 : vs[((i : Nat) : Int).toNat]? = none := by simp; omega
    rw [e1, e2]
    wp_walk using wpAny_loadPart' hA, wpAny_loadPart' hB
    show R (.ok (.ret (.bool (us.size != vs.size)))) _
    rw [hz]
    simpa using hR
  | succ m ih =>
    intro i hm A R st hh
    obtain ⟨k0, k1, k2, k3, k4⟩ := st
    obtain ⟨hA, hB, hE, hR⟩ := hh
    wp_walk using wpAny_loadPart' hA, wpAny_loadPart' hB
    have l1 : i < us.size := by omega
    have l2 : i < vs.size := by omega
    have e1 : us[((i : Nat) : Int).toNat]? = some us[i] := by simp [l1]
    have e2 : vs[((i : Nat) : Int).toNat]? = some vs[i] := by simp [l2]
    have e3 : ((i : Int) + 1) = ((i + 1 : Nat) : Int) := by push_cast; rfl
    rw [e1, e2]
    refine wpAny_bind (hE i l1 l2 _ _ ?_)
    wp_walk
    rw [e3]
    exact ⟨plainId_quiet plain_eq_loop _, codeAny_builtin entry_eq_loop (by
      rw [Around.under_plainId plain_eq_loop _]
      exact ih (i + 1) (by omega) A R _ ⟨hA, hB, hE, hR⟩)⟩
theorem list_neW (P : Program) (w : World) (a b : Addr) (us vs : Array Value) (n1 n2 : Nat) (d1 d2 : Option Addr) (s1 s2 : Array (Option Value)) (hz : us.size = vs.size) :
    MeetsIn P w (Builtin.«list.__ne__» ⟨[.ref a, .ref b], []⟩)
      (fun A R s => s.heap.get? a = some { cls := .type "list", dict := d1, data := .seq us n1, slots := s1 } ∧ s.heap.get? b = some { cls := .type "list", dict := d2, data := .seq vs n2, slots := s2 } ∧
        (∀ j (h1 : j < us.size) (h2 : j < vs.size), EqW P w A.in1 s us[j] vs[j]) ∧ R (.ok (.ret (.bool false))) s) := by
  intro A R st hh
  obtain ⟨k0, k1, k2, k3, k4⟩ := st
  obtain ⟨hA, hB, hE, hR⟩ := hh
  have fs := AutoSeq1.sub_list_list
  have hn : ¬ (us.size != vs.size) = true := by simp [hz]
  wp_walk using wpAny_loadPart' hA, wpAny_loadPart' hB
  exact ⟨plainId_quiet plain_eq_loop _, codeAny_builtin entry_eq_loop (by
    rw [Around.under_plainId plain_eq_loop _]
    exact ne_loopW P w a b us vs n1 n2 d1 d2 s1 s2 hz _ 0 rfl A R _ ⟨hA, hB, hE, hR⟩)⟩
end
/-- equal, down to lists and dicts of flat things -/
inductive EqT (K : PySem.W.Frag) (H : Hp) : V → V → Prop
  | flat {x : V} : flatV x = true → EqT K H x x
  | lst {a b : Addr} {xs : List V} : SqL K H a xs → SqL K H b xs → (∀ x ∈ xs, flatV x = true) → EqT K H (.ref a) (.ref b)
  | dk {a b : Addr} {kvs : List (Key × V)} : H a = some (.dK kvs) → H b = some (.dK kvs) → (kvs.map (·.1)).Nodup → (∀ p ∈ kvs, flatV p.2 = true) → EqT K H (.ref a) (.ref b)
theorem eqV_self {x : V} (h : flatV x = true) : eqV x x = true := by
  cases x <;> first | (simp [eqV]; done) | (simp [flatV] at h; done) | (simp [eqV, flatV] at *)
theorem valV_mem {κ : Type} [DecidableEq κ] {k : κ} {v : V} : ∀ {kvs : List (κ × V)}, (kvs.map (·.1)).Nodup → (k, v) ∈ kvs → valV kvs k = some v
  | [], _, h => by cases h
  | p :: r, hn, h => by
    have hn : (p.1 :: r.map (·.1)).Nodup := hn
    obtain ⟨h1, h2⟩ := List.nodup_cons.mp hn
    rcases List.mem_cons.mp h with e | h
    · subst e; exact valV_pos rfl
    · rw [valV_neg fun e => h1 (e ▸ List.mem_map.mpr ⟨_, h, rfl⟩)]
      exact valV_mem h2 h
section
variable {X : Cx} {pins : List (Addr × Obj)} {σ : St} {H : Hp} {s : Shared} {A : Around}
theorem hits_all {A : Around} {s : Shared} {kb : List (Key × Value)} : ∀ (ka : List (Key × Value)), (∀ p ∈ ka, ∃ y, valueAt kb p.1 = some y ∧ SeqAt.EqAt A s p.2 y true) → PySem.W.KeqHits A s kb ka true
  | [], _ => .nil
  | (k, v) :: r, h => by
    obtain ⟨y, e1, e2⟩ := h (k, v) List.mem_cons_self
    exact .hit (e := true) (b := true) e1 e2 (hits_all r fun p hp => h p (List.mem_cons_of_mem _ hp))
theorem kv_mem {κ : Type} : ∀ {kvs : List (κ × V)} {vs : List (κ × Value)}, KV kvs vs → ∀ q ∈ vs, ∃ p ∈ kvs, p.1 = q.1 ∧ RelV p.2 q.2
  | _, _, .nil, q, h => by cases h
  | _, _, .cons r t, q, h => by
    rcases List.mem_cons.mp h with e | h
    · subst e; exact ⟨_, List.mem_cons_self, r⟩
    · obtain ⟨p, hp, z⟩ := kv_mem t q h
      exact ⟨p, List.mem_cons_of_mem _ hp, z⟩
theorem eqT_w {x y : V} {u v : Value} (I : Inv X pins σ H s) (e : EqT X.K H x y) (ru : RelV x u) (rv : RelV y v) (hu : A.units + 4 < cLine) : EqW X.prog X.w A s u v := by
  cases e with
  | flat f =>
    have z := eqAt_V (A := A) (s := s) ru rv f f
    rw [eqV_self f] at z
    exact .of z
  | @lst a b xs h1 h2 hf =>
    cases ru
    cases rv
    by_cases hab : a = b
    · subst hab
      exact .of (SeqAt.EqAt.same _)
    · obtain ⟨i1, r1, p1, z1⟩ := I.list h1
      obtain ⟨i2, r2, p2, z2⟩ := I.list h2
      have l1 := r1.length
      have l2 := r2.length
      have q := SeqAt.RcAt.lists (A := A) (e := fun _ => true) p1.isList p2.isList (by simp; omega) (by omega) (fun j j1 j2 => by
        have j1' : j < i1.length := by simpa using j1
        have j2' : j < i2.length := by simpa using j2
        have jx : j < xs.length := by omega
        obtain ⟨u1, e1, w1⟩ := r1.get (i := j) (x := xs[j]) (List.getElem?_eq_getElem jx)
        obtain ⟨u2, e2, w2⟩ := r2.get (i := j) (x := xs[j]) (List.getElem?_eq_getElem jx)
        rw [List.getElem?_eq_getElem j1'] at e1
        rw [List.getElem?_eq_getElem j2'] at e2
        have f := hf _ (List.getElem_mem jx)
        have z := eqAt_V (A := A.in1) (s := s) w1 w2 f f
        rw [eqV_self f] at z
        have g1 : i1.toArray[j] = u1 := by simpa using Option.some.inj e1
        have g2 : i2.toArray[j] = u2 := by simpa using Option.some.inj e2
        rw [g1, g2]
        exact z)
      have qt : ((List.range i1.toArray.size).all fun _ => true) = true := by simp
      rw [qt] at q
      exact .of (SeqAt.EqAt.of_refs hab q)
  | @dk a b kvs h1 h2 hn hf =>
    cases ru
    cases rv
    by_cases hab : a = b
    · subst hab
      exact .of (SeqAt.EqAt.same _)
    · obtain ⟨z1, y1, v1, k1, d1⟩ := dk_of I.hok h1
      obtain ⟨z2, y2, v2, k2, d2⟩ := dk_of I.hok h2
      refine EqW.refs hab fun E Q q => ?_
      refine PySem.W.keq_eq (r := true) y1 y2 d1 d2 (by omega) (fun _ => hits_all _ fun p hp => ?_) ?_
      · obtain ⟨p', hp', e1, e2⟩ := kv_mem k1 p hp
        have hv : valV kvs p.1 = some p'.2 := valV_mem hn (by rw [← e1]; exact hp')
        have hr := k2.val p.1
        rw [hv] at hr
        obtain ⟨y, ey, ry⟩ := RelO.some_of hr
        have f := hf p' hp'
        have z := eqAt_V (A := A.in1) (s := s) e2 ry f f
        rw [eqV_self f] at z
        exact ⟨y, ey, z⟩
      · have e : (v1.length == v2.length) = true := by
          rw [← k1.length, ← k2.length]
          exact beq_self_eq_true _
        rw [e]
        exact q
/-- xs != ys, which hold the same -/
theorem op_ne_deep (hu : X.A.units + 8 < cLine) : OpR X (compareOp .NotEq) (fun x y H Q => ∃ a b xs ys, x = .ref a ∧ y = .ref b ∧ SqL X.K H a xs ∧ SqL X.K H b ys ∧ Paired (EqT X.K H) xs ys ∧ Q (.bl false) H) := by
  intro pins s σ H x y v u Q I r1 r2 h
  obtain ⟨a, b, xs, ys, rfl, rfl, h1, h2, hp, q⟩ := h
  cases r1
  cases r2
  obtain ⟨i1, w1, p1, z1⟩ := I.list h1
  obtain ⟨i2, w2, p2, z2⟩ := I.list h2
  have l1 := w1.length
  have l2 := w2.length
  have l3 := Paired.length hp
  obtain ⟨⟨c1, g1, t1, o1⟩, e1, f1, n1, m1⟩ := id p1.isList
  obtain ⟨⟨c2, g2, t2, o2⟩, e2, f2, n2, m2⟩ := id p2.isList
  simp only at f1 m1 f2 m2
  subst f1 m1 f2 m2
  have pg : ∀ {xs ys : List V}, Paired (EqT X.K H) xs ys → ∀ (j : Nat) (x y : V), xs[j]? = some x → ys[j]? = some y → EqT X.K H x y := by
    intro xs ys h
    induction h with
    | nil => intro j x y e; simp at e
    | cons r _ ih =>
      intro j x y e e'
      cases j with
      | zero => simp at e e'; subst e; subst e'; exact r
      | succ j => exact ih j x y (by simpa using e) (by simpa using e')
  refine wpAny_richCompare_same_room (op := .NotEq) ⟨_, e1, rfl⟩ ⟨_, e2, rfl⟩ PySem.F.slot_list_ne (call_meetsIn PySem.F.slot_list_ne ⟨_, e1, rfl⟩ PySem.F.entry_list_ne (PySem.F.args_list_ne_2 _ _)
    (list_neW X.prog X.w a b i1.toArray i2.toArray _ _ _ _ _ _ (by simp; omega)) ⟨e1, e2, fun j j1 j2 => ?_, ?_⟩) (by omega)
  · have j1' : j < i1.length := by simpa using j1
    have j2' : j < i2.length := by simpa using j2
    have jx : j < xs.length := by omega
    have jy : j < ys.length := by omega
    obtain ⟨u1, q1, t1⟩ := w1.get (i := j) (x := xs[j]) (List.getElem?_eq_getElem jx)
    obtain ⟨u2, q2, t2⟩ := w2.get (i := j) (x := ys[j]) (List.getElem?_eq_getElem jy)
    rw [List.getElem?_eq_getElem j1'] at q1
    rw [List.getElem?_eq_getElem j2'] at q2
    have g1 : i1.toArray[j] = u1 := by simpa using Option.some.inj q1
    have g2 : i2.toArray[j] = u2 := by simpa using Option.some.inj q2
    rw [g1, g2]
    exact eqT_w I (pg hp j _ _ (List.getElem?_eq_getElem jx) (List.getElem?_eq_getElem jy)) t1 t2 (by show X.A.units + 1 + 4 < cLine; omega)
  · show Value.bool false ≠ Value.notImplemented ∧ _
    exact ⟨(fun z => nomatch z), ⟨.bl false, H, I, rfl, q⟩⟩
end

/-! ### [elt for target in iter], no name of the def around within -/
section
variable {X : Cx}
end
end L2
namespace L2
open PySem PySem.Spec PyProof.Rows
/-! ### [elt for target in iter if test], names of the def around within -/
section
variable {X : Cx}
def cxLG (X : Cx) (N' : List Str) (scope : Scope) (cl : List (Str × Addr)) (s : Shared) (H : Hp) (ex : List Addr) : Cx where
  prog := X.prog
  w := X.w
  K := X.K
  mg := X.mg
  base := X.base
  A := X.A
  N := N'
  s₀ := s
  H₀ := H
  env := compEnvC scope cl s.heap.objs.size X.env
  outer := X.stack
  stack := X.stack
  ex := ex
  calm := true
  fn := fun _ => false
  pn := []
  xe := fun _ _ => False
/-- the names of the def around that stand within: name, its place there -/
inductive Caps (X : Cx) (scope : Scope) (cl : List (Str × Addr)) : List (Str × Nat) → Prop
  | nil : Caps X scope cl []
  | cons {x : Str} {j : Nat} {r : List (Str × Nat)} : X.N[j]? = some x → (X.env.kindOf x = some .cell ∨ X.env.kindOf x = some .free) → (cl.lookup x = X.env.cells.lookup x) → Caps X scope cl r → Caps X scope cl ((x, j) :: r)
theorem Caps.get {scope : Scope} {cl : List (Str × Addr)} : ∀ {caps : List (Str × Nat)}, Caps X scope cl caps → ∀ q ∈ caps, X.N[q.2]? = some q.1 ∧ (X.env.kindOf q.1 = some .cell ∨ X.env.kindOf q.1 = some .free) ∧ cl.lookup q.1 = X.env.cells.lookup q.1
  | _, .nil, q, h => by cases h
  | _, .cons a b c r, q, h => by
    rcases List.mem_cons.mp h with rfl | h
    · exact ⟨a, b, c⟩
    · exact r.get q h
def capV (σ : St) (caps : List (Str × Nat)) : St := caps.map fun p => (σ[p.2]?).join
/-- the tests -/
def PIf (X : Cx) (ifs : List Expr) (t : TT) : Prop :=
  ∀ (pins : List (Addr × Obj)) (s : Shared) (σ : St) (H : Hp) (Q : Bool → Hp → Prop), Inv X pins σ H s → t σ H Q →
    wpAny (model X.prog X.w) X.A (forIn ifs true fun c r => if r = true then do let ok ← isTrue c X.env (eval c X.env); pure (ForInStep.yield ok) else pure (ForInStep.yield r)) (TP X pins σ Q) X.xe s
def tYes : TT := fun _ H Q => Q true H
theorem pif_nil : PIf X [] tYes := fun _ _ _ H _ I h => wpAny_tests_nil ⟨H, I, h⟩
theorem pif_one {c : Expr} {t : TT} (h : PT X c t) : PIf X [c] t := fun pins s σ H Q I hw => wpAny_tests_one (h pins s σ H Q I hw)
def tLG (n : Nat) (caps : List (Str × Nat)) (wi : TI) (g : TG) (tt : TT) (te : TE) : TE := fun σ H Q => wi σ H fun J H1 => ∀ D, H1 D = none →
  ∃ W : Nat → Nat → St → Hp → Prop, (∃ m, W 0 m (List.replicate n none ++ capV σ caps) (upd H1 D (.lst []))) ∧ ∀ i m σ' H', W i m σ' H' →
    (J.stop i H' ∧ Q (.ref D) H') ∨ (J.go i H' ∧ ∃ N : St → Hp → Prop, (∀ σ2 H2, N σ2 H2 → ∃ m', m' < m ∧ W (i + 1) m' σ2 H2) ∧
      ∀ x H2, J.yld i H' x H2 → g x σ' H2 fun σ3 H3 => tt σ3 H3 fun b H4 => if b = true then te σ3 H4 fun y H5 => ∃ xs, H5 D = some (.lst xs) ∧ xs.length < sizeLine ∧ N σ3 (upd H5 D (.lst (xs ++ [y]))) else N σ3 H4)
structure LcOk (X : Cx) (scope : Scope) (cl : List (Str × Addr)) (caps : List (Str × Nat)) : Prop where
  kind : scope.kind = .function
  cell : ∀ x ∈ scope.names, x.2 ≠ .cell
  names : ∀ x ∈ scope.names, x.2 = .local → scope.names.lookup x.1 = some .local
  clos : closureFor scope X.env = pure cl
  cap : Caps X scope cl caps
  sub : (cl.all fun p => caps.any fun q => q.1 == p.1) = true
  has : ((relabel scope X.env).names.all fun p => p.2 == .local || p.2 == .globalImplicit || (cl.lookup p.1).isSome) = true
  own : (caps.all fun q => ((relabel scope X.env).names.lookup q.1 == some .cell) || ((relabel scope X.env).names.lookup q.1 == some .free)) = true
theorem LcOk.at {scope : Scope} {cl : List (Str × Addr)} {caps : List (Str × Nat)} (h : LcOk X scope cl caps) {x : Str} {c : Addr} (e : cl.lookup x = some c) : X.env.cells.lookup x = some c := by
  have h1 := List.all_eq_true.mp h.sub _ (PySem.mem_of_lookup e)
  obtain ⟨q, hq, e1⟩ := List.any_eq_true.mp h1
  have e2 : q.1 = x := by simpa using e1
  have := (h.cap.get q hq).2.2
  rw [e2] at this
  rw [← this]; exact e
theorem lcg_start {pins : List (Addr × Obj)} {σ : St} {H : Hp} {s : Shared} {h4 : Heap} {m : Str → Option Value} {tk : Nat} {own : List Str} {caps : List (Str × Nat)} {cl : List (Str × Addr)} {scope : Scope} {fp : List Addr} (hc : X.calm = true) (I : Inv X pins σ H s)
    (f : ∀ b ∈ fp, FpOk X pins H b) (fo : ∀ b ∈ fp, ∃ o, s.heap.get? b = some o) (L : LcOk X scope cl caps)
    (hn : h4.Ns s.heap.objs.size m) (kp : ∀ b o, s.heap.get? b = some o → h4.get? b = some o) : Inv (cxLG X (own ++ caps.map (·.1)) scope cl s H fp) [] (List.replicate own.length none ++ capV σ caps) H { s with heap := h4, toks := tk } := by
  refine ⟨⟨I.ok.mod, L.kind, I.ok.glob, I.ok.blt, Nat.le_refl _, fun x y c e1 e2 => I.ok.inj x y c (L.at e1) (L.at e2), fun x z => ?_, (fun x c e => by cases e), fun _ => I.ok.hd hc, I.ok.frames, .inl rfl, fun b hb => ⟨?_, fun x c e => ?_⟩, I.bs,
    Nat.le_trans I.ok.bsz I.sz, fun b o e hb => ?_, fun b hb hm => ?_, I.stack, I.stkFree⟩, rfl, I.bare, Un.kept kp, ⟨m, hn, fun i x v e1 e2 e3 => ?_⟩, fun x c e => ?_, I.hok.fresh (Nat.le_refl _), fun x c e => I.freeC x c (L.at e), (fun p hp => nomatch hp), I.hok.kept kp, ?_⟩
  · have z' : (relabel scope X.env).names.lookup x = some .cell ∨ (relabel scope X.env).names.lookup x = some .free := z
    have key : ∀ k, (k = NameKind.cell ∨ k = NameKind.free) → (relabel scope X.env).names.lookup x = some k → ∃ c, cl.lookup x = some c := by
      intro k hk hz
      have h1 := List.all_eq_true.mp L.has _ (PySem.mem_of_lookup hz)
      rcases hk with rfl | rfl
      · have : (cl.lookup x).isSome = true := by simpa using h1
        exact Option.isSome_iff_exists.mp this
      · have : (cl.lookup x).isSome = true := by simpa using h1
        exact Option.isSome_iff_exists.mp this
    rcases z' with z' | z'
    · exact key _ (.inl rfl) z'
    · exact key _ (.inr rfl) z'
  · obtain ⟨o, e⟩ := fo b hb
    exact Nat.ne_of_lt (Heap.lt_size e)
  · exact (f b hb).2.2.2.2.1 x c (L.at e)
  · obtain ⟨_, _, _, z, _⟩ := f b hb
    rcases z with z | z
    · exact I.ok.noex b o e z
    · exact absurd (Nat.lt_of_lt_of_le (Heap.lt_size e) (Nat.le_trans I.ok.bsz z)) (Nat.lt_irrefl _)
  · obtain ⟨_, z1, z2, _⟩ := f b hb
    rcases List.mem_cons.mp (I.stkSub b hm) with z | z
    · exact z1 z
    · exact z2 z
  · have hlt : own.length ≤ i := by
      rcases Nat.lt_or_ge i own.length with z | z
      · rw [List.getElem?_append_left (by simpa using z), List.getElem?_replicate] at e2
        rw [if_pos z] at e2; cases e2
      · exact z
    rw [List.getElem?_append_right (by simpa using hlt), List.length_replicate] at e2
    have e1' : (caps.map (·.1))[i - own.length]? = some x := by
      have : (own ++ caps.map (·.1))[i]? = some x := e1
      rw [List.getElem?_append_right hlt] at this; exact this
    unfold capV at e2
    rw [List.getElem?_map] at e1' e2
    cases hq : caps[i - own.length]? with
    | none => rw [hq] at e1'; cases e1'
    | some q =>
      rw [hq] at e1' e2
      have ex : q.1 = x := Option.some.inj e1'
      have hqm := List.mem_of_getElem? hq
      obtain ⟨a1, a2, a3⟩ := L.cap.get q hqm
      have hv : (σ[q.2]?).join = some v := Option.some.inj e2
      have hv2 : σ[q.2]? = some (some v) := by
        cases z : σ[q.2]? with
        | none => rw [z] at hv; cases hv
        | some w => rw [z] at hv; exact congrArg some hv
      obtain ⟨m0, hn0, hl0⟩ := I.loc
      rw [ex] at a1 a2 a3
      obtain ⟨u, ru, lk⟩ := hl0 q.2 x v a1 hv2 (by rcases a2 with a2 | a2; exact .inr (.inl a2); exact .inr (.inr a2))
      refine ⟨u, ru, .inr ⟨?_, ?_⟩⟩
      · have h1 := List.all_eq_true.mp L.own q hqm
        rw [ex] at h1
        show (relabel scope X.env).names.lookup x = some .cell ∨ (relabel scope X.env).names.lookup x = some .free
        simpa using h1
      · rcases lk with ⟨k, _⟩ | ⟨_, c, ec, ic⟩
        · rcases a2 with a2 | a2 <;> rw [a2] at k <;> cases k
        · refine ⟨c, a3.trans ec, ?_⟩
          obtain ⟨o, ho, hd⟩ := ic
          exact ⟨o, kp _ _ ho, hd⟩
  · obtain ⟨v, o, ho, hd⟩ := I.cell x c (L.at e)
    exact ⟨v, o, kp _ _ ho, hd⟩
  · show _ = (own ++ caps.map (·.1)).length
    simp [capV]
theorem lcg_end {pins : List (Addr × Obj)} {σ σ' : St} {H H' : Hp} {s s' : Shared} {h' : Heap} {N' : List Str} {scope : Scope} {cl : List (Str × Addr)} {fp : List Addr} (I : Inv X pins σ H s) (f : ∀ b ∈ fp, FpOk X pins H b)
    (J : Inv (cxLG X N' scope cl s H fp) [] σ' H' s') (sb : Heap.SameBut s.heap.objs.size s'.heap h') : Inv X pins σ H' { s' with heap := h' } := by
  have U : Un (frs X.stack) fp H H' s.heap s'.heap := J.base
  have ne : ∀ b o, s.heap.get? b = some o → b ≠ s.heap.objs.size := fun b o e => Nat.ne_of_lt (Heap.lt_size e)
  have nH : ∀ b o, H' b = some o → b ≠ s.heap.objs.size := fun b o e z => by
    have q : H' s.heap.objs.size = none := J.free
    rw [z, q] at e
    cases e
  have U' : Un (frs X.stack) fp H H' s.heap h' := ⟨fun b o e n hb hx => (sb.2 b (ne b o e)).trans (U.keep b o e n hb hx), fun b o e n hb hx => by
      obtain ⟨sl, z⟩ := U.slot b o e n hb hx
      exact ⟨sl, (sb.2 b (ne b o e)).trans z⟩, U.free, fun b o e hx => by
      obtain ⟨o', z⟩ := U.there b o e hx
      exact ⟨o', (sb.2 b (ne b o e)).trans z⟩, U.tups, U.frzs, U.tbls⟩
  have hok : HOk X.prog X.w H' h' := fun a o e => (J.hok a o e).stay (fun b u hb q => (sb.2 b (by
      rcases hb with hb | hb
      · rw [hb]; exact nH a o e
      · exact nH b _ hb)).trans q) (fun _ q => q) fun _ _ q => q
  refine I.call' (s' := { s' with heap := h' }) (ch := fp) J.os U' hok J.bare fun b hb => ?_
  obtain ⟨_, z1, z2, z3, z4, z5⟩ := f b hb
  exact ⟨z3, z1, z4, z5⟩
/-- the block, up to what is done with its list -/
theorem lcg_core {elt target iter : Expr} {ifs : List Expr} {scope : Scope} {cl : List (Str × Addr)} {pos : Pos} {own : List Str} {caps : List (Str × Nat)} {wi : TI} {g : TG} {tt : TT} {te : TE} {use : Option (Value → Sem Unit)} (hc : X.calm = true) (hi : PI X target iter wi) (L : LcOk X scope cl caps)
    (hg : ∀ s H ex, PG (cxLG X (own ++ caps.map (·.1)) scope cl s H ex) target g) (ht : ∀ s H ex, PIf (cxLG X (own ++ caps.map (·.1)) scope cl s H ex) ifs tt) (he : ∀ s H ex, PE (cxLG X (own ++ caps.map (·.1)) scope cl s H ex) elt te)
    {pins : List (Addr × Obj)} {s : Shared} {σ : St} {H : Hp} {Q : VK} {Q' : Value → Shared → Prop} (I : Inv X pins σ H s) (h : tLG own.length caps wi g tt te σ H Q)
    (hs : ∀ x, foldedSetIterable iter X.env x = pure x)
    (fin : ∀ (D : Addr) (s3 s' : Shared) (H3 H' : Hp) (σ' : St) (fp : List Addr), Inv X pins σ H3 s3 → (∀ b ∈ fp, FpOk X pins H3 b) → Inv (cxLG X (own ++ caps.map (·.1)) scope cl s3 H3 fp) [] σ' H' s' → Q (.ref D) H' →
      compPost (model X.prog X.w) X.A X.xe use Q' (.ref D) s3.heap.objs.size (.ok .next) s') :
    wpAny (model X.prog X.w) X.A (comprehension (.ListComp elt [⟨target, iter, ifs, 0⟩] scope pos) scope X.env iter.pos (newList []) false (eval iter X.env) use) Q' X.xe s := by
  refine wpAny_comprehension_free (g := ⟨target, iter, ifs, 0⟩) (gs := []) rfl hs L.clos L.kind L.names (thn (hi pins s σ H _ I h) fun v s1 h1 => thn h1 fun itv s2 h2 => ?_)
  obtain ⟨it, fp, tn, J, H2, rfl, I2, T, st2, f2, R⟩ := h2
  have hD : H2 s2.heap.objs.size = none := I2.hok.fresh (Nat.le_refl _)
  obtain ⟨W, ⟨m0, w0⟩, turn⟩ := R _ hD
  refine wpAny_newList ?_ (Nat.zero_le _)
  have I3 : Inv X pins σ (upd H2 s2.heap.objs.size (.lst [])) { s2 with heap := s2.heap.push { cls := .type "list", data := .seq ([] : List Value).toArray } } := I2.lnew (t' := s2.toks) .nil (Nat.zero_le _)
  have o2 := T.obj 0 _ st2
  have lt2 : ∀ b ∈ fp, b < s2.heap.objs.size := fun b hb => by
    obtain ⟨o, e, _⟩ := o2 b hb
    exact Heap.lt_size e
  have f3 : ∀ b ∈ fp, FpOk X pins (upd H2 s2.heap.objs.size (.lst [])) b := fun b hb => ⟨by rw [upd_ne (Nat.ne_of_lt (lt2 b hb))]; exact (f2 b hb).1, (f2 b hb).2⟩
  have st3 : tn 0 (s2.heap.push { cls := .type "list", data := .seq ([] : List Value).toArray }) := T.keep 0 _ _ st2 fun b hb o e => Heap.get?_push_of_some _ e
  generalize hs3 : ({ s2 with heap := s2.heap.push { cls := .type "list", data := .seq ([] : List Value).toArray } } : Shared) = s3 at I3 ⊢
  have st3' : tn 0 s3.heap := by rw [← hs3]; exact st3
  generalize hH3 : upd H2 s2.heap.objs.size (.lst []) = H3 at I3 f3 w0
  generalize hDD : s2.heap.objs.size = D at *
  have o3 : ∀ b ∈ fp, ∃ o, s3.heap.get? b = some o := fun b hb => by
    obtain ⟨o, e, _⟩ := T.obj 0 _ st3' b hb
    exact ⟨o, e⟩
  refine wpAny_newFunctionEnv L.cell (fun x hx => nomatch hx) (fun h4 hn4 sb4 => ?_) L.kind
  have kp4 : ∀ b o, s3.heap.get? b = some o → h4.get? b = some o := fun b o e => (sb4.2 b (Nat.ne_of_lt (Heap.lt_size e))).trans (Heap.get?_push_of_some _ e)
  have I4 : Inv (cxLG X (own ++ caps.map (·.1)) scope cl s3 H3 fp) [] (List.replicate own.length none ++ capV σ caps) H3 { s3 with heap := h4, toks := s3.toks + ([] : List (Str × Value)).length } := lcg_start hc I3 f3 o3 L hn4 kp4
  have stat : ∀ {H' : Hp}, (∀ b ∈ fp, H' b = none) → ∀ b ∈ fp, FpOk (cxLG X (own ++ caps.map (·.1)) scope cl s3 H3 fp) [] H' b := fun hn b hb => by
    obtain ⟨o, e⟩ := o3 b hb
    obtain ⟨_, z1, z2, _, z4, _⟩ := f3 b hb
    refine ⟨hn b hb, Nat.ne_of_lt (Heap.lt_size e), fun hm => ?_, .inl hb, fun x c e => z4 x c (L.at e), (fun p hp => nomatch hp)⟩
    rcases List.mem_cons.mp (I3.stkSub b hm) with z | z
    · exact z1 z
    · exact z2 z
  have LL : ∀ Rr : Result → Shared → Prop, (∀ s' H' σ', Inv (cxLG X (own ++ caps.map (·.1)) scope cl s3 H3 fp) [] σ' H' s' → Q (.ref D) H' → Rr (.ok .next) s') →
      codeAny (model X.prog X.w) X.A (.compLoop (.ListComp elt [⟨target, iter, ifs, 0⟩] scope pos) 0 (.ref it) (.ref D) (cxLG X (own ++ caps.map (·.1)) scope cl s3 H3 fp).env) Rr { s3 with heap := h4, toks := s3.toks + ([] : List (Str × Value)).length } := by
    intro Rr hR
    refine codeAny_loop rfl (fun n s' => ∃ i σ' H', Inv (cxLG X (own ++ caps.map (·.1)) scope cl s3 H3 fp) [] σ' H' s' ∧ tn i s'.heap ∧ (∀ b ∈ fp, H' b = none) ∧ W i n σ' H') ?_ m0
      ⟨0, _, H3, I4, T.keep 0 _ _ st3' fun b _ o e => kp4 b o e, fun b hb => (f3 b hb).1, w0⟩
    rintro n s5 ⟨i, σ5, H5, I5, st5, fr5, w5⟩
    show wpAny _ X.A ((compTurn (.ListComp elt [⟨target, iter, ifs, 0⟩] scope pos) 0 (.ref it) (.ref D) (cxLG X (own ++ caps.map (·.1)) scope cl s3 H3 fp).env).onRaise (fun x => do noteFrame x (cxLG X (own ++ caps.map (·.1)) scope cl s3 H3 fp).env; theTreesLotGoes x)) _ _ s5
    refine wpAny_noted ?_
    rw [compTurn_list]
    refine wpAny_bind (wpAny_standAt ?_)
    rcases turn i n σ5 H5 w5 with ⟨stop, qn⟩ | ⟨go, N, hN, stp⟩
    · refine wpAny_bind (thn (T.done (cxLG X (own ++ caps.map (·.1)) scope cl s3 H3 fp) rfl rfl rfl rfl i [] s5 σ5 H5 _ I5 (stat fr5) st5 stop) fun r s6 ⟨hr, I6⟩ => ?_)
      subst hr
      exact wpAny_pure (hR s6 H5 σ5 I6 qn)
    · refine wpAny_bind (thn (T.item (cxLG X (own ++ caps.map (·.1)) scope cl s3 H3 fp) rfl rfl rfl rfl i [] s5 σ5 H5 _ I5 (stat fr5) st5 go) fun r s6 ⟨u, hr, h6⟩ => ?_)
      subst hr
      refine wpAny_bind (thn h6 fun _ s7 ⟨x, H7, I7, r7, y7, st7, fr7⟩ => ?_)
      have I7' := I7.pinned (stat fr7) (T.obj _ _ st7)
      refine wpAny_bind (wpAny_mono (hg s3 H3 fp _ s7 σ5 H7 x u _ I7' r7 (stp x H7 y7)) (fun _ s8 ⟨σ8, H8, I8, q8⟩ => ?_) fun _ _ z => False.elim z)
      refine wpAny_bind (wpAny_mono (ht s3 H3 fp _ s8 σ8 H8 _ I8 q8) (fun ok s8' ⟨H8', I8', q8'⟩ => ?_) fun _ _ z => False.elim z)
      have back : ∀ (s10 : Shared) (H10 : Hp), Inv (cxLG X (own ++ caps.map (·.1)) scope cl s3 H3 fp) ([] ++ pinsAt fp s7.heap) σ8 H10 s10 → N σ8 H10 →
          ∃ m', m' < n ∧ ∃ i σ' H', Inv (cxLG X (own ++ caps.map (·.1)) scope cl s3 H3 fp) [] σ' H' s10 ∧ tn i s10.heap ∧ (∀ b ∈ fp, H' b = none) ∧ W i m' σ' H' := by
        intro s10 H10 I10 n10
        obtain ⟨m', hm, w10⟩ := hN σ8 H10 n10
        refine ⟨m', hm, i + 1, σ8, H10, I10.unpinned, T.keep _ _ _ st7 fun b hb o e => (I10.pin (b, o) (List.mem_append_right _ (List.mem_append_right _ (mem_pinsAt hb e)))).1, fun b hb => ?_, w10⟩
        obtain ⟨o, e, d⟩ := T.obj _ _ st7 b hb
        exact (I10.pin (b, o) (List.mem_append_right _ (List.mem_append_right _ (mem_pinsAt hb e)))).2.1
      cases ok with
      | false =>
        have q9 : N σ8 H8' := q8'
        exact wpAny_pure ⟨rfl, back _ _ I8' q9⟩
      | true =>
        have q9 := q8'
        rw [if_pos rfl] at q9
        refine wpAny_bind (wpAny_bind (wpAny_mono (he s3 H3 fp _ s8' σ8 H8' _ I8' q9) (fun y s9 ⟨yv, H9, I9, r9, q9⟩ => ?_) fun _ _ z => False.elim z))
        obtain ⟨xs, hx, hz, q9⟩ := q9
        refine wpAny_bind (wpAny_mono (mt_append (X := cxLG X (own ++ caps.map (·.1)) scope cl s3 H3 fp) _ s9 σ8 H9 (.ref D) [yv] (.ref D) [y] (fun v H' => N σ8 H') I9 rfl (.cons r9 .nil) ⟨D, xs, yv, rfl, rfl, hx, hz, q9⟩) (fun _ s10 ⟨_, H10, I10, _, n10⟩ => ?_) fun _ _ z => False.elim z)
        exact wpAny_pure (wpAny_pure ⟨rfl, back _ _ I10 n10⟩)
  have fin' : ∀ s' H' σ', Inv (cxLG X (own ++ caps.map (·.1)) scope cl s3 H3 fp) [] σ' H' s' → Q (.ref D) H' → compPost (model X.prog X.w) X.A X.xe use Q' (.ref D) s3.heap.objs.size (.ok .next) s' := fun s' H' σ' J q => fin D s3 s' H3 H' σ' fp I3 f3 J q
  refine codeAny_compStart_list (LL _ fin') ?_
  exact T.self _ 0 _ _ _ (T.keep 0 _ _ st3' fun b _ o e => kp4 b o e) (LL _ fin')
/-- as a value -/
theorem pe_lcG {elt target iter : Expr} {ifs : List Expr} {scope : Scope} {cl : List (Str × Addr)} {pos : Pos} (own : List Str) {caps : List (Str × Nat)} {wi : TI} {g : TG} {tt : TT} {te : TE} (hc : X.calm = true) (hi : PI X target iter wi) (L : LcOk X scope cl caps)
    (hg : ∀ s H ex, PG (cxLG X (own ++ caps.map (·.1)) scope cl s H ex) target g) (ht : ∀ s H ex, PIf (cxLG X (own ++ caps.map (·.1)) scope cl s H ex) ifs tt) (he : ∀ s H ex, PE (cxLG X (own ++ caps.map (·.1)) scope cl s H ex) elt te)
    (hs : ∀ x, foldedSetIterable iter X.env x = pure x := by intro _; rfl) : PE X (.ListComp elt [⟨target, iter, ifs, 0⟩] scope pos) (tLG own.length caps wi g tt te) := by
  intro pins s σ H Q I h
  rw [eval_ListComp]
  refine lcg_core (use := none) hc hi L hg ht he I h hs fun D s3 s' H3 H' σ' fp I3 f3 J q => ?_
  obtain ⟨m, hn, _⟩ := J.loc
  exact ⟨m, hn, fun h' sb => ⟨.ref D, H', lcg_end I3 f3 J sb, rfl, q⟩⟩
/-- name = [..] -/
theorem ps_setLC {elt target iter : Expr} {ifs : List Expr} {scope : Scope} {cl : List (Str × Addr)} {pos : Pos} {i : Nat} {y : Str} {py spos : Pos} (own : List Str) {caps : List (Str × Nat)} {wi : TI} {g : TG} {tt : TT} {te : TE} (hc : X.calm = true) (hN : X.N.Nodup) (hy : X.N[i]? = some y) (hl : X.env.scope.names.lookup y = some .local)
    (hi : PI X target iter wi) (L : LcOk X scope cl caps)
    (hg : ∀ s H ex, PG (cxLG X (own ++ caps.map (·.1)) scope cl s H ex) target g) (ht : ∀ s H ex, PIf (cxLG X (own ++ caps.map (·.1)) scope cl s H ex) ifs tt) (he : ∀ s H ex, PE (cxLG X (own ++ caps.map (·.1)) scope cl s H ex) elt te)
    (hsw : swapsWith (.ListComp elt [⟨target, iter, ifs, 0⟩] scope pos) (some (.Name y py)) spos.line X.env = pure true)
    (hs : ∀ x, foldedSetIterable iter X.env x = pure x := by intro _; rfl) : PS X (.Assign [.Name y py] (.ListComp elt [⟨target, iter, ifs, 0⟩] scope pos) spos) (tAsg (tLG own.length caps wi g tt te) (gName i)) := by
  intro pins s σ H D I h
  rw [exec_Assign_Name_used _ _ _ _ hsw]
  refine wpAny_bind (wpAny_standAt (wpAny_bind ?_))
  show wpAny _ _ (do let _ ← comprehension (.ListComp elt [⟨target, iter, ifs, 0⟩] scope pos) scope X.env _ (newList []) false (eval iter X.env) (some (assign (.Name y py) X.env))) _ _ s
  refine wpAny_bind (wpAny_mono (lcg_core (use := some (assign (.Name y py) X.env)) (Q := fun v H' => D.nx (σ.set i (some v)) H') (Q' := fun _ s' => SP X pins D .next s') hc hi L hg ht he I h hs fun D' s3 s' H3 H' σ' fp I3 f3 J q => ?_) (fun _ s' hq => wpAny_pure (wpAny_pure hq)) fun _ _ e => e)
  obtain ⟨m, hn, _⟩ := J.loc
  obtain ⟨oC, es, ep, hoC, hdC, hrest⟩ := id hn
  have hCC : (cxLG X (own ++ caps.map (·.1)) scope cl s3 H3 fp).env.locals = s3.heap.objs.size := rfl
  rw [hCC] at hoC hn
  have I5 : Inv X pins σ H' s' := lcg_end I3 f3 J (Heap.SameBut.refl _ _)
  have fok : FpOk X pins H' s3.heap.objs.size := I3.fpOk (Nat.le_refl _) J.free
  obtain ⟨k1, k2, k3, k4, k5, k6⟩ := fok
  have I6 : Inv X (pins ++ [(s3.heap.objs.size, oC)]) σ H' s' := I5.pins_of fun p hp => by
    rcases List.mem_append.mp hp with z | z
    · exact I5.pin p (List.mem_append_right _ z)
    · have e : p = (s3.heap.objs.size, oC) := by simpa using z
      subst e
      exact ⟨hoC, k1, k2, k3, fun v e => by rw [hdC] at e; cases e⟩
  show wpAny _ _ (assign (.Name y py) X.env (.ref D')) _ _ s'
  refine wpAny_assign_Name (store_ok I6 hN hy (Or.inl hl) (show RelV (.ref D') (.ref D') from rfl) (fun s'' I7 => ?_) (.inr hl))
  have pC := (I7.pin (s3.heap.objs.size, oC) (List.mem_append_right _ (List.mem_append_right _ (List.mem_singleton.mpr rfl)))).1
  refine ⟨m, ⟨oC, es, ep, pC, hdC, hrest⟩, fun h' sb => ?_⟩
  have I8 : Inv X pins (σ.set i (some (.ref D'))) H' s'' := I7.pins_of fun p hp => I7.pin p (List.mem_append_right _ (List.mem_append_left _ hp))
  have I9 := I8.turned (t' := s''.toks) (it := s3.heap.objs.size) (h' := h') (fun b o hb e => (sb.2 b hb).trans e) k1 k2 k4 k5 k6
  exact ⟨_, H', I9, q⟩
end
end L2
namespace L2
open PySem
/-! ### a set's table -/
def Rise (xs : Array Nat) : Prop := xs.toList.Pairwise (· < ·)
theorem Rise.lt {xs : Array Nat} (h : Rise xs) {i j : Nat} (hi : i < xs.size) (hj : j < xs.size) (hij : i < j) : xs[i] < xs[j] := by
  have := List.pairwise_iff_getElem.mp h i j (by simpa using hi) (by simpa using hj) hij
  simpa using this
theorem below_go {xs : Array Nat} (hr : Rise xs) (j : Nat) : ∀ (fuel lo hi : Nat), lo ≤ hi → hi ≤ xs.size → hi - lo ≤ fuel → (∀ i (h : i < xs.size), i < lo → xs[i] < j) → (∀ i (h : i < xs.size), hi ≤ i → j ≤ xs[i]) →
    SetTable.below.go xs j fuel lo hi ≤ xs.size ∧ (∀ i (h : i < xs.size), i < SetTable.below.go xs j fuel lo hi → xs[i] < j) ∧ (∀ i (h : i < xs.size), SetTable.below.go xs j fuel lo hi ≤ i → j ≤ xs[i])
  | 0, lo, hi, h1, h2, h3, a, b => by
    have e : lo = hi := by omega
    unfold SetTable.below.go
    exact ⟨by omega, a, e ▸ b⟩
  | fuel + 1, lo, hi, h1, h2, h3, a, b => by
    unfold SetTable.below.go
    by_cases hlt : lo < hi
    · rw [if_pos hlt]
      have hm : (lo + hi) / 2 < xs.size := by omega
      have e : xs.getD ((lo + hi) / 2) j = xs[(lo + hi) / 2] := by simp [hm]
      dsimp only
      rw [e]
      by_cases hc : xs[(lo + hi) / 2] < j
      · rw [if_pos hc]
        refine below_go hr j fuel _ hi (by omega) h2 (by omega) (fun i h q => ?_) b
        rcases Nat.lt_or_ge i ((lo + hi) / 2) with z | z
        · exact Nat.lt_trans (hr.lt h hm z) hc
        · have : i = (lo + hi) / 2 := by omega
          subst this; exact hc
      · rw [if_neg hc]
        refine below_go hr j fuel lo _ (by omega) (by omega) (by omega) a (fun i h q => ?_)
        rcases Nat.lt_or_ge ((lo + hi) / 2) i with z | z
        · exact Nat.le_trans (Nat.le_of_not_lt hc) (Nat.le_of_lt (hr.lt hm h z))
        · have : i = (lo + hi) / 2 := by omega
          subst this; exact Nat.le_of_not_lt hc
    · rw [if_neg hlt]
      have e : lo = hi := by omega
      exact ⟨by omega, a, e ▸ b⟩
theorem below_spec {xs : Array Nat} (hr : Rise xs) (j : Nat) : SetTable.below xs j ≤ xs.size ∧ (∀ i (h : i < xs.size), i < SetTable.below xs j → xs[i] < j) ∧ (∀ i (h : i < xs.size), SetTable.below xs j ≤ i → j ≤ xs[i]) := by
  unfold SetTable.below
  exact below_go hr j _ 0 xs.size (Nat.zero_le _) (Nat.le_refl _) (by omega) (fun i h q => absurd q (Nat.not_lt_zero _)) (fun i h q => absurd h (by omega))
theorem below_zero {xs : Array Nat} (hr : Rise xs) : SetTable.below xs 0 = 0 := by
  obtain ⟨h1, h2, h3⟩ := below_spec hr 0
  rcases Nat.eq_zero_or_pos (SetTable.below xs 0) with h | h
  · exact h
  · exact absurd (h2 0 (by omega) h) (Nat.not_lt_zero _)
theorem below_succ {xs : Array Nat} (hr : Rise xs) {i : Nat} (hi : i < xs.size) : SetTable.below xs (xs[i] + 1) = i + 1 := by
  obtain ⟨h1, h2, h3⟩ := below_spec hr (xs[i] + 1)
  rcases Nat.lt_trichotomy (SetTable.below xs (xs[i] + 1)) (i + 1) with h | h | h
  · have := h3 i hi (by omega); omega
  · exact h
  · have hi' : i + 1 < xs.size := by omega
    have h4 := h2 (i + 1) hi' h
    have h5 := hr.lt hi hi' (Nat.lt_succ_self i)
    omega
theorem not_mem_of_slot {xs : Array Nat} (hr : Rise xs) {j : Nat} (h : xs[SetTable.below xs j]? ≠ some j) : ∀ i (hi : i < xs.size), xs[i] ≠ j := by
  intro i hi e
  obtain ⟨h1, h2, h3⟩ := below_spec hr j
  have hb : SetTable.below xs j = i := by
    rcases Nat.lt_trichotomy (SetTable.below xs j) i with z | z | z
    · have hb : SetTable.below xs j < xs.size := by omega
      have := h3 _ hb (Nat.le_refl _)
      have := hr.lt hb hi z
      omega
    · exact z
    · have := h2 i hi z; omega
  apply h
  rw [hb, Array.getElem?_eq_getElem hi, e]
theorem rise_insert {xs : Array Nat} (hr : Rise xs) {j : Nat} (hj : ∀ i (hi : i < xs.size), xs[i] ≠ j) : Rise (SetTable.insertAt xs (SetTable.below xs j) j) := by
  obtain ⟨h1, h2, h3⟩ := below_spec hr j
  unfold Rise
  rw [SetTable.toList_insertAt]
  have hl : ∀ x ∈ xs.toList.take (SetTable.below xs j), x < j := by
    intro x hx
    obtain ⟨i, hi, e⟩ := List.mem_iff_getElem.mp hx
    rw [List.length_take] at hi
    rw [List.getElem_take] at e
    have hi2 : i < xs.size := by have : xs.toList.length = xs.size := by simp
                                 omega
    have := h2 i hi2 (by omega)
    rw [← e]; simpa using this
  have hg : ∀ x ∈ xs.toList.drop (SetTable.below xs j), j < x := by
    intro x hx
    obtain ⟨i, hi, e⟩ := List.mem_iff_getElem.mp hx
    rw [List.length_drop] at hi
    rw [List.getElem_drop] at e
    have hi2 : SetTable.below xs j + i < xs.size := by have : xs.toList.length = xs.size := by simp
                                                       omega
    have a := h3 _ hi2 (by omega)
    have b := hj _ hi2
    have : xs[SetTable.below xs j + i] = x := by rw [← e]; simp
    omega
  rw [List.pairwise_append]
  refine ⟨hr.sublist (List.take_sublist _ _), List.pairwise_cons.mpr ⟨hg, hr.sublist (List.drop_sublist _ _)⟩, fun a ha b hb => ?_⟩
  rcases List.mem_cons.mp hb with rfl | hb
  · exact hl a ha
  · exact Nat.lt_trans (hl a ha) (hg b hb)
/-- a table as a set of this text keeps it -/
structure TabOk (led : Bool) (t : SetTable) : Prop where
  led : t.led = led
  rise : Rise t.place
  nod : t.dummies = #[]
theorem rise_range (n : Nat) : Rise (Array.range n) := by
  unfold Rise
  rw [Array.toList_range]
  exact List.pairwise_lt_range
theorem TabOk.standIn {led : Bool} {t : SetTable} (h : TabOk led t) (n : Nat) : TabOk led (t.standIn n) := ⟨h.led, rise_range n, rfl⟩
theorem TabOk.orStandIn {led : Bool} {t : SetTable} (h : TabOk led t) (n : Nat) : TabOk led (t.orStandIn n) := by
  unfold SetTable.orStandIn
  split
  · exact h
  · exact h.standIn n
theorem TabOk.unplain {led : Bool} {t : SetTable} (h : TabOk led t) : TabOk led { t with plain := false } := ⟨h.led, h.rise, h.nod⟩
theorem has_none (j : Nat) : SetTable.has #[] j = false := by simp [SetTable.has]
theorem slot_nodummy {t : SetTable} (h : t.dummies = #[]) (j : Nat) : t.slot j ≠ .dummy := by
  unfold SetTable.slot
  rw [h, has_none]
  dsimp only
  split
  · intro e; cases e
  · intro e; simp at e
theorem slot_empty {t : SetTable} {j : Nat} (h : t.slot j = .empty) : t.place[SetTable.below t.place j]? ≠ some j := by
  intro e
  unfold SetTable.slot at h
  simp [e] at h
theorem adv_dummy {t : SetTable} {p : SetTable.Probe} (h : p.dummy = none) : (t.advance p).dummy = none := by
  unfold SetTable.advance
  split <;> exact h
theorem probe_go {t : SetTable} (hn : t.dummies = #[]) {hashAt : Nat → Int} {h : Int} : ∀ (fuel : Nat) (p : SetTable.Probe), p.dummy = none → ∀ j d, SetTable.probe.go t hashAt h fuel p = some (.empty j d) → d = none ∧ t.slot j = .empty
  | 0, p, _, j, d, e => by simp [SetTable.probe.go] at e
  | fuel + 1, p, hp, j, d, e => by
    unfold SetTable.probe.go at e
    cases hs : t.slot p.j with
    | empty =>
      rw [hs] at e
      simp at e
      obtain ⟨rfl, rfl⟩ := e
      exact ⟨hp, hs⟩
    | dummy => exact absurd hs (slot_nodummy hn _)
    | live i =>
      rw [hs] at e
      dsimp only at e
      split at e
      · cases e
      · exact probe_go hn fuel _ (adv_dummy hp) j d e
theorem free_ok {t : SetTable} (hn : t.dummies = #[]) {h : Int} {s : Nat} {b : Bool} (e : t.freeSlot h = some (s, b)) : t.slot s = .empty := by
  unfold SetTable.freeSlot SetTable.probe at e
  split at e
  · rename_i j d hq
    obtain ⟨rfl, h2⟩ := probe_go hn _ _ rfl j d hq
    simp at e
    obtain ⟨rfl, rfl⟩ := e
    exact h2
  · cases e
theorem TabOk.put {led : Bool} {t : SetTable} (h : TabOk led t) {j : Nat} (hs : t.slot j = .empty) : TabOk led (t.put j).1 := by
  refine ⟨h.led, rise_insert h.rise (not_mem_of_slot h.rise (slot_empty hs)), ?_⟩
  show (if SetTable.has t.dummies j then _ else t.dummies) = #[]
  rw [h.nod, has_none]
  rfl
theorem TabOk.layNew {led : Bool} {t : SetTable} (h : TabOk led t) (es : Array (Int × Value)) (k : Int) (x : Value) : TabOk led (layNew t es k x).2.1 := by
  unfold PySem.layNew
  split
  · rename_i s b hq
    exact (h.put (free_ok h.nod hq)).orStandIn _
  · exact h.standIn _
theorem laid_rise {mask finger moves : Nat} {led plain : Bool} {hashes : Array Int} {t : SetTable} {o : Array Nat} (e : SetTable.laid mask finger moves led plain hashes = some (t, o)) : TabOk led t := by
  unfold SetTable.laid at e
  cases hq : SetTable.layClean mask hashes with
  | none => rw [hq] at e; cases e
  | some owner =>
    rw [hq] at e
    have e' := Option.some.inj e
    have e1 := (Prod.mk.inj e').1
    subst e1
    refine ⟨rfl, ?_, rfl⟩
    show List.Pairwise (· < ·) (((List.range (mask + 1)).filterMap fun j => (owner.getD j none).map (j, ·)).map (·.1)).toArray.toList
    rw [List.map_filterMap]
    have hs : ∀ l : List Nat, (l.filterMap fun x => Option.map (fun x => x.1) ((owner.getD x none).map (x, ·))).Sublist l := by
      intro l
      induction l with
      | nil => exact .slnil
      | cons a r ih =>
        rw [List.filterMap_cons]
        cases owner.getD a none with
        | none => exact ih.cons _
        | some v => exact ih.cons₂ _
    exact (List.pairwise_lt_range (n := mask + 1)).sublist (hs _)
theorem TabOk.relayAll {led : Bool} {t : SetTable} (h : TabOk led t) (es : Array (Int × Value)) (n : Nat) : TabOk led (relayAll t es n).2.1 := by
  unfold PySem.relayAll
  split
  · rename_i t' o hq
    dsimp only
    split
    · have := laid_rise hq
      rw [h.led] at this
      exact this
    · exact h.standIn _
  · exact h.standIn _
end L2
namespace L2
open PySem
theorem paired_perm {α β : Type} {R : α → β → Prop} {l2 l2' : List β} (p : l2.Perm l2') : ∀ {l1 : List α}, Paired R l1 l2 → ∃ l1', l1.Perm l1' ∧ Paired R l1' l2' := by
  induction p with
  | nil => intro l1 h; exact ⟨l1, .refl _, h⟩
  | cons x _ ih =>
    intro l1 h
    cases h with
    | cons r t => obtain ⟨l, p, q⟩ := ih t; exact ⟨_ :: l, p.cons _, .cons r q⟩
  | swap x y l =>
    intro l1 h
    cases h with
    | cons r t => cases t with | cons r' t' => exact ⟨_, .swap _ _ _, .cons r' (.cons r t')⟩
  | trans _ _ ih1 ih2 =>
    intro l1 h
    obtain ⟨l, p, q⟩ := ih1 h
    obtain ⟨l', p', q'⟩ := ih2 q
    exact ⟨l', p.trans p', q'⟩
theorem paired_len {α β : Type} {R : α → β → Prop} : ∀ {xs : List α} {ys : List β}, Paired R xs ys → xs.length = ys.length
  | _, _, .nil => rfl
  | _, _, .cons _ t => by rw [List.length_cons, List.length_cons, paired_len t]
theorem paired_append {α β : Type} {R : α → β → Prop} : ∀ {xs : List α} {ys : List β} {a : α} {b : β}, Paired R xs ys → R a b → Paired R (xs ++ [a]) (ys ++ [b])
  | _, _, _, _, .nil, r => .cons r .nil
  | _, _, _, _, .cons q t, r => .cons q (paired_append t r)
section
variable {prog : Program} {w : World} {K : Type} [DecidableEq K] (knd : KeyKind prog w K)
/-- the set at a has just these keys -/
def SetW (h : Heap) (a : Addr) (ks : List K) : Prop :=
  ∃ o es ep t, h.get? a = some o ∧ o.ExactSet ∧ o.data = .set es ep t ∧ ElemsOf knd es.toList ∧ Paired (fun (k : K) (e : Int × Value) => knd.is k e.2 = true) ks es.toList ∧ ks.Nodup ∧
    es.size < scanBound ∧ t.fits es.size = true ∧ TabOk (!w.params.followText "set-order") t
variable {knd}
variable {A : Around} {E : Value → Shared → Prop} {s : Shared}
theorem SetW.at' {h h' : Heap} {a : Addr} {ks : List K} (x : SetW knd h a ks) (k : ∀ o, h.get? a = some o → h'.get? a = some o) : SetW knd h' a ks := by
  obtain ⟨o, es, ep, t, ho, r⟩ := x
  exact ⟨o, es, ep, t, k o ho, r⟩
theorem SetW.typeIs {a : Addr} {ks : List K} (x : SetW knd s.heap a ks) : s.TypeIs (.ref a) "set" := by
  obtain ⟨o, es, ep, t, ho, hx, r⟩ := x
  exact ⟨o, ho, hx.1⟩
theorem key_in {ks : List K} : ∀ {es : List (Int × Value)}, Paired (fun (k : K) (e : Int × Value) => knd.is k e.2 = true) ks es → ∀ k, k ∈ ks ↔ ∃ e ∈ es, knd.is k e.2 = true := by
  induction ks with
  | nil => intro es h k; cases h; simp
  | cons a r ih =>
    intro es h k
    cases h with
    | @cons _ b _ t r' p =>
      rw [List.mem_cons, ih p k]
      constructor
      · rintro (rfl | ⟨e, he, hk⟩)
        · exact ⟨b, List.mem_cons_self, r'⟩
        · exact ⟨e, List.mem_cons_of_mem _ he, hk⟩
      · rintro ⟨e, he, hk⟩
        rcases List.mem_cons.mp he with rfl | he
        · exact .inl (knd.inj _ _ _ hk r')
        · exact .inr ⟨e, he, hk⟩
theorem store_setW {h : Heap} {a : Addr} {o : Obj} {es : Array (Int × Value)} {ep : Nat} {t : SetTable} (ho : h.get? a = some o) (hex : o.ExactSet) (hd : o.data = .set es ep t)
    {es' : Array (Int × Value)} {t' : SetTable} {ks : List K} (hel : ElemsOf knd es'.toList) (hp : Paired (fun (k : K) (e : Int × Value) => knd.is k e.2 = true) ks es'.toList) (hn : ks.Nodup) (hb : es'.size < scanBound) (hf : t'.fits es'.size = true)
    (ht : TabOk (!w.params.followText "set-order") t') :
    (h.update a (Obj.putSet es' t')).get? a = some { o with data := .set es' (ep + 1) t' } ∧ SetW knd (h.update a (Obj.putSet es' t')) a ks := by
  have hg : (h.update a (Obj.putSet es' t')).get? a = some { o with data := .set es' (ep + 1) t' } := by
    have := Heap.get?_update_self (Obj.putSet es' t') ho (by rw [putSet_of es' t' hd]; rfl)
    rw [putSet_of es' t' hd] at this; exact this
  exact ⟨hg, _, es', ep + 1, t', hg, hex, rfl, hel, hp, hn, hb, hf, ht⟩
theorem tail_setW {g : Bool → Sem Unit} (hg : ∀ (b : Bool) (s₁ : Shared) (Q' : Unit → Shared → Prop), Q' () s₁ → wpAny (model prog w) A (g b) Q' E s₁)
    {a : Addr} {o : Obj} {es : Array (Int × Value)} {ep : Nat} {t : SetTable} (ho : s.heap.get? a = some o) (hex : o.ExactSet) (hd : o.data = .set es ep t)
    {es1 : Array (Int × Value)} {t2 : SetTable} {ks : List K} (hel1 : ElemsOf knd es1.toList) (hp1 : Paired (fun (k : K) (e : Int × Value) => knd.is k e.2 = true) ks es1.toList) (hn1 : ks.Nodup)
    (hb1 : es1.size < scanBound) (hf2 : t2.fits es1.size = true) (ht2 : TabOk (!w.params.followText "set-order") t2) {wasDummy : Bool} {R : Option Bool → Shared → Prop}
    (h : ∀ h' ks', Heap.SameBut a s.heap h' → ks.Perm ks' → SetW knd h' a ks' → R (some true) { s with heap := h' }) :
    wpAny (model prog w) A (do
        storeSet a es1 t2
        if (!wasDummy && t2.tooFull) = true then do
            g (relayAll t2 es1 (SetTable.grown es1.size)).2.2
            storeSet a (relayAll t2 es1 (SetTable.grown es1.size)).1 (relayAll t2 es1 (SetTable.grown es1.size)).2.1
            pure (some true)
          else pure (some true)) R E s := by
  refine wpAny_bind (wpAny_storeSet_of ho hd ?_ (fits_of_scanBound hb1))
  obtain ⟨ho1, hS1⟩ := store_setW (knd := knd) ho hex hd hel1 hp1 hn1 hb1 hf2 ht2
  have hsb1 := Heap.SameBut.update s.heap a (Obj.putSet es1 t2)
  split
  · have hp := relayAll_perm t2 es1 (SetTable.grown es1.size)
    have hfr := relayAll_fits t2 es1 (SetTable.grown es1.size)
    have htr := ht2.relayAll es1 (SetTable.grown es1.size)
    generalize hRl : relayAll t2 es1 (SetTable.grown es1.size) = Rl at hp hfr htr ⊢
    obtain ⟨es2, t3, gave2⟩ := Rl
    dsimp only at hp hfr htr ⊢
    have hel2 : ElemsOf knd es2.toList := hel1.perm hp
    obtain ⟨ks2, pk, hp2⟩ := paired_perm hp.symm hp1
    have hsz : es2.size = es1.size := by rw [← Array.length_toList, hp.length_eq, Array.length_toList]
    have hb2 : es2.size < scanBound := by rw [hsz]; exact hb1
    refine wpAny_bind (hg _ _ _ ?_)
    refine wpAny_bind (wpAny_storeSet_of ho1 rfl ?_ (fits_of_scanBound hb2))
    obtain ⟨_, hS2⟩ := store_setW (knd := knd) ho1 hex rfl hel2 hp2 (pk.nodup_iff.mp hn1) hb2 hfr htr
    exact wpAny_pure (h _ _ (hsb1.trans (Heap.SameBut.update _ a _)) pk hS2)
  · exact wpAny_pure (h _ _ hsb1 (.refl _) hS1)
/-- what an added key makes of the keys -/
def Added (ks : List K) (k : K) (ks' : List K) : Prop := (k ∈ ks ∧ ks' = ks) ∨ (k ∉ ks ∧ (ks ++ [k]).Perm ks')
theorem Added.mem {ks ks' : List K} {k : K} (h : Added ks k ks') (x : K) : x ∈ ks' ↔ x ∈ ks ∨ x = k := by
  rcases h with ⟨a, rfl⟩ | ⟨_, p⟩
  · exact ⟨.inl, fun z => z.elim id (fun e => e ▸ a)⟩
  · rw [← p.mem_iff, List.mem_append, List.mem_singleton]
theorem Added.len {ks ks' : List K} {k : K} (h : Added ks k ks') : ks'.length ≤ ks.length + 1 := by
  rcases h with ⟨a, rfl⟩ | ⟨_, p⟩
  · exact Nat.le_succ _
  · rw [← p.length_eq, List.length_append]; exact Nat.le_refl _
theorem add_setW {a : Addr} {ks : List K} {k : K} {x : Value} {Q : Bool → Shared → Prop} (hkey : knd.is k x = true) (hsc : x.scannable = true) (hS : SetW knd s.heap a ks) (hroom : ks.length + 1 < scanBound)
    (h : ∀ b h' ks', Heap.SameBut a s.heap h' → SetW knd h' a ks' → Added ks k ks' → Q b { s with heap := h' }) :
    wpAny (model prog w) A (setAddHashed a x (knd.hash k)) Q E s := by
  obtain ⟨o, es, ep, t, ho, hex, hd, hel, hpr, hnd, hb, hf, ht⟩ := hS
  have hmem := key_in (knd := knd) hpr
  have hlen : ks.length = es.size := by rw [paired_len hpr]; simp
  have hb1 : es.size + 1 < scanBound := by omega
  unfold setAddHashed setAddHashedIn
  refine wpAny_holding (wpAny_bind (wpAny_setState_of ho hd hf ?_))
  dsimp only
  rw [byScan_of hsc hb hel]
  simp only [↓reduceIte]
  unfold setAddByScan
  refine wpAny_bind ?_
  refine wpAny_bind (wpAny_rule ?_)
  refine wpAny_bind (wpAny_setScan_of hkey ho hd hf hel ?_)
  cases hr : List.findIdx? (fun e => knd.is k e.2) es.toList with
  | some j =>
    dsimp only
    obtain ⟨hj, hpj, _⟩ := List.findIdx?_eq_some_iff_getElem.mp hr
    have hSk : k ∈ ks := (hmem k).mpr ⟨es.toList[j], List.getElem_mem hj, hpj⟩
    refine wpAny_pure (wpAny_pure ?_)
    have e : s = { s with heap := s.heap } := by cases s; rfl
    rw [e]
    exact h _ s.heap ks (Heap.SameBut.refl a s.heap) ⟨o, es, ep, t, ho, hex, hd, hel, hpr, hnd, hb, hf, ht⟩ (.inl ⟨hSk, rfl⟩)
  | none =>
    dsimp only
    have hSk : k ∉ ks := by
      intro hk
      obtain ⟨e, he, hp⟩ := (hmem k).mp hk
      have := List.findIdx?_eq_none_iff.mp hr e he; rw [hp] at this; exact Bool.noConfusion this
    have hgw : ∀ (b : Bool) {s₁ : Shared} {Q' : Unit → Shared → Prop}, Q' () s₁ → wpAny (model prog w) A (match b with | true => rule "set.scan.the-table-gave-way" | false => pure ()) Q' E s₁ :=
      fun b s₁ Q' hq => by cases b <;> first | exact wpAny_pure hq | exact wpAny_rule hq
    have hperm := layNew_perm t es (knd.hash k) x
    have hfits := layNew_fits t es (knd.hash k) x
    have htab := ht.layNew es (knd.hash k) x
    generalize hL : layNew t es (knd.hash k) x = L at hperm hfits htab ⊢
    obtain ⟨es1, t1, wasDummy, gave⟩ := L
    dsimp only at hperm hfits htab ⊢
    rw [Array.toList_push] at hperm
    have hel1 : ElemsOf knd es1.toList := (hel.push hkey hsc).perm hperm
    obtain ⟨ks1, pk, hp1⟩ := paired_perm hperm.symm (paired_append hpr (a := k) (b := (knd.hash k, x)) hkey)
    have hn1 : ks1.Nodup := pk.nodup_iff.mp (by
      rw [List.nodup_append]
      exact ⟨hnd, by simp, fun a ha b hb e => by simp at hb; subst hb; subst e; exact hSk ha⟩)
    have hb1' : es1.size < scanBound := by rw [← Array.length_toList, hperm.length_eq, List.length_append, Array.length_toList]; simpa using hb1
    refine wpAny_bind (hgw _ ?_)
    have hend : ∀ h' ks', Heap.SameBut a s.heap h' → ks1.Perm ks' → SetW knd h' a ks' → Q true { s with heap := h' } := by
      intro h' ks' hsb p hS'; exact h true h' ks' hsb hS' (.inr ⟨hSk, pk.trans p⟩)
    split
    · refine wpAny_bind ?_
      rw [hashByValue_scannable 8 hsc]
      refine wpAny_pure ?_
      refine tail_setW ?_ ho hex hd hel1 hp1 hn1 hb1' ?_ ?_ ?_
      · intro b s₁ Q' hq; cases b <;> first | exact wpAny_pure hq | exact wpAny_rule hq
      · split
        · exact hfits
        · exact SetTable.fits_plain_off hfits
      · split
        · exact htab
        · exact htab.unplain
      · intro h' ks' hsb p hS'; dsimp only; exact wpAny_pure (hend h' ks' hsb p hS')
    · refine wpAny_bind (wpAny_pure ?_)
      simp only [↓reduceIte]
      refine tail_setW ?_ ho hex hd hel1 hp1 hn1 hb1' hfits htab ?_
      · intro b s₁ Q' hq; cases b <;> first | exact wpAny_pure hq | exact wpAny_rule hq
      · intro h' ks' hsb p hS'; dsimp only; exact wpAny_pure (hend h' ks' hsb p hS')
end
end L2
namespace L2
open PySem PySem.Spec PyProof.Rows
section
variable {prog : Program} {w : World} {K : Type} [DecidableEq K] {knd : KeyKind prog w K}
/-- ks: the keys of the first i -/
def Dedup (val : Nat → K) (i : Nat) (ks : List K) : Prop := (∀ k, k ∈ ks ↔ ∃ j, j < i ∧ val j = k) ∧ ks.length ≤ i
theorem dedup_zero (val : Nat → K) : Dedup val 0 [] := ⟨fun k => ⟨(fun h => nomatch h), fun ⟨j, hj, _⟩ => absurd hj (Nat.not_lt_zero _)⟩, Nat.le_refl _⟩
theorem Dedup.add {val : Nat → K} {i : Nat} {ks ks' : List K} (h : Dedup val i ks) (a : Added ks (val i) ks') : Dedup val (i + 1) ks' := by
  refine ⟨fun k => ?_, Nat.le_trans a.len (Nat.succ_le_succ h.2)⟩
  rw [a.mem, h.1]
  constructor
  · rintro (⟨j, hj, e⟩ | rfl)
    · exact ⟨j, Nat.lt_succ_of_lt hj, e⟩
    · exact ⟨i, Nat.lt_succ_self _, rfl⟩
  · rintro ⟨j, hj, e⟩
    rcases Nat.lt_succ_iff_lt_or_eq.mp hj with hj | rfl
    · exact .inl ⟨j, hj, e⟩
    · exact .inr e.symm
variable {A : Around} {R : Result → Shared → Prop} {I : Addr} {fp wr : List Addr} {G : Array GenState → Array GenState → Prop} {n : Nat} {P : Nat → Value → Prop} {St : Nat → Shared → Prop}
theorem set_update_loop (W : WalksS prog w A.in1 I fp wr G n P St) (S : Addr) (hSf : S ∉ fp)
    (val : Nat → K) (hval : ∀ i v, P i v → knd.is (val i) v = true ∧ v.scannable = true) (hb : n + 1 < scanBound) :
    ∀ (k i : Nat) (s : Shared) (ks : List K), n - i = k → i ≤ n → St i s → SetW knd s.heap S ks → Dedup val i ks →
      (∀ s' ks', Moved (S :: wr) G s s' → SetW knd s'.heap S ks' → Dedup val n ks' → R (.ok (.ret .none)) s') →
      codeAny (model prog w) A (.builtin "set.update.loop" ⟨[.ref S, .ref I], []⟩) R s := by
  have hSw : S ∉ wr := fun h => hSf (W.sub _ h)
  have hsub : ∀ b ∈ wr, b ∈ S :: wr := fun b hb => List.mem_cons_of_mem _ hb
  intro k
  induction k with
  | zero =>
    intro i s ks hk hi hst hS hD hR
    have hin : i = n := by omega
    subst hin
    refine codeAny_builtin F.entry_set_update_loop ?_
    rw [Around.under_plainId F.plain_set_update_loop _]
    show wpAny _ A.in1 (pyNext (.ref I) >>= _) _ _ s
    refine wpAny_bind (W.done s _ _ hst fun s' hm => ?_)
    show wpAny _ A.in1 (ret Value.none) _ _ s'
    exact wpAny_pure (hR s' ks (hm.mono hsub) (hS.at' fun o e => hm.heap S _ hSw e) hD)
  | succ k ih =>
    intro i s ks hk hi hst hS hD hR
    have hlt : i < n := by omega
    refine codeAny_builtin F.entry_set_update_loop ?_
    rw [Around.under_plainId F.plain_set_update_loop _]
    show wpAny _ A.in1 (pyNext (.ref I) >>= _) _ _ s
    refine wpAny_bind (W.item i s _ _ hlt hst fun v s' hP hst' hm => ?_)
    obtain ⟨hkv, hsc⟩ := hval i v hP
    have hS' : SetW knd s'.heap S ks := hS.at' fun o e => hm.heap S _ hSw e
    show wpAny _ A.in1 (holding [v] (setAdd S v) >>= _) _ _ s'
    refine wpAny_bind (wpAny_holding ?_)
    unfold setAdd
    refine wpAny_holding ?_
    refine wpAny_bind (knd.pyHash (k := val i) hkv ?_)
    have hroom : ks.length + 1 < scanBound := by have := hD.2; omega
    refine add_setW (knd := knd) (s := { s' with toks := s'.toks + 1 }) hkv hsc hS' hroom fun b h' ks' hsb hS2 ha => ?_
    refine wpAny_pure ⟨plainId_quiet F.plain_set_update_loop _, ih (i + 1) _ ks' (by omega) hlt (W.frame _ s' _ _ hst' (Nat.le_succ _) fun b hb o e => ?_) hS2 (hD.add ha) fun s'' ks'' hm'' hS'' hD'' => ?_⟩
    · rw [hsb.2 b (fun h : b = S => hSf (by rw [← h]; exact hb))]; exact e
    · refine hR s'' ks'' (Moved.trans W.gtrans ((hm.mono hsub).then_heap (Nat.le_succ _) fun b o hb e => ?_) hm'') hS'' hD''
      rw [hsb.2 b (fun h : b = S => hb (by rw [h]; exact List.mem_cons_self))]; exact e
variable {E : Value → Shared → Prop} {s : Shared}
theorem set_new_1 (a : Value) {Q₁ : Value → Shared → Prop}
    (h : Q₁ (.ref s.heap.objs.size) { s with heap := s.heap.push { cls := .type "set", dict := none, data := .set #[] 0 (.fresh 0 0 (!w.params.followText "set-order")) } }) :
    codeAny (model prog w) A (.call (.builtin "set.__new__") ⟨[.type "set", a], []⟩) (wants Q₁ E) s := by
  refine codeAny_of_tree ?_
  show wpAny _ A.in1 (do checkBuiltinCall "set.__new__" ⟨[.type "set", a], []⟩; again (.builtin "set.__new__" ⟨[.type "set", a], []⟩)) _ _ s
  refine wpAny_bind (wpAny_of_eq (PySem.F.newCall_set_1 a) (wpAny_pure ⟨plainId_quiet PySem.F.plain_set_new _, codeAny_builtin PySem.F.entry_set_new ?_⟩))
  rw [Around.under_plainId PySem.F.plain_set_new _]
  unfold Builtin.«set.__new__» Builtin.Frozenset.newClass
  have hsub := sub_set_self
  obtain ⟨hp, g, d, tk, os⟩ := s
  dsimp only
  wp_walk
  refine wpAny_askSetting (wpAny_pure ?_)
  dsimp only
  simp only [newObj]
  refine wpAny_bind (wpAny_alloc (wpAny_pure ?_))
  exact wpAny_pure h
theorem setW_fresh {h : Heap} : SetW knd (h.push { cls := .type "set", dict := none, data := .set #[] 0 (.fresh 0 0 (!w.params.followText "set-order")) }) h.objs.size [] :=
  ⟨_, #[], 0, _, Heap.get?_push_size _ rfl, ⟨rfl, rfl, rfl⟩, rfl, fun e he => by simp at he, .nil, List.nodup_nil, by decide, by rfl, ⟨rfl, by simp [Rise, SetTable.fresh], rfl⟩⟩
set_option maxHeartbeats 3200000 in
theorem call_set_keys {l : Addr} {items : Array Value} {val : Nat → K} {Q : Value → Shared → Prop}
    (hh : A.handled = none) (hl : s.heap.IsList l items) (hi : ∀ i v, items[i]? = some v → knd.is (val i) v = true ∧ v.scannable = true) (hb : items.size + 1 < scanBound)
    (h : ∀ (h' : Heap) (tk : Nat) (ks : List K), SetW knd h' s.heap.objs.size ks → Dedup val items.size ks →
      (∀ b o, b < s.heap.objs.size → s.heap.get? b = some o → h'.get? b = some o) → Q (.ref s.heap.objs.size) { s with heap := h', toks := tk }) :
    wpAny (model prog w) A (call (.type "set") [.ref l]) Q E s := by
  obtain ⟨c, tl, hmro⟩ := PySem.F.called_set.mro
  have hmade := PySem.F.called_set.made
  have hsub := PySem.F.called_set.sub
  refine wpAny_call (codeAny_of_tree ?_)
  show wpAny _ _ (callAny (.type "set") _) _ _ _
  refine wpAny_pure ⟨Code.quiet_builtin _ (by decide +kernel), codeAny_builtin PySem.F.entry_type_call ?_⟩
  rw [Around.under_plain (weight_type_call_type "set" [.ref l] []) rfl]
  have h1 := PySem.F.called_set.notType
  have h2 := PySem.F.called_set.canCreate
  have hct := PySem.F.typeCall_set_1 (.ref l)
  repeat (any_goals (first | assumption | wp_step))
  refine codeAny_mono (set_new_1 (.ref l) (E := E) (Q₁ := fun obj s₁ => obj = .ref s.heap.objs.size ∧ s₁ = { s with heap := s.heap.push { cls := .type "set", dict := none, data := .set #[] 0 (.fresh 0 0 (!w.params.followText "set-order")) } }) ⟨rfl, rfl⟩) fun r s₁ hr => ?_
  cases r with
  | error e => exact hr
  | ok fl =>
    cases fl with
    | ret obj =>
      obtain ⟨rfl, rfl⟩ := hr
      generalize hled : (!w.params.followText "set-order") = led at *
      have hS : (s.heap.push { cls := .type "set", dict := none, data := .set #[] 0 (.fresh 0 0 led) }).get? s.heap.objs.size = some { cls := .type "set", dict := none, data := .set #[] 0 (.fresh 0 0 led) } := Heap.get?_push_size _ rfl
      have hT : Shared.TypeIs { s with heap := s.heap.push { cls := .type "set", dict := none, data := .set #[] 0 (.fresh 0 0 led) } } (.ref s.heap.objs.size) "set" := ⟨_, hS, rfl⟩
      have hli := PySem.F.called_set.init.lookup
      have hbi := PySem.F.called_set.init.bind (.ref s.heap.objs.size)
      repeat (any_goals (first | assumption | wp_step))
      refine codeAny_mono (codeAny_call_builtin (R := wants (fun r s₂ => r = .none ∧ ∃ h' tk ks, s₂ = { s with heap := h', toks := tk } ∧
          SetW knd h' s.heap.objs.size ks ∧ Dedup val items.size ks ∧
          (∀ b o, b < s.heap.objs.size → s.heap.get? b = some o → h'.get? b = some o)) E) PySem.F.called_set.init.plain PySem.F.entry_set_init (check_set_init_1 hT ?_)) fun r₂ s₂ hr₂ => ?_
      · obtain ⟨ol, hol, hcl, nl, hdl⟩ := hl
        obtain ⟨ocls, odict, odata, oslots⟩ := ol
        simp only at hcl hdl
        subst hcl; subst hdl
        have hol' : (s.heap.push { cls := .type "set", dict := none, data := .set #[] 0 (.fresh 0 0 led) }).get? l = some { cls := .type "list", dict := odict, data := .seq items nl, slots := oslots } := Heap.get?_push_of_some _ hol
        have hsls := PySem.F.sub_list_set
        have hslf := PySem.F.sub_list_frozenset
        have hne : (Value.type "list" == Value.type "dict") = false := by decide
        have hl1 : (s.heap.push { cls := .type "set", dict := none, data := .set #[] 0 (.fresh 0 0 led) }).IsList l items := ⟨_, hol', rfl, nl, rfl⟩
        unfold Builtin.«set.__init__» noKeywords Builtin.Frozenset.updateFrom
        generalize hPI : pyIter = PI
        wp_walk
        subst hPI
        refine wpAny_pyIter_list hl1 ?_
        refine wpAny_bind (wpAny_runValue ?_)
        have hlS : l < s.heap.objs.size := Heap.lt_size hol
        have hh3 : A.in1.in1.in1.handled = none := by simp [hh]
        have hneI : l ≠ (s.heap.push { cls := .type "set", dict := none, data := .set #[] 0 (.fresh 0 0 led) }).objs.size := by
          rw [Heap.size_push]; exact Nat.ne_of_lt (Nat.lt_succ_of_lt hlS)
        have hSf : s.heap.objs.size ∉ [(s.heap.push { cls := .type "set", dict := none, data := .set #[] 0 (.fresh 0 0 led) }).objs.size, l] := by
          rw [Heap.size_push]; simp only [List.mem_cons, List.mem_singleton, List.not_mem_nil, or_false, not_or]
          exact ⟨Nat.ne_of_lt (Nat.lt_succ_self _), Nat.ne_of_gt hlS⟩
        refine set_update_loop (knd := knd) ((Walks.list hh3 _ l hneI items).toS) s.heap.objs.size
          hSf val hi hb (items.size - 0) 0 _ [] (by omega) (Nat.zero_le _)
          ⟨⟨_, Heap.get?_push_size _ rfl, rfl, rfl⟩, (hl1.push _)⟩ ?hS0 (dedup_zero val) ?hR
        case hS0 =>
          refine SetW.at' (h := s.heap.push { cls := .type "set", dict := none, data := .set #[] 0 (.fresh 0 0 led) }) (hled ▸ setW_fresh) fun o e => Heap.get?_push_of_some _ e
        case hR =>
          intro s' ks' hm hS' hD'
          obtain ⟨h', g', d', tk', os'⟩ := s'
          have eg : g' = s.gens := hm.gens
          have ed : d' = s.drawn := hm.drawn
          have eo : os' = s.os := hm.os
          subst eg; subst ed; subst eo
          show wpAny _ _ _ _ _ _
          refine wpAny_pure ?_
          show wpAny _ _ (ret Value.none) _ _ _
          refine wpAny_pure ⟨rfl, h', tk', ks', rfl, hS', hD', fun b o hb e => ?_⟩
          have hb1 : b ≠ s.heap.objs.size := Nat.ne_of_lt hb
          have hb2 : b ≠ (s.heap.push { cls := .type "set", dict := none, data := .set #[] 0 (.fresh 0 0 led) }).objs.size := by
            rw [Heap.size_push]; exact Nat.ne_of_lt (Nat.lt_succ_of_lt hb)
          exact hm.heap b o (by simp only [List.mem_cons, List.mem_singleton, List.not_mem_nil, or_false, not_or]; exact ⟨hb1, hb2⟩) (Heap.get?_push_of_some _ (Heap.get?_push_of_some _ e))
      · cases r₂ with
        | error e => exact hr₂
        | ok fl₂ =>
          cases fl₂ with
          | ret r =>
            obtain ⟨rfl, h', tk, ks, rfl, hS', hD', hk'⟩ := hr₂
            repeat (any_goals (first | assumption | wp_step))
            exact h _ _ _ hS' hD' hk'
          | _ => exact hr₂.elim
    | _ => exact hr.elim
end
end L2
namespace L2
open PySem PySem.Spec PyProof.Rows
theorem slot_setit_next : Slot "set_iterator" "__next__" "set_iterator.__next__" :=
  .of (owner := "set_iterator") (n := "__next__") (by rw [typeLookup_type, builtinLookup_eq_fast]; kernel_rfl) (by decide +kernel) (by decide +kernel) (by decide +kernel)
    (by first | exact .inl (by decide +kernel) | exact .inr (by decide +kernel)) (by rw [isSubtype_type]; kernel_rfl)
theorem entry_setit_next : entryFor table "set_iterator.__next__" = some Builtin.«set_iterator.__next__» := entryFor_of_tree (by kernel_rfl)
theorem owner_setit : Manifest.owners.lookup (String.ofList ['r', 'o', 't', 'a', 'r', 'e', 't', 'i', '_', 't', 'e', 's'].reverse) = some Manifest.sig_set_iterator := by kernel_rfl
theorem args_setit_next (a : Value) : argsOk "set_iterator.__next__" ⟨[a], []⟩ := by
  unfold argsOk; rw [signature?_of (id := "set_iterator.__next__") (n := ['_', '_', 't', 'x', 'e', 'n', '_', '_']) (o := ['r', 'o', 't', 'a', 'r', 'e', 't', 'i', '_', 't', 'e', 's']) (by kernel_rfl) owner_setit]; kernel_rfl
theorem slot_setit_iter : Slot "set_iterator" "__iter__" "set_iterator.__iter__" :=
  .of (owner := "set_iterator") (n := "__iter__") (by rw [typeLookup_type, builtinLookup_eq_fast]; kernel_rfl) (by decide +kernel) (by decide +kernel) (by decide +kernel)
    (by first | exact .inl (by decide +kernel) | exact .inr (by decide +kernel)) (by rw [isSubtype_type]; kernel_rfl)
theorem entry_setit_iter : entryFor table "set_iterator.__iter__" = some Builtin.«dict_keyiterator.__iter__» := entryFor_alias (id' := "dict_keyiterator.__iter__") (by kernel_rfl) rfl (by decide +kernel) (by kernel_rfl)
theorem args_setit_iter (a : Value) : argsOk "set_iterator.__iter__" ⟨[a], []⟩ := by
  unfold argsOk; rw [signature?_of (id := "set_iterator.__iter__") (n := ['_', '_', 'r', 'e', 't', 'i', '_', '_']) (o := ['r', 'o', 't', 'a', 'r', 'e', 't', 'i', '_', 't', 'e', 's']) (by kernel_rfl) owner_setit]; kernel_rfl
theorem entry_set_iter' : entryFor table "set.__iter__" = some Builtin.«frozenset.__iter__» := entryFor_alias (id' := "frozenset.__iter__") (by kernel_rfl) rfl (by decide +kernel) (by kernel_rfl)
theorem erase_perm {α : Type} : ∀ {l : List α} {i : Nat} (h : i < l.length), (l[i] :: l.eraseIdx i).Perm l
  | a :: r, 0, _ => .refl _
  | a :: r, i + 1, h => by
    have ih := erase_perm (l := r) (i := i) (by simpa using h)
    have h2 : ((a :: r)[i + 1] :: (a :: r).eraseIdx (i + 1)) = r[i]'(by simpa using h) :: a :: r.eraseIdx i := rfl
    rw [h2]
    exact (List.Perm.swap _ _ _).trans (ih.cons a)
theorem pick_go {α : Type} (next : Nat → Nat) : ∀ (fuel k : Nat) (left : List α) (out : Array α), left.length ≤ fuel → ∃ l : List α, (pickOrder.go next fuel k left out).toList = out.toList ++ l ∧ l.Perm left
  | 0, k, left, out, h => by
    have : left = [] := List.eq_nil_of_length_eq_zero (by omega)
    subst this
    exact ⟨[], by simp [pickOrder.go], .refl _⟩
  | fuel + 1, k, [], out, h => ⟨[], by simp [pickOrder.go], .refl _⟩
  | fuel + 1, k, a :: r, out, h => by
    unfold pickOrder.go
    have hlt : next k % (a :: r).length < (a :: r).length := Nat.mod_lt _ (by simp)
    rw [List.getElem?_eq_getElem hlt]
    dsimp only
    obtain ⟨l, e, p⟩ := pick_go next fuel (k + 1) ((a :: r).eraseIdx (next k % (a :: r).length)) (out.push (a :: r)[next k % (a :: r).length]) (by rw [List.length_eraseIdx_of_lt hlt]; simp at h ⊢; omega)
    refine ⟨(a :: r)[next k % (a :: r).length] :: l, by rw [e]; simp, ?_⟩
    exact (p.cons _).trans (erase_perm hlt)
theorem pick_perm {α : Type} (next : Nat → Nat) (xs : Array α) : (pickOrder next xs).toList.Perm xs.toList := by
  obtain ⟨l, e, p⟩ := pick_go next xs.size 0 xs.toList #[] (by simp)
  unfold pickOrder
  rw [e]
  simpa using p
theorem wpAny_choose {M : Model} {A : Around} {E : Value → Shared → Prop} {s : Shared} {src : Source} {n : Nat} {Q : Nat → Shared → Prop} (hn : n ≠ 0) (h : ∀ i d, i < n → Q i { s with drawn := d }) : wpAny M A (choose src n) Q E s := fun _ _ _ =>
  ⟨hn, h _ _ (Nat.mod_lt _ (Nat.pos_of_ne_zero hn))⟩
theorem wpAny_drawOrder {α : Type} {M : Model} {A : Around} {E : Value → Shared → Prop} : ∀ (n : Nat) (xs : List α) {s : Shared} {Q : List α → Shared → Prop}, xs.length ≤ n → (∀ l d, l.Perm xs → Q l { s with drawn := d }) → wpAny M A (drawOrder n xs) Q E s
  | 0, xs, s, Q, hl, h => by
    have : xs = [] := List.eq_nil_of_length_eq_zero (by omega)
    subst this
    have e : s = { s with drawn := s.drawn } := by cases s; rfl
    unfold drawOrder
    rw [e]
    exact wpAny_pure (h [] _ (.refl _))
  | n + 1, [], s, Q, hl, h => by
    have e : s = { s with drawn := s.drawn } := by cases s; rfl
    unfold drawOrder
    rw [e]
    exact wpAny_pure (h [] _ (.refl _))
  | n + 1, a :: r, s, Q, hl, h => by
    unfold drawOrder
    refine wpAny_bind (wpAny_choose (by simp) fun i d hi => ?_)
    rw [List.getElem?_eq_getElem hi]
    dsimp only
    refine wpAny_bind (wpAny_drawOrder n _ (by rw [List.length_eraseIdx_of_lt hi]; simp at hl ⊢; omega) fun l d' p => wpAny_pure ?_)
    exact h _ _ ((p.cons _).trans (erase_perm hi))
/-- an iterator over the set at a, which walks vs, at place i; tp: the drawn places -/
structure SetIt (w : World) (h : Heap) (it a tp : Addr) (vs : List Value) (i : Nat) : Prop where
  it : ∃ (o : Obj) (es : Array (Int × Value)) (ep : Nat) (t : SetTable) (first : Value) (oi : Obj), h.get? a = some o ∧ o.data = .set es ep t ∧ t.fits es.size = true ∧ TabOk (!w.params.followText "set-order") t ∧ vs.length = es.size ∧
    h.get? it = some oi ∧ oi.cls = .type "set_iterator" ∧ oi.data = .fields #[first, rawInt (i : Int), .ref a, rawInt (es.size : Int), rawInt (ep : Int)] ∧
    ((w.params.followText "set-order" = true ∧ first = rawInt 0 ∧ vs = (pickOrder (w.params.setOrder a ep) es).toList.map (·.2)) ∨
     (w.params.followText "set-order" = false ∧ ∃ (ps : List Nat) (ot : Obj), first = .ref tp ∧ h.get? tp = some ot ∧ ot.data = .seq (ps.map fun (p : Nat) => rawInt (p : Int)).toArray 0 ∧ Paired (fun (p : Nat) (v : Value) => (es[p]?).map (·.2) = some v) ps vs) ∨
     (w.params.followText "set-order" = false ∧ (!t.plain && decide (es.size > 1)) = false ∧ ∃ slot : Nat, first = rawInt (slot : Int) ∧ SetTable.below t.place slot = i ∧ vs = es.toList.map (·.2)))
theorem SetIt.typeIs {w : World} {s : Shared} {it a tp : Addr} {vs : List Value} {i : Nat} (x : SetIt w s.heap it a tp vs i) : s.TypeIs (.ref it) "set_iterator" := by
  obtain ⟨_, _, _, _, _, oi, _, _, _, _, _, h, c, _⟩ := x
  exact ⟨oi, h, c⟩
theorem SetIt.frame {w : World} {h h' : Heap} {it a tp : Addr} {vs : List Value} {i : Nat} (x : SetIt w h it a tp vs i) (k : ∀ b, b = it ∨ b = a ∨ b = tp → ∀ o, h.get? b = some o → h'.get? b = some o) : SetIt w h' it a tp vs i := by
  obtain ⟨o, es, ep, t, first, oi, h1, h2, h3, h4, h5, h6, h7, h8, h9⟩ := x
  refine ⟨o, es, ep, t, first, oi, k a (.inr (.inl rfl)) _ h1, h2, h3, h4, h5, k it (.inl rfl) _ h6, h7, h8, ?_⟩
  rcases h9 with z | ⟨z, ps, ot, z1, z2, z3⟩ | z
  · exact .inl z
  · exact .inr (.inl ⟨z, ps, ot, z1, k tp (.inr (.inr rfl)) _ z2, z3⟩)
  · exact .inr (.inr z)
section
variable {prog : Program} {w : World} {A : Around} {E : Value → Shared → Prop} {s : Shared}
theorem get_mapFields {h : Heap} {a : Addr} {o : Obj} {vs : Array Value} {i : Nat} {x : Value} (ho : h.get? a = some o) (hd : o.data = .fields vs) : ∃ o', (h.update a (Obj.mapFields (·.setIfInBounds i x))).get? a = some o' ∧ o'.cls = o.cls ∧ o'.data = .fields (vs.setIfInBounds i x) :=
  ⟨_, Heap.get?_update_self _ ho (Obj.isFreed_of_fields (Obj.data_mapFields hd _)), Obj.cls_mapFields .., Obj.data_mapFields hd _⟩
theorem paired_get {α β : Type} {R : α → β → Prop} : ∀ {xs : List α} {ys : List β}, Paired R xs ys → ∀ {i : Nat} {y : β}, ys[i]? = some y → ∃ x, xs[i]? = some x ∧ R x y
  | _, _, .nil, i, x, e => by simp at e
  | _, _, .cons r t, 0, x, e => by simp at e; subst e; exact ⟨_, rfl, r⟩
  | _, _, .cons r t, i + 1, x, e => by
    obtain ⟨y, h1, h2⟩ := paired_get t (i := i) (y := x) (by simpa using e)
    exact ⟨y, by simpa using h1, h2⟩
theorem setit_item {it a tp : Addr} {vs : List Value} {i : Nat} {x : Value} {Q : Option Value → Shared → Prop} (hne : a ≠ it) (hnt : tp ≠ it) (hit : SetIt w s.heap it a tp vs i) (hx : vs[i]? = some x)
    (hQ : ∀ h', SetIt w h' it a tp vs (i + 1) → Heap.SameBut it s.heap h' → Q (some x) { s with heap := h' }) : wpAny (model prog w) A (pyNext (.ref it)) Q E s := by
  have hT := hit.typeIs
  obtain ⟨o, es, ep, t, first, oi, h1, h2, h3, h4, h5, h6, h7, h8, h9⟩ := hit
  have hi : i < es.size := by
    rw [← h5]
    exact (List.getElem?_eq_some_iff.mp hx).1
  unfold pyNext
  refine wpAny_bind (wpAny_attempt (wpAny_callSpecial?_slot (name := Str.ofString "__next__") hT slot_setit_next
    (wpAny_call_entry slot_setit_next hT entry_setit_next ?_ (args_setit_next _))))
  unfold Builtin.«set_iterator.__next__»
  refine wpAny_bind (wpAny_pure ?_)
  dsimp only
  refine wpAny_bind (wpAny_fieldsOf h6 h8 ?_)
  show wpAny _ _ (setEntries a >>= _) _ _ s
  refine wpAny_bind (wpAny_setEntries_of h1 h2 h3 ?_)
  rw [if_neg (by simp)]
  have sb : ∀ (h' : Heap) (b : Addr) (o : Obj), Heap.SameBut it s.heap h' → b ≠ it → s.heap.get? b = some o → h'.get? b = some o := fun h' b o z hb e => (z.2 b hb).trans e
  rcases h9 with ⟨z1, rfl, rfl⟩ | ⟨z1, ps, ot, rfl, z3, z4, z5⟩ | ⟨z1, zd, slot, rfl, z3, rfl⟩
  · show wpAny _ _ (setNext a (0 : Int).toNat ((i : Int)).toNat ((ep : Int)).toNat >>= _) _ _ s
    refine wpAny_bind ?_
    unfold setNext
    refine wpAny_bind (wpAny_setState_of h1 h2 h3 ?_)
    dsimp only
    unfold setsByText
    refine wpAny_bind (wpAny_bind (wpAny_askSetting (wpAny_pure ?_)))
    show wpAny _ _ (if w.params.followText "set-order" = true then _ else _) _ _ s
    rw [if_pos z1]
    rw [if_neg (by simp)]
    refine wpAny_bind ?_
    unfold setWalk
    refine wpAny_bind (wpAny_setState_of h1 h2 h3 ?_)
    dsimp only
    unfold setsByText
    refine wpAny_bind (wpAny_bind (wpAny_askSetting (wpAny_pure ?_)))
    show wpAny _ _ (if w.params.followText "set-order" = true then _ else _) _ _ s
    rw [if_pos z1]
    refine wpAny_bind (wpAny_askSetting (wpAny_pure ?_))
    refine wpAny_pure ?_
    have ex : ((pickOrder (w.params.setOrder a ep) es)[((i : Int)).toNat]?).map (fun e => (e.2, (0 : Int).toNat)) = some (x, 0) := by
      rw [List.getElem?_map] at hx
      rw [Int.toNat_natCast, ← Array.getElem?_toList]
      cases e : (pickOrder (w.params.setOrder a ep) es).toList[i]? with
      | none => rw [e] at hx; cases hx
      | some y => rw [e] at hx; simp at hx; subst hx; rfl
    show wpAny _ _ (match ((pickOrder (w.params.setOrder a ep) es)[((i : Int)).toNat]?).map (fun e => (e.2, (0 : Int).toNat)) with | some (x, next) => _ | none => _) _ _ s
    rw [ex]
    dsimp only
    refine wpAny_bind (wpAny_setField h6 h8 (by simp) ?_)
    obtain ⟨o1, g1, c1, d1⟩ := get_mapFields (i := 0) (x := rawInt ((0 : Nat) : Int)) h6 h8
    refine wpAny_bind (wpAny_setField (s := { s with heap := _ }) g1 d1 (by simp) ?_)
    obtain ⟨o2, g2, c2, d2⟩ := get_mapFields (i := 1) (x := rawInt ((i : Int) + 1)) g1 d1
    have S := (Heap.SameBut.update s.heap it (Obj.mapFields (·.setIfInBounds 0 (rawInt ((0 : Nat) : Int))))).trans (Heap.SameBut.update _ it (Obj.mapFields (·.setIfInBounds 1 (rawInt ((i : Int) + 1)))))
    refine wpAny_pure ⟨x, rfl, wpAny_pure (hQ _ ?_ S)⟩
    exact ⟨o, es, ep, t, rawInt 0, o2, sb _ _ _ S hne h1, h2, h3, h4, h5, g2, c2.trans (c1.trans h7), by rw [d2]; simp, .inl ⟨z1, rfl, rfl⟩⟩
  · obtain ⟨p, hp, hv⟩ := paired_get z5 hx
    show wpAny _ _ (seqItems? (.ref tp) >>= _) _ _ s
    refine wpAny_bind (wpAny_seqItems z3 z4 ?_)
    dsimp only
    have ex : (ps.map fun (p : Nat) => rawInt (p : Int)).toArray[((i : Int)).toNat]? = some (.int (p : Int) 0) := by
      rw [Int.toNat_natCast]
      simp [hp, rawInt]
    show wpAny _ _ (match (ps.map fun (p : Nat) => rawInt (p : Int)).toArray[((i : Int)).toNat]? with | some (.int place _) => _ | some _ => _ | none => _) _ _ s
    rw [ex]
    dsimp only
    refine wpAny_bind ?_
    unfold setNextDrawn
    refine wpAny_bind (wpAny_setState_of h1 h2 h3 ?_)
    dsimp only
    rw [if_neg (by simp)]
    cases e : es[p]? with
    | none => rw [e] at hv; cases hv
    | some y =>
      rw [e] at hv
      have hv' : y.2 = x := Option.some.inj hv
      subst hv'
      rw [Int.toNat_natCast, e]
      refine wpAny_pure ?_
      refine wpAny_bind (wpAny_setField h6 h8 (by simp) ?_)
      obtain ⟨o2, g2, c2, d2⟩ := get_mapFields (i := 1) (x := rawInt ((i : Int) + 1)) h6 h8
      have S := Heap.SameBut.update s.heap it (Obj.mapFields (·.setIfInBounds 1 (rawInt ((i : Int) + 1))))
      refine wpAny_pure ⟨y.2, rfl, wpAny_pure (hQ _ ?_ S)⟩
      exact ⟨o, es, ep, t, .ref tp, o2, sb _ _ _ S hne h1, h2, h3, h4, h5, g2, c2.trans h7, by rw [d2]; simp, .inr (.inl ⟨z1, ps, ot, rfl, sb _ _ _ S hnt z3, z4, z5⟩)⟩
  · show wpAny _ _ (setNext a ((slot : Int)).toNat ((i : Int)).toNat ((ep : Int)).toNat >>= _) _ _ s
    refine wpAny_bind ?_
    unfold setNext
    refine wpAny_bind (wpAny_setState_of h1 h2 h3 ?_)
    dsimp only
    unfold setsByText
    refine wpAny_bind (wpAny_bind (wpAny_askSetting (wpAny_pure ?_)))
    show wpAny _ _ (if w.params.followText "set-order" = true then _ else _) _ _ s
    rw [if_neg (by rw [z1]; exact Bool.false_ne_true)]
    show wpAny _ _ (if (!t.plain && decide (es.size > 1)) = true then _ else _) _ _ s
    rw [if_neg (by rw [zd]; exact Bool.false_ne_true)]
    have hled : t.led = true := by rw [h4.led, z1]; rfl
    show wpAny _ _ ((if (!t.led && !es.isEmpty) = true then _ else _) >>= _) _ _ s
    rw [if_neg (by rw [hled]; simp)]
    refine wpAny_bind (wpAny_pure ?_)
    refine wpAny_pure ?_
    have hps : t.place.size = es.size := by
      simp only [SetTable.fits, Bool.and_eq_true, beq_iff_eq] at h3
      exact h3.1
    have hx' : es[i].2 = x := by
      rw [List.getElem?_map] at hx
      have e : es.toList[i]? = some es[i] := by rw [Array.getElem?_toList, Array.getElem?_eq_getElem hi]
      rw [e] at hx
      exact Option.some.inj hx
    rw [Int.toNat_natCast, z3, Array.getElem?_eq_getElem hi, Array.getElem?_eq_getElem (by omega : i < t.place.size)]
    dsimp only
    refine wpAny_bind (wpAny_setField h6 h8 (by simp) ?_)
    obtain ⟨o1, g1, c1, d1⟩ := get_mapFields (i := 0) (x := rawInt ((t.place[i]'(by omega) + 1 : Nat) : Int)) h6 h8
    refine wpAny_bind (wpAny_setField (s := { s with heap := _ }) g1 d1 (by simp) ?_)
    obtain ⟨o2, g2, c2, d2⟩ := get_mapFields (i := 1) (x := rawInt ((i : Int) + 1)) g1 d1
    have S := (Heap.SameBut.update s.heap it (Obj.mapFields (·.setIfInBounds 0 (rawInt ((t.place[i]'(by omega) + 1 : Nat) : Int))))).trans (Heap.SameBut.update _ it (Obj.mapFields (·.setIfInBounds 1 (rawInt ((i : Int) + 1)))))
    subst hx'
    refine wpAny_pure ⟨es[i].2, rfl, wpAny_pure (hQ _ ?_ S)⟩
    exact ⟨o, es, ep, t, rawInt ((t.place[i]'(by omega) + 1 : Nat) : Int), o2, sb _ _ _ S hne h1, h2, h3, h4, h5, g2, c2.trans (c1.trans h7), by rw [d2]; simp, .inr (.inr ⟨z1, zd, _, rfl, below_succ h4.rise (by omega), rfl⟩)⟩
theorem setit_end {it a tp : Addr} {vs : List Value} {Q : Option Value → Shared → Prop} (hh : A.handled = none) (hne : a ≠ it) (hit : SetIt w s.heap it a tp vs vs.length)
    (hQ : ∀ h', Heap.ExtBut it s.heap h' → Q none { s with heap := h' }) : wpAny (model prog w) A (pyNext (.ref it)) Q E s := by
  have hT := hit.typeIs
  obtain ⟨o, es, ep, t, first, oi, h1, h2, h3, h4, h5, h6, h7, h8, h9⟩ := hit
  have fin : ∀ (h' : Heap), Heap.ExtBut it s.heap h' → wpAny (model prog w) A.in1 (newExc (.type "StopIteration") [] >>= fun e => raiseNew e) (fun (_ : Fin) _ => False) (fun e s' => (∃ oe, s'.heap.get? (match e with | .ref b => b | _ => 0) = some oe ∧ oe.cls = .type "StopIteration" ∧ ∃ b, e = .ref b) ∧ ∃ h2, s' = { s with heap := h2 } ∧ Heap.ExtBut it s.heap h2) { s with heap := h' } := by
    intro h' he
    refine wpAny_bind ?_
    simp only [newExc, newTuple]
    refine wpAny_bind (wpAny_newObj_type ?_ (by size_fits))
    refine wpAny_bind (m := firstArgMember _ _) (wpAny_of_eq (a := Value.none) (by first | rfl | (simp only [firstArgMember]; rfl)) ?_)
    refine wpAny_newObj_type ?_ (by size_fits)
    simp only [raiseNew]
    refine wpAny_bind (wpAny_handled ?_)
    rw [show A.in1.handled = none from hh]
    refine wpAny_bind (wpAny_pure (wpAny_throw ?_))
    exact ⟨⟨_, Heap.get?_push_size _ rfl, rfl, _, rfl⟩, _, rfl, (he.push _).push _⟩
  have fin2 : ∀ (e : Value) (s' : Shared), ((∃ oe, s'.heap.get? (match e with | .ref b => b | _ => 0) = some oe ∧ oe.cls = .type "StopIteration" ∧ ∃ b, e = .ref b) ∧ ∃ h2, s' = { s with heap := h2 } ∧ Heap.ExtBut it s.heap h2) →
      wpAny (model prog w) A (do if ← isInstance e (.type "StopIteration") then pure none else throw e) Q E s' := by
    rintro e s' ⟨⟨oe, e1, e2, b, rfl⟩, h2, rfl, e3⟩
    refine wpAny_bind (wpAny_isInstance (T := "StopIteration") (b := true) ⟨_, e1, e2⟩ isSubtype_stop ?_)
    exact wpAny_pure (hQ _ e3)
  unfold pyNext
  refine wpAny_bind (wpAny_attempt (wpAny_mono (wpAny_callSpecial?_slot (Q := fun _ _ => False) (name := Str.ofString "__next__") hT slot_setit_next
    (wpAny_call_entry slot_setit_next hT entry_setit_next ?_ (args_setit_next _))) (fun _ _ z => z.elim) fun e s' z => fin2 e s' z))
  unfold Builtin.«set_iterator.__next__»
  refine wpAny_bind (wpAny_pure ?_)
  dsimp only
  refine wpAny_bind (wpAny_fieldsOf h6 h8 ?_)
  show wpAny _ _ (setEntries a >>= _) _ _ s
  refine wpAny_bind (wpAny_setEntries_of h1 h2 h3 ?_)
  rw [if_neg (by simp)]
  rcases h9 with ⟨z1, rfl, hvs⟩ | ⟨z1, ps, ot, rfl, z3, z4, z5⟩ | ⟨z1, zd, slot, rfl, z3, hvs⟩
  · show wpAny _ _ (setNext a (0 : Int).toNat ((vs.length : Int)).toNat ((ep : Int)).toNat >>= _) _ _ s
    refine wpAny_bind ?_
    unfold setNext
    refine wpAny_bind (wpAny_setState_of h1 h2 h3 ?_)
    dsimp only
    unfold setsByText
    refine wpAny_bind (wpAny_bind (wpAny_askSetting (wpAny_pure ?_)))
    show wpAny _ _ (if w.params.followText "set-order" = true then _ else _) _ _ s
    rw [if_pos z1]
    rw [if_neg (by simp)]
    refine wpAny_bind ?_
    unfold setWalk
    refine wpAny_bind (wpAny_setState_of h1 h2 h3 ?_)
    dsimp only
    unfold setsByText
    refine wpAny_bind (wpAny_bind (wpAny_askSetting (wpAny_pure ?_)))
    show wpAny _ _ (if w.params.followText "set-order" = true then _ else _) _ _ s
    rw [if_pos z1]
    refine wpAny_bind (wpAny_askSetting (wpAny_pure ?_))
    refine wpAny_pure ?_
    have ex : ((pickOrder (w.params.setOrder a ep) es)[((vs.length : Int)).toNat]?).map (fun e => (e.2, (0 : Int).toNat)) = none := by
      rw [Int.toNat_natCast, Array.getElem?_eq_none]
      · rfl
      · rw [hvs, List.length_map, Array.length_toList]; exact Nat.le_refl _
    show wpAny _ _ (match ((pickOrder (w.params.setOrder a ep) es)[((vs.length : Int)).toNat]?).map (fun e => (e.2, (0 : Int).toNat)) with | some (x, next) => _ | none => _) _ _ s
    rw [ex]
    dsimp only
    refine wpAny_bind (wpAny_setField h6 h8 (by simp) ?_)
    exact wpAny_mono (fin _ (Heap.SameBut.update ..).extBut) (fun _ _ z => z.elim) fun _ _ z => z
  · show wpAny _ _ (seqItems? (.ref tp) >>= _) _ _ s
    refine wpAny_bind (wpAny_seqItems z3 z4 ?_)
    dsimp only
    have ex : (ps.map fun (p : Nat) => rawInt (p : Int)).toArray[((vs.length : Int)).toNat]? = none := by
      rw [Int.toNat_natCast, Array.getElem?_eq_none]
      simp [paired_len z5]
    show wpAny _ _ (match (ps.map fun (p : Nat) => rawInt (p : Int)).toArray[((vs.length : Int)).toNat]? with | some (.int place _) => _ | some _ => _ | none => _) _ _ s
    rw [ex]
    dsimp only
    refine wpAny_bind (wpAny_setField h6 h8 (by simp) ?_)
    obtain ⟨o1, g1, c1, d1⟩ := get_mapFields (i := 0) (x := rawInt 0) h6 h8
    refine wpAny_bind (wpAny_setField (s := { s with heap := _ }) g1 d1 (by simp) ?_)
    exact wpAny_mono (fin _ ((Heap.SameBut.update ..).trans (Heap.SameBut.update ..)).extBut) (fun _ _ z => z.elim) fun _ _ z => z
  · show wpAny _ _ (setNext a ((slot : Int)).toNat ((vs.length : Int)).toNat ((ep : Int)).toNat >>= _) _ _ s
    refine wpAny_bind ?_
    unfold setNext
    refine wpAny_bind (wpAny_setState_of h1 h2 h3 ?_)
    dsimp only
    unfold setsByText
    refine wpAny_bind (wpAny_bind (wpAny_askSetting (wpAny_pure ?_)))
    show wpAny _ _ (if w.params.followText "set-order" = true then _ else _) _ _ s
    rw [if_neg (by rw [z1]; exact Bool.false_ne_true)]
    show wpAny _ _ (if (!t.plain && decide (es.size > 1)) = true then _ else _) _ _ s
    rw [if_neg (by rw [zd]; exact Bool.false_ne_true)]
    have hled : t.led = true := by rw [h4.led, z1]; rfl
    show wpAny _ _ ((if (!t.led && !es.isEmpty) = true then _ else _) >>= _) _ _ s
    rw [if_neg (by rw [hled]; simp)]
    refine wpAny_bind (wpAny_pure ?_)
    refine wpAny_pure ?_
    rw [Int.toNat_natCast, z3, Array.getElem?_eq_none (by omega : es.size ≤ vs.length)]
    dsimp only
    refine wpAny_bind (wpAny_setField h6 h8 (by simp) ?_)
    exact wpAny_mono (fin _ (Heap.SameBut.update ..).extBut) (fun _ _ z => z.elim) fun _ _ z => z
end
end L2
namespace L2
open PySem PySem.Spec PyProof.Rows
section
variable {prog : Program} {w : World} {K : Type} [DecidableEq K] {knd : KeyKind prog w K} {A : Around} {E : Value → Shared → Prop} {s : Shared}
theorem paired_map {α β γ : Type} {R : α → γ → Prop} {f : β → γ} : ∀ {xs : List α} {ys : List β}, Paired (fun a b => R a (f b)) xs ys → Paired R xs (ys.map f)
  | _, _, .nil => .nil
  | _, _, .cons r t => .cons r (paired_map t)
theorem paired_range (es : Array (Int × Value)) : Paired (fun (p : Nat) (v : Value) => (es[p]?).map (·.2) = some v) (List.range es.size) (es.toList.map (·.2)) := by
  have gen : ∀ (l : List (Int × Value)) (k : Nat), (∀ j, es[k + j]? = l[j]?) → Paired (fun (p : Nat) (v : Value) => (es[p]?).map (·.2) = some v) ((List.range l.length).map (k + ·)) (l.map (·.2)) := by
    intro l
    induction l with
    | nil => intro k _; exact .nil
    | cons a r ih =>
      intro k h
      rw [List.length_cons, List.range_succ_eq_map, List.map_cons, List.map_map, List.map_cons]
      refine .cons ?_ ?_
      · have := h 0
        simp at this
        show (es[k + 0]?).map (·.2) = _
        rw [Nat.add_zero, this]; rfl
      · have := ih (k + 1) (fun j => by have := h (j + 1); simp at this; rw [Nat.add_assoc, Nat.add_comm 1 j]; exact this)
        have e : ((fun x => k + x) ∘ Nat.succ) = (fun x => k + 1 + x) := by funext x; show k + (x + 1) = _; omega
        rw [e]
        exact this
  have h := gen es.toList 0 (fun j => by simp)
  have e1 : (List.range es.toList.length).map (0 + ·) = List.range es.size := by
    have : (fun x : Nat => 0 + x) = id := by funext x; simp
    rw [this, List.map_id, Array.length_toList]
  rw [e1] at h
  exact h
theorem paired_perm' {α β : Type} {R : α → β → Prop} {l1 l1' : List α} (p : l1.Perm l1') : ∀ {l2 : List β}, Paired R l1 l2 → ∃ l2', l2.Perm l2' ∧ Paired R l1' l2' := by
  induction p with
  | nil => intro l1 h; exact ⟨l1, .refl _, h⟩
  | cons x _ ih =>
    intro l1 h
    cases h with
    | cons r t => obtain ⟨l, p, q⟩ := ih t; exact ⟨_ :: l, p.cons _, .cons r q⟩
  | swap x y l =>
    intro l1 h
    cases h with
    | cons r t => cases t with | cons r' t' => exact ⟨_, .swap _ _ _, .cons r' (.cons r t')⟩
  | trans _ _ ih1 ih2 =>
    intro l1 h
    obtain ⟨l, p, q⟩ := ih1 h
    obtain ⟨l', p', q'⟩ := ih2 q
    exact ⟨l', p.trans p', q'⟩
theorem pyIter_setW {a : Addr} {ks : List K} {Q : Value → Shared → Prop} (hS : SetW knd s.heap a ks)
    (h : ∀ it tp h' d vs, (∀ b o, s.heap.get? b = some o → h'.get? b = some o) → a ≠ it → tp ≠ it → s.heap.objs.size ≤ it → (tp = a ∨ s.heap.objs.size ≤ tp) → SetIt w h' it a tp vs 0 → (∃ ks' : List K, ks.Perm ks' ∧ Paired (fun (k : K) (v : Value) => knd.is k v = true) ks' vs) → Q (.ref it) { s with heap := h', drawn := d }) :
    wpAny (model prog w) A (pyIter (.ref a)) Q E s := by
  have hT := hS.typeIs
  obtain ⟨o, es, ep, t, ho, hex, hd, hel, hpr, hnd, hb, hf, ht⟩ := hS
  have hpv := paired_map (f := fun (e : Int × Value) => e.2) (R := fun (k : K) (v : Value) => knd.is k v = true) hpr
  have halt : a < s.heap.objs.size := Heap.lt_size ho
  refine wpAny_pyIter_slot hT PySem.F.slot_set_iter (wpAny_call_entry PySem.F.slot_set_iter hT entry_set_iter' ?_ (PySem.F.args_set_iter_1 _))
  unfold Builtin.«frozenset.__iter__»
  show wpAny _ _ (Builtin.Frozenset.sizeOf a >>= _) _ _ s
  unfold Builtin.Frozenset.sizeOf
  refine wpAny_bind (wpAny_bind (wpAny_setEntries_of ho hd hf (wpAny_pure ?_)))
  refine wpAny_bind ?_
  refine wpAny_bind (wpAny_setState_of ho hd hf ?_)
  dsimp only
  unfold setsByText
  refine wpAny_bind (wpAny_bind (wpAny_askSetting (wpAny_pure ?_)))
  refine wpAny_pure ?_
  show wpAny _ _ (if (!w.params.followText "set-order" && (!t.plain && decide (es.size > 1))) = true then _ else _) _ _ s
  by_cases hc : (!w.params.followText "set-order" && (!t.plain && decide (es.size > 1))) = true
  · rw [if_pos hc]
    have hbt : w.params.followText "set-order" = false := by simp at hc; exact hc.1
    refine wpAny_bind (wpAny_drawOrder es.size (List.range es.size) (by simp) fun l d p => ?_)
    have hll : l.length = es.size := by rw [p.length_eq, List.length_range]
    refine wpAny_bind (wpAny_newTuple ?_ (by rw [List.length_map, hll]; exact fits_of_scanBound hb))
    have ho1 := Heap.get?_push_of_some ({ cls := .type "tuple", data := .seq (l.map fun (i : Nat) => rawInt (i : Int)).toArray } : Obj) ho
    refine wpAny_bind ?_
    unfold setEpoch
    refine wpAny_bind (wpAny_setState_of (s := { s with heap := _, drawn := d }) ho1 hd hf (wpAny_pure ?_))
    refine wpAny_bind (wpAny_newObj_type (wpAny_pure ⟨_, rfl, "set_iterator", _, ⟨_, Heap.get?_push_size _ rfl, rfl⟩, slot_setit_next.lookup, ?_⟩))
    obtain ⟨vs, pv, hvs⟩ := paired_perm' p.symm (paired_range es)
    have hv2 := paired_perm pv hpv
    dsimp only
    refine h (s.heap.push { cls := .type "tuple", data := .seq (l.map fun (i : Nat) => rawInt (i : Int)).toArray }).objs.size s.heap.objs.size _ d vs (fun b o e => Heap.get?_push_of_some _ (Heap.get?_push_of_some _ e)) ?_ ?_ ?_ (.inr (Nat.le_refl _)) ?_ hv2
    · rw [Heap.size_push]; exact Nat.ne_of_lt (Nat.lt_succ_of_lt halt)
    · rw [Heap.size_push]; exact Nat.ne_of_lt (Nat.lt_succ_self _)
    · rw [Heap.size_push]; exact Nat.le_succ _
    · exact ⟨o, es, ep, t, .ref s.heap.objs.size, _, Heap.get?_push_of_some _ ho1, hd, hf, ht, by rw [← paired_len hvs, hll], Heap.get?_push_size _ rfl, rfl, rfl, .inr (.inl ⟨hbt, l, _, rfl, Heap.get?_push_of_some _ (Heap.get?_push_size _ rfl), rfl, hvs⟩)⟩
  · rw [if_neg hc]
    refine wpAny_bind (wpAny_pure ?_)
    refine wpAny_bind ?_
    unfold setEpoch
    refine wpAny_bind (wpAny_setState_of ho hd hf (wpAny_pure ?_))
    refine wpAny_bind (wpAny_newObj_type (wpAny_pure ⟨_, rfl, "set_iterator", _, ⟨_, Heap.get?_push_size _ rfl, rfl⟩, slot_setit_next.lookup, ?_⟩))
    have hit : ∀ vs, vs.length = es.size → ((w.params.followText "set-order" = true ∧ (rawInt 0 : Value) = rawInt 0 ∧ vs = (pickOrder (w.params.setOrder a ep) es).toList.map (·.2)) ∨
       (w.params.followText "set-order" = false ∧ (!t.plain && decide (es.size > 1)) = false ∧ ∃ slot : Nat, (rawInt 0 : Value) = rawInt (slot : Int) ∧ SetTable.below t.place slot = 0 ∧ vs = es.toList.map (·.2))) →
       SetIt w (s.heap.push { cls := .type "set_iterator", data := .fields [rawInt 0, rawInt 0, .ref a, rawInt (es.size : Int), rawInt (ep : Int)].toArray }) s.heap.objs.size a a vs 0 := fun vs hl z =>
      ⟨o, es, ep, t, rawInt 0, _, Heap.get?_push_of_some _ ho, hd, hf, ht, hl, Heap.get?_push_size _ rfl, rfl, rfl, z.elim .inl fun z => .inr (.inr z)⟩
    have e : s = { s with drawn := s.drawn } := by cases s; rfl
    have fin : ∀ vs, (∃ ks' : List K, ks.Perm ks' ∧ Paired (fun (k : K) (v : Value) => knd.is k v = true) ks' vs) → SetIt w (s.heap.push { cls := .type "set_iterator", data := .fields [rawInt 0, rawInt 0, .ref a, rawInt (es.size : Int), rawInt (ep : Int)].toArray }) s.heap.objs.size a a vs 0 →
        Q (.ref s.heap.objs.size) { s with heap := s.heap.push { cls := .type "set_iterator", data := .fields [rawInt 0, rawInt 0, .ref a, rawInt (es.size : Int), rawInt (ep : Int)].toArray } } := fun vs hv z =>
      h s.heap.objs.size a _ s.drawn vs (fun b o e => Heap.get?_push_of_some _ e) (Nat.ne_of_lt halt) (Nat.ne_of_lt halt) (Nat.le_refl _) (.inl rfl) z hv
    by_cases hbt : w.params.followText "set-order" = true
    · have pp := (pick_perm (w.params.setOrder a ep) es).map (fun (e : Int × Value) => e.2)
      exact fin _ (paired_perm pp.symm hpv) (hit _ (by rw [List.length_map, (pick_perm _ es).length_eq, Array.length_toList]) (.inl ⟨hbt, rfl, rfl⟩))
    · have hbt' : w.params.followText "set-order" = false := by simpa using hbt
      have hdr : (!t.plain && decide (es.size > 1)) = false := by
        rw [hbt'] at hc
        simpa using hc
      exact fin _ ⟨ks, .refl _, hpv⟩ (hit _ (by rw [List.length_map, Array.length_toList]) (.inr ⟨hbt', hdr, 0, rfl, below_zero ht.rise, rfl⟩))
theorem walks_set (hh : A.handled = none) {it a tp : Addr} (hne : a ≠ it) (hnt : tp ≠ it) (vs : List Value) : Walks prog w A it [it, a, tp] [it] vs.length (fun i v => vs[i]? = some v) (fun i h => SetIt w h it a tp vs i) where
  sub := fun b hb => by simp at hb; simp [hb]
  frame := fun _ _ _ st hk => st.frame fun b hb o e => hk b (by simp; exact hb) o e
  item := fun i s Q E hi st hQ => by
    refine setit_item hne hnt st (List.getElem?_eq_getElem hi) fun h' st' sb => ?_
    exact hQ _ h' s.toks (List.getElem?_eq_getElem hi) st' fun b o hb e => sb.extBut b o (fun h => hb (by simp [h])) e
  done := fun s Q E st hQ => setit_end hh hne st fun h' he' => hQ h' s.toks fun b o hb e => he' b o (fun h => hb (by simp [h])) e
  self := fun i s Q E st hQ => by
    have hT := SetIt.typeIs (s := s) st
    refine wpAny_pyIter_slot hT slot_setit_iter (wpAny_call_entry slot_setit_iter hT entry_setit_iter ?_ (args_setit_iter _))
    show wpAny _ _ (ret (.ref it)) _ _ s
    exact wpAny_pure ⟨_, rfl, "set_iterator", _, hT, slot_setit_next.lookup, hQ⟩
theorem hint_set {r : Addr} {Q : Bool → Shared → Prop} (hT : s.TypeIs (.ref r) "set") (h : Q false s) : wpAny (model prog w) A (Builtin.List.listLengthHint (.ref r)) Q E s := by
  unfold Builtin.List.listLengthHint
  refine wpAny_bind (wpAny_specialOf hT PySem.F.slot_set_len.lookup ?_)
  generalize hid : ("set.__len__" : String) = id0
  wp_delta
  rw [show splitId id0 = some ("set", "__len__") from by subst hid; decide +kernel]
  subst hid
  refine wpAny_bind (wpAny_isInstance (T := "set") (b := true) hT (by rw [isSubtype_type]; kernel_rfl) ?_)
  refine wpAny_ite_split (fun hab => absurd hab (by decide)) (fun _ => ?_)
  refine wpAny_ite_split (fun _ => ?_) (fun hab => absurd (by decide +kernel) hab)
  refine wpAny_bind (wpAny_typeOf hT ?_)
  exact wpAny_pure h
theorem collect_setW {a : Addr} {ks : List K} {R : List Value → Shared → Prop} (hh : A.handled = none) (hS : SetW knd s.heap a ks) (hn : ks.length ≤ sizeLine)
    (h : ∀ (h' : Heap) tk d vs, (∀ b o, s.heap.get? b = some o → h'.get? b = some o) → s.heap.objs.size ≤ h'.objs.size → (∃ ks' : List K, ks.Perm ks' ∧ Paired (fun (k : K) (v : Value) => knd.is k v = true) ks' vs) → R vs { s with heap := h', toks := tk, drawn := d }) :
    wpAny (model prog w) A (collect (.ref a)) R E s := by
  obtain ⟨ol, _, _, _, hol, _⟩ := id hS
  have hlt : a < s.heap.objs.size := Heap.lt_size hol
  unfold collect
  refine wpAny_bind (wpAny_runValue (codeAny_builtin entry_proto_collect' ?_))
  rw [Around.under_plainId PySem.F.plain_proto_collect _]
  show wpAny _ A.in1 (newList [] >>= fun l => again (.builtin "list.__iadd__" ⟨[l, .ref a], []⟩)) _ _ s
  refine wpAny_bind (wpAny_newObj_type ?_)
  refine wpAny_pure ⟨plainId_quiet PySem.F.plain_list_iadd _, codeAny_builtin entry_list_iadd' ?_⟩
  rw [Around.under_plainId PySem.F.plain_list_iadd _]
  generalize hH1 : s.heap.push { cls := .type "list", data := .seq ([] : List Value).toArray } = H1
  have hS₁ : H1.get? s.heap.objs.size = some { cls := .type "list", data := .seq #[] } := hH1 ▸ Heap.get?_push_size _ rfl
  have k1 : ∀ b o, s.heap.get? b = some o → H1.get? b = some o := fun b o e => hH1 ▸ Heap.get?_push_of_some _ e
  have hsz : H1.objs.size = s.heap.objs.size + 1 := by rw [← hH1, Heap.size_push]
  have hS1 : SetW knd H1 a ks := hS.at' fun o e => k1 _ _ e
  show wpAny _ A.in1 (Builtin.List.listExtendWith (.ref s.heap.objs.size) (.ref a) (.ref s.heap.objs.size)) _ _ { s with heap := H1 }
  have haS : a ≠ s.heap.objs.size := Nat.ne_of_lt hlt
  have hltS : ∀ b o, s.heap.get? b = some o → b ≠ s.heap.objs.size := fun b o e => Nat.ne_of_lt (Heap.lt_size e)
  have hlti : ∀ b o (it : Addr), s.heap.get? b = some o → H1.objs.size ≤ it → b ≠ it := fun b o it e hi => Nat.ne_of_lt (Nat.lt_of_lt_of_le (Heap.lt_size (k1 b o e)) hi)
  have hSi : ∀ it : Addr, H1.objs.size ≤ it → s.heap.objs.size ≠ it := fun it hi => Nat.ne_of_lt (Nat.lt_of_lt_of_le (Heap.lt_size hS₁) hi)
  generalize hSS : s.heap.objs.size = S at *
  unfold Builtin.List.listExtendWith
  refine wpAny_bind (wpAny_typeOf (T := "set") (SetW.typeIs (s := { s with heap := H1 }) hS1) ?_)
  have h1 : Builtin.List.listSameRef (.ref S) (.ref a) = false := by simp [Builtin.List.listSameRef, haS.symm]
  have h2 : (Value.type "set" == Value.type "list") = false := by decide
  have h3 : (Value.type "set" == Value.type "tuple") = false := by decide
  simp only [h1, h2, h3, Bool.or_false, Bool.false_eq_true, if_false]
  refine wpAny_bind (pyIter_setW (knd := knd) (s := { s with heap := H1 }) hS1 fun it tp h' d vs k2 n1 n2 n3 n4 st hv => ?_)
  have hSit : S ≠ it := hSi it n3
  have hStp : S ≠ tp := by
    rcases n4 with rfl | n4
    · exact haS.symm
    · exact hSi tp n4
  have hSf : S ∉ [it, a, tp] := by simp only [List.mem_cons, List.not_mem_nil, or_false, not_or]; exact ⟨hSit, haS.symm, hStp⟩
  have W := walks_set (prog := prog) (w := w) (A := A.in1) (by simp [hh]) n1 n2 vs
  have hvl : vs.length = ks.length := by
    obtain ⟨ks', p, q⟩ := hv
    rw [← paired_len q, p.length_eq]
  have key : ∀ (h : Heap) (c₁ tk : Nat), SetIt w h it a tp vs 0 → (∀ b o, b ≠ S → s.heap.get? b = some o → h.get? b = some o) →
      h.get? S = some { cls := .type "list", data := .seq #[] c₁ } → codeAny (model prog w) A (.builtin "list.extend.loop" ⟨[.ref S, .ref it, .ref S], []⟩)
        (fun (q : Result) (s' : Shared) => ∃ (h' : Heap) (tk : Nat) (acc' : Array Value) (c' : Nat), q = .ok (.ret (.ref S)) ∧ s' = { s with heap := h', toks := tk, drawn := d } ∧
      (∀ b o, b ≠ S → b ≠ it → s.heap.get? b = some o → h'.get? b = some o) ∧ h'.get? S = some { cls := .type "list", dict := none, data := .seq acc' c', slots := #[] } ∧ acc'.toList = vs) { s with heap := h, toks := tk, drawn := d } := by
    intro h c₁ tk hst hk hS₁
    refine codeAny_extend_loopS W.toS (by rw [hvl]; exact hn) S hSf (.ref S) vs.length 0 _ #[] c₁ rfl (Nat.zero_le _) hst hS₁ (ItemsOf.nil _) fun s' acc' c' hm hS' hacc => ?_
    rw [Moved.eq_with hm]
    refine ⟨s'.heap, s'.toks, acc', c', rfl, rfl, fun b o hb hbi e => hm.heap b o (fun hmem => ?_) (hk b o hb e), hS', ?_⟩
    · rcases List.mem_cons.mp hmem with e' | hmem
      · exact hb e'
      · exact hbi (List.mem_singleton.mp hmem)
    · apply List.ext_getElem
      · rw [Array.length_toList, hacc.1]
      · intro j j1 j2
        have : vs[j]? = some acc'.toList[j] := hacc.2 j acc'.toList[j] (by rw [← Array.getElem?_toList, List.getElem?_eq_getElem j1])
        rw [List.getElem?_eq_getElem j2] at this
        exact (Option.some.inj this).symm
  have fin : ∀ (q : Result) (s' : Shared), (∃ (h' : Heap) (tk : Nat) (acc' : Array Value) (c' : Nat), q = .ok (.ret (.ref S)) ∧ s' = { s with heap := h', toks := tk, drawn := d } ∧
      (∀ b o, b ≠ S → b ≠ it → s.heap.get? b = some o → h'.get? b = some o) ∧ h'.get? S = some { cls := .type "list", dict := none, data := .seq acc' c', slots := #[] } ∧ acc'.toList = vs) →
      q = .ok (.ret (.ref S)) ∧ wpAny (model prog w) A (load S >>= fun o => (match o.data with | .seq xs _ => pure xs.toList | _ => unsupported "internal:collect")) R E s' := by
    rintro q s' ⟨h', tk, acc', c', rfl, rfl, hk, hS', rfl⟩
    refine ⟨rfl, ?_⟩
    refine wpAny_bind (wpAny_load hS' ?_)
    refine wpAny_pure (h h' tk d _ (fun b o e => hk b o ?_ ?_ e) (Nat.le_of_lt (Heap.lt_size hS')) hv)
    · exact hltS b o e
    · exact hlti b o it e n3
  have S2 := k2 _ _ hS₁
  refine wpAny_bind (wpAny_holding (hint_set (s := { s with heap := h', drawn := d }) (SetW.typeIs (knd := knd) (s := { s with heap := h', drawn := d }) (hS1.at' fun o e => k2 _ _ e)) ?_))
  refine wpAny_ite_split (fun _ => ?_) (fun _ => wpAny_pure ⟨plainId_quiet PySem.F.plain_extend_loop _, codeAny_mono (key _ 0 s.toks st (fun b o _ e => k2 _ _ (k1 _ _ e)) S2) fun q s' y => ?_⟩)
  · refine wpAny_bind (wpAny_rule ?_)
    refine wpAny_bind ?_
    show wpAny _ _ (updateSeq S (·.push .none) >>= fun _ => updateSeq S (·.pop)) _ _ _
    refine wpAny_bind (wpAny_updateSeq S2 rfl ?_)
    have S3 := Heap.get?_update_self (Obj.mapSeq (·.push Value.none)) S2 rfl
    refine wpAny_updateSeq (hz := by seq_fits) S3 rfl ?_
    have S4 := Heap.get?_update_self (Obj.mapSeq (·.pop)) S3 rfl
    refine wpAny_pure ⟨plainId_quiet PySem.F.plain_extend_loop _, codeAny_mono (key _ _ s.toks ?_ (fun b o hb e => ?_) S4) fun q s' y => ?_⟩
    · refine st.frame fun b hb o e => ?_
      have hbS : b ≠ S := by rcases hb with rfl | rfl | rfl; exact hSit.symm; exact haS; exact hStp.symm
      exact (Heap.get?_update_other _ _ (Ne.symm hbS)).trans ((Heap.get?_update_other _ _ (Ne.symm hbS)).trans e)
    · exact (Heap.get?_update_other _ _ (Ne.symm hb)).trans ((Heap.get?_update_other _ _ (Ne.symm hb)).trans (k2 _ _ (k1 _ _ e)))
    · obtain ⟨rfl, z⟩ := fin q s' y
      exact z
  · obtain ⟨rfl, z⟩ := fin q s' y
    exact z
end
end L2
namespace L2
open PySem PySem.Spec PyProof.Rows
section
variable {prog : Program} {w : World} {K : Type} [DecidableEq K] {knd : PySem.KeyKind prog w K} {A : Around} {E : Value → Shared → Prop} {s : Shared}
/-- sorted(a set): the list is made, then sorted -/
theorem sorted_setW {a : Addr} {ks : List K} {Q : Value → Shared → Prop} (hh : A.handled = none) (hS : SetW knd s.heap a ks) (hn : ks.length ≤ sizeLine)
    (h : ∀ (h' : Heap) (tk : Nat) (d : Drawn) (vs : List Value), (∀ b o, s.heap.get? b = some o → h'.get? b = some o) → s.heap.objs.size ≤ h'.objs.size → (∃ ks' : List K, ks.Perm ks' ∧ Paired (fun (k : K) (v : Value) => knd.is k v = true) ks' vs) →
      wpAny (model prog w) A.in1.in1 (Builtin.«list.sort» ⟨[.ref h'.objs.size], []⟩) (fun r s' => r = .done (.ret .none) ∧ Q (.ref h'.objs.size) s') E { s with heap := h'.push (seqObj "list" vs.toArray 0), toks := tk, drawn := d }) :
    wpAny (model prog w) A (call (.builtin "sorted") [.ref a]) Q E s := by
  refine Calls.call_function_entry kind_sorted plain_sorted entry_sorted (args_sorted1 _) ?_
  unfold Builtin.«sorted»
  refine wpAny_bind (m := checkCount "sorted" 1 1 _) (wpAny_pure ?_)
  refine wpAny_bind (collect_setW (knd := knd) (A := A.in1) (by simp [hh]) hS hn fun h' tk d vs k hle hv => ?_)
  have hvl : vs.length ≤ sizeLine := by
    obtain ⟨ks', p, q⟩ := hv
    rw [← paired_len q, ← p.length_eq]; exact hn
  refine wpAny_bind (wpAny_newList ?_ hvl)
  show wpAny _ _ _ _ _ { s with heap := h'.push (seqObj "list" vs.toArray 0), toks := tk, drawn := d }
  have hoL : (h'.push (seqObj "list" vs.toArray 0)).get? h'.objs.size = some (seqObj "list" vs.toArray 0) := Heap.get?_push_size _ rfl
  refine wpAny_bind (wpAny_holding (wpAny_call_entry slot_list_sort ⟨_, hoL, rfl⟩ entry_list_sort (wpAny_mono (h h' tk d vs k hle hv) (fun r s' z => ?_) fun _ _ z => z) (args_list_sort _)))
  obtain ⟨rfl, z⟩ := z
  exact ⟨_, rfl, wpAny_pure ⟨_, rfl, z⟩⟩
end
/-- a set of ints and texts -/
def SetO (P : Program) (w : World) (a : Addr) (ks : List Key) : HO := .ext fun h => SetW (mixKind P w) h a ks
section
variable {X : Cx}
theorem setO_ok {P : Program} {w : World} {H : Hp} {h : Heap} {a : Addr} {ks : List Key} (x : SetW (mixKind P w) h a ks) : ObjOk P w H h a (SetO P w a ks) := by
  refine ⟨x, ?_, fun h1 h2 y k => y.at' fun o e => k o e⟩
  obtain ⟨o, _, _, _, ho, _⟩ := x
  exact ⟨o, ho⟩
theorem kV_is2 {P : Program} {w : World} {k : Key} {v : Value} (r : RelV (kV k) v) : (mixKind P w).is k v = true ∧ v.scannable = true := by
  cases k with
  | inl i => obtain ⟨t, rfl⟩ := (show ∃ t, v = Value.int i t from r); exact ⟨keyIs_int i t, rfl⟩
  | inr x => obtain ⟨t, rfl⟩ := (show ∃ t, v = Value.str x t from r); exact ⟨keyIs_str x t, rfl⟩
/-- set(a list of ints and texts) -/
theorem call_set_of (hc : X.calm = true) : CallR X (.type "set") (fun xs H Q => ∃ (p : Addr) (kys : List Key), xs = [.ref p] ∧ SqL X.K H p (kys.map kV) ∧ kys.length ≤ 4000 ∧
    ∀ (l : Addr) (ks : List Key), H l = none → ks.Nodup → (∀ k, k ∈ ks ↔ k ∈ kys) → Q (.ref l) (upd H l (SetO X.prog X.w l ks))) := by
  intro pins s σ H xs us Q I r h
  obtain ⟨p, kys, rfl, hq, hl, q⟩ := h
  obtain ⟨u, rfl, rx⟩ := vals1 r
  cases rx
  obtain ⟨its, r', pl, hz⟩ := I.list hq
  have hlen := r'.length
  rw [List.length_map] at hlen
  have hh : X.A.handled = none := I.ok.hd hc
  refine call_set_keys (knd := mixKind X.prog X.w) (val := fun i => kys.getD i (.inl 0)) hh pl.isList (fun i v e => ?_) (by simp only [List.size_toArray]; unfold scanBound; omega) fun h' tk ks hS hD hk => ?_
  · have e' : its[i]? = some v := by simpa using e
    have hi : i < kys.length := by
      have := (List.getElem?_eq_some_iff.mp e').1
      omega
    obtain ⟨u, hu, ru⟩ := r'.get (i := i) (x := kV kys[i]) (by rw [List.getElem?_map, List.getElem?_eq_getElem hi]; rfl)
    rw [e'] at hu
    cases hu
    have e2 : kys.getD i (.inl 0) = kys[i] := by rw [List.getD_eq_getElem?_getD, List.getElem?_eq_getElem hi]; rfl
    rw [e2]
    exact kV_is2 ru
  · have hf : H s.heap.objs.size = none := I.hok.fresh (Nat.le_refl _)
    have hnd : ks.Nodup := by obtain ⟨_, _, _, _, _, _, _, _, _, z, _⟩ := hS; exact z
    refine ⟨.ref s.heap.objs.size, _, I.laid (t' := tk) (o := SetO X.prog X.w s.heap.objs.size ks) (fun b ob z => hk b ob (Heap.lt_size z) z) (Nat.le_refl _) (setO_ok hS), rfl, q _ ks hf hnd fun k => ?_⟩
    rw [hD.1]
    simp only [List.size_toArray]
    constructor
    · rintro ⟨j, hj, rfl⟩
      have hj' : j < kys.length := by omega
      rw [List.getD_eq_getElem?_getD, List.getElem?_eq_getElem hj']
      exact List.getElem_mem hj'
    · intro hm
      obtain ⟨j, hj, e⟩ := List.mem_iff_getElem.mp hm
      exact ⟨j, by omega, by rw [List.getD_eq_getElem?_getD, List.getElem?_eq_getElem hj, ← e]; rfl⟩
theorem Inv.laidD {pins : List (Addr × Obj)} {σ : St} {H : Hp} {s : Shared} {h' : Heap} {a : Addr} {o : HO} {tk : Nat} {d : Drawn} (I : Inv X pins σ H s) (k : ∀ b u, s.heap.get? b = some u → h'.get? b = some u) (hp : s.heap.objs.size ≤ a)
    (new : ObjOk X.prog X.w (upd H a o) h' a o) : Inv X pins σ (upd H a o) { s with heap := h', toks := tk, drawn := d } := by
  refine I.call' (s' := { s with heap := h', toks := tk, drawn := d }) (ch := []) rfl (Un.mono (Un.laid k hp (I.hok.fresh hp)) (fun _ z => z) (fun _ z => z)) (I.hok.laid k hp new) I.bare (fun b hb => nomatch hb)
theorem sorted_fin {pins : List (Addr × Obj)} {σ : St} {H : Hp} {s : Shared} {Q : VK} {h' : Heap} {tk : Nat} {d : Drawn} {vs : List Value} {out : Array Value} {ys : List V} (I : Inv X pins σ H s) (k : ∀ b u, s.heap.get? b = some u → h'.get? b = some u)
    (hle : s.heap.objs.size ≤ h'.objs.size) (hv : Vals ys out.toList) (hz : ys.length ≤ sizeLine) (q : ∀ l : Addr, H l = none → Q (.ref l) (upd H l (.lst ys))) :
    EP X pins σ Q (.ref h'.objs.size) { s with heap := sortedHeap (h'.push (seqObj "list" vs.toArray 0)) h'.objs.size vs out, toks := tk, drawn := d } := by
  obtain ⟨e, he⟩ := sortedHeap_at (h := h'.push (seqObj "list" vs.toArray 0)) (a := h'.objs.size) (vs := vs) (n := 0) (out := out) (Heap.get?_push_size _ rfl)
  refine ⟨.ref h'.objs.size, _, I.laidD (o := .lst ys) (fun b u z => ?_) hle ⟨hz, out.toList, e, hv, by simpa using he⟩, rfl, q _ (I.hok.fresh hle)⟩
  have z' := k b u z
  rw [sortedHeap_old (Nat.ne_of_lt (Heap.lt_size z')) (by rw [Heap.size_push]; exact Nat.lt_succ_of_lt (Heap.lt_size z'))]
  exact Heap.get?_push_of_some _ z'
theorem strs_of {ks : List Str} : ∀ {vs : List Value}, Paired (fun (k : Key) (v : Value) => (mixKind X.prog X.w).is k v = true) (ks.map Sum.inr) vs → StrsAre vs ks := by
  induction ks with
  | nil => intro vs h; cases h; exact .nil
  | cons a r ih =>
    intro vs h
    cases h with
    | cons q t =>
      rw [mixKind_is] at q
      rcases keyIs_shape q with ⟨i, t', e, _⟩ | ⟨x, t', e, e'⟩
      · cases e
      · cases e; subst e'; exact .cons _ _ (ih t)
theorem ints_of {ks : List Int} : ∀ {vs : List Value}, Paired (fun (k : Key) (v : Value) => (mixKind X.prog X.w).is k v = true) (ks.map Sum.inl) vs → IntsAre vs ks := by
  induction ks with
  | nil => intro vs h; cases h; exact .nil
  | cons a r ih =>
    intro vs h
    cases h with
    | cons q t =>
      rw [mixKind_is] at q
      rcases keyIs_shape q with ⟨i, t', e, e'⟩ | ⟨x, t', e, _⟩
      · cases e; subst e'; exact .cons _ _ (ih t)
      · cases e
theorem vals_strs : ∀ {vs : List Value} {ss : List Str}, StrsAre vs ss → Vals (ss.map V.str) vs
  | _, _, .nil => .nil
  | _, _, .cons _ t h => .cons ⟨t, rfl⟩ (vals_strs h)
theorem perm_map_inv {α β : Type} {f : α → β} : ∀ {l : List α} {l' : List β}, (l.map f).Perm l' → ∃ m : List α, l' = m.map f ∧ l.Perm m := by
  intro l l' p
  generalize e : l.map f = k at p
  induction p generalizing l with
  | nil => exact ⟨[], rfl, by cases l with | nil => exact .refl _ | cons _ _ => cases e⟩
  | cons x p ih =>
    cases l with
    | nil => cases e
    | cons a r =>
      obtain ⟨e1, e2⟩ := List.cons.inj e
      obtain ⟨m, h1, h2⟩ := ih e2
      exact ⟨a :: m, by rw [h1, ← e1]; rfl, h2.cons a⟩
  | swap x y q =>
    cases l with
    | nil => cases e
    | cons a r =>
      cases r with
      | nil => cases (List.cons.inj e).2
      | cons b r =>
        obtain ⟨e1, e2⟩ := List.cons.inj e
        obtain ⟨e3, e4⟩ := List.cons.inj e2
        exact ⟨b :: a :: r, by rw [← e1, ← e3, ← e4]; rfl, .swap _ _ _⟩
  | trans _ _ ih1 ih2 =>
    obtain ⟨m, h1, h2⟩ := ih1 e
    obtain ⟨m', h3, h4⟩ := ih2 h1.symm
    exact ⟨m', h3, h2.trans h4⟩
/-- sorted(a set of texts) -/
theorem call_sorted_setS (hc : X.calm = true) : CallR X (.builtin "sorted") (fun xs H Q => ∃ (p : Addr) (ks : List Str), xs = [.ref p] ∧ H p = some (SetO X.prog X.w p (ks.map Sum.inr)) ∧ ks.length < 64 ∧
    ∀ (l : Addr) (ks' : List Str), H l = none → ks'.Perm ks → sortedS ks' = true → Q (.ref l) (upd H l (.lst (ks'.map V.str)))) := by
  intro pins s σ H xs us Q I r h
  obtain ⟨p, ks, rfl, hp, hl, q⟩ := h
  obtain ⟨u, rfl, rx⟩ := vals1 r
  cases rx
  have hS : SetW (mixKind X.prog X.w) s.heap p (ks.map Sum.inr) := (I.hok p _ hp).1
  refine sorted_setW (knd := mixKind X.prog X.w) (I.ok.hd hc) hS (by rw [List.length_map]; exact Nat.le_of_lt (small1000 (by omega))) fun h' tk d vs k hle hv => ?_
  obtain ⟨ks', pk, hpv⟩ := hv
  obtain ⟨ks2, rfl, pk2⟩ := perm_map_inv pk
  have hst := strs_of (X := X) hpv
  have hvl : vs.length = ks.length := by rw [← paired_len hpv, List.length_map, pk2.length_eq]
  refine list_sort_treeK strKind_oneLt (n := 0) (Heap.get?_push_size _ rfl) hst.keysOf (fun v₁ v₂ rest e => keyKind_strs (by rw [← e]; exact hst)) (by omega) fun st' a1 a2 => ?_
  obtain ⟨ss', b1, b2, b3⟩ := sorted_out_str hst a1 a2
  refine ⟨rfl, sorted_fin (s := s) (tk := tk) (d := d) I k hle (vals_strs b1) ?_ fun l hl' => q l ss' hl' (b2.trans pk2.symm) b3⟩
  rw [List.length_map, b2.length_eq, ← pk2.length_eq]
  exact Nat.le_of_lt (small1000 (by omega))
/-- sorted(a set of ints) -/
theorem call_sorted_setI (hc : X.calm = true) : CallR X (.builtin "sorted") (fun xs H Q => ∃ (p : Addr) (ks : List Int), xs = [.ref p] ∧ H p = some (SetO X.prog X.w p (ks.map Sum.inl)) ∧ ks.length < 64 ∧
    ∀ (l : Addr) (ks' : List Int), H l = none → ks'.Perm ks → ks'.Pairwise (· ≤ ·) → Q (.ref l) (upd H l (.lst (ks'.map V.int)))) := by
  intro pins s σ H xs us Q I r h
  obtain ⟨p, ks, rfl, hp, hl, q⟩ := h
  obtain ⟨u, rfl, rx⟩ := vals1 r
  cases rx
  have hS : SetW (mixKind X.prog X.w) s.heap p (ks.map Sum.inl) := (I.hok p _ hp).1
  refine sorted_setW (knd := mixKind X.prog X.w) (I.ok.hd hc) hS (by rw [List.length_map]; exact Nat.le_of_lt (small1000 (by omega))) fun h' tk d vs k hle hv => ?_
  obtain ⟨ks', pk, hpv⟩ := hv
  obtain ⟨ks2, rfl, pk2⟩ := perm_map_inv pk
  have hst := ints_of (X := X) hpv
  have hvl : vs.length = ks.length := by rw [← paired_len hpv, List.length_map, pk2.length_eq]
  refine list_sort_tree (n := 0) (Heap.get?_push_size _ rfl) hst (by omega) fun out ns' b1 b2 b3 => ?_
  refine ⟨rfl, sorted_fin (s := s) (tk := tk) (d := d) I k hle (vals_ints b1) ?_ fun l hl' => q l ns' hl' (b2.trans pk2.symm) b3⟩
  rw [List.length_map, b2.length_eq, ← pk2.length_eq]
  exact Nat.le_of_lt (small1000 (by omega))
end
end L2
namespace L2
open PySem PySem.Spec PyProof.Rows
section
variable {X : Cx}
/-! ### comprehensions, by what they walk -/
theorem lcg_list {K : PySem.W.Frag} {a D : Addr} {xs : List V} {g : TG} {tt : TT} {te : TE} {Q : VK} {σ0 : St} {H1 : Hp} (Pv : Nat → St → Hp → Prop) (h0 : Pv 0 σ0 (upd H1 D (.lst []))) (hl : ∀ i σ H, i ≤ xs.length → Pv i σ H → SqL K H a xs)
    (hs : ∀ i x σ H, xs[i]? = some x → Pv i σ H → g x σ H fun σ3 H3 => tt σ3 H3 fun b H4 => if b = true then te σ3 H4 fun y H5 => ∃ zs, H5 D = some (.lst zs) ∧ zs.length < sizeLine ∧ Pv (i + 1) σ3 (upd H5 D (.lst (zs ++ [y]))) else Pv (i + 1) σ3 H4) (hd : ∀ σ H, Pv xs.length σ H → Q (.ref D) H) :
    ∃ W : Nat → Nat → St → Hp → Prop, (∃ m, W 0 m σ0 (upd H1 D (.lst []))) ∧ ∀ i m σ' H', W i m σ' H' →
      ((Itl K a).stop i H' ∧ Q (.ref D) H') ∨ ((Itl K a).go i H' ∧ ∃ N : St → Hp → Prop, (∀ σ2 H2, N σ2 H2 → ∃ m', m' < m ∧ W (i + 1) m' σ2 H2) ∧
        ∀ x H2, (Itl K a).yld i H' x H2 → g x σ' H2 fun σ3 H3 => tt σ3 H3 fun b H4 => if b = true then te σ3 H4 fun y H5 => ∃ zs, H5 D = some (.lst zs) ∧ zs.length < sizeLine ∧ N σ3 (upd H5 D (.lst (zs ++ [y]))) else N σ3 H4) := by
  refine ⟨fun i m σ H => m = xs.length - i ∧ i ≤ xs.length ∧ Pv i σ H, ⟨xs.length, rfl, Nat.zero_le _, h0⟩, ?_⟩
  rintro i m σ H ⟨rfl, hi, p⟩
  have q := hl i σ H hi p
  rcases Nat.lt_or_ge i xs.length with hlt | hge
  · refine .inr ⟨⟨xs, xs[i], q, List.getElem?_eq_getElem hlt⟩, Pv (i + 1), fun σ' H' p' => ⟨xs.length - (i + 1), by omega, rfl, hlt, p'⟩, fun x H' y => ?_⟩
    obtain ⟨e, y⟩ := y
    subst e
    exact hs i x σ _ (y xs q) p
  · have e : i = xs.length := Nat.le_antisymm hi hge
    subst e
    exact .inl ⟨⟨xs, q, Nat.le_refl _⟩, hd σ H p⟩
theorem lcg_tup {K : PySem.W.Frag} {a D : Addr} {xs : List V} {g : TG} {tt : TT} {te : TE} {Q : VK} {σ0 : St} {H1 : Hp} (Pv : Nat → St → Hp → Prop) (h0 : Pv 0 σ0 (upd H1 D (.lst []))) (hl : ∀ i σ H, i ≤ xs.length → Pv i σ H → SqT K H a xs)
    (hs : ∀ i x σ H, xs[i]? = some x → Pv i σ H → g x σ H fun σ3 H3 => tt σ3 H3 fun b H4 => if b = true then te σ3 H4 fun y H5 => ∃ zs, H5 D = some (.lst zs) ∧ zs.length < sizeLine ∧ Pv (i + 1) σ3 (upd H5 D (.lst (zs ++ [y]))) else Pv (i + 1) σ3 H4) (hd : ∀ σ H, Pv xs.length σ H → Q (.ref D) H) :
    ∃ W : Nat → Nat → St → Hp → Prop, (∃ m, W 0 m σ0 (upd H1 D (.lst []))) ∧ ∀ i m σ' H', W i m σ' H' →
      ((Itt K a).stop i H' ∧ Q (.ref D) H') ∨ ((Itt K a).go i H' ∧ ∃ N : St → Hp → Prop, (∀ σ2 H2, N σ2 H2 → ∃ m', m' < m ∧ W (i + 1) m' σ2 H2) ∧
        ∀ x H2, (Itt K a).yld i H' x H2 → g x σ' H2 fun σ3 H3 => tt σ3 H3 fun b H4 => if b = true then te σ3 H4 fun y H5 => ∃ zs, H5 D = some (.lst zs) ∧ zs.length < sizeLine ∧ N σ3 (upd H5 D (.lst (zs ++ [y]))) else N σ3 H4) := by
  refine ⟨fun i m σ H => m = xs.length - i ∧ i ≤ xs.length ∧ Pv i σ H, ⟨xs.length, rfl, Nat.zero_le _, h0⟩, ?_⟩
  rintro i m σ H ⟨rfl, hi, p⟩
  have q := hl i σ H hi p
  rcases Nat.lt_or_ge i xs.length with hlt | hge
  · refine .inr ⟨⟨xs, xs[i], q, List.getElem?_eq_getElem hlt⟩, Pv (i + 1), fun σ' H' p' => ⟨xs.length - (i + 1), by omega, rfl, hlt, p'⟩, fun x H' y => ?_⟩
    obtain ⟨e, y⟩ := y
    subst e
    exact hs i x σ _ (y xs q) p
  · have e : i = xs.length := Nat.le_antisymm hi hge
    subst e
    exact .inl ⟨⟨xs, q, Nat.le_refl _⟩, hd σ H p⟩
theorem lcg_range {lo : Int} {n : Nat} {D : Addr} {g : TG} {tt : TT} {te : TE} {Q : VK} {σ0 : St} {H1 : Hp} (Pv : Nat → St → Hp → Prop) (h0 : Pv 0 σ0 (upd H1 D (.lst [])))
    (hs : ∀ i σ H, i < n → Pv i σ H → g (.int (lo + i)) σ H fun σ3 H3 => tt σ3 H3 fun b H4 => if b = true then te σ3 H4 fun y H5 => ∃ zs, H5 D = some (.lst zs) ∧ zs.length < sizeLine ∧ Pv (i + 1) σ3 (upd H5 D (.lst (zs ++ [y]))) else Pv (i + 1) σ3 H4) (hd : ∀ σ H, Pv n σ H → Q (.ref D) H) :
    ∃ W : Nat → Nat → St → Hp → Prop, (∃ m, W 0 m σ0 (upd H1 D (.lst []))) ∧ ∀ i m σ' H', W i m σ' H' →
      ((Itr lo n).stop i H' ∧ Q (.ref D) H') ∨ ((Itr lo n).go i H' ∧ ∃ N : St → Hp → Prop, (∀ σ2 H2, N σ2 H2 → ∃ m', m' < m ∧ W (i + 1) m' σ2 H2) ∧
        ∀ x H2, (Itr lo n).yld i H' x H2 → g x σ' H2 fun σ3 H3 => tt σ3 H3 fun b H4 => if b = true then te σ3 H4 fun y H5 => ∃ zs, H5 D = some (.lst zs) ∧ zs.length < sizeLine ∧ N σ3 (upd H5 D (.lst (zs ++ [y]))) else N σ3 H4) := by
  refine ⟨fun i m σ H => m = n - i ∧ i ≤ n ∧ Pv i σ H, ⟨n, rfl, Nat.zero_le _, h0⟩, ?_⟩
  rintro i m σ H ⟨rfl, hi, p⟩
  rcases Nat.lt_or_ge i n with hlt | hge
  · refine .inr ⟨hlt, Pv (i + 1), fun σ' H' p' => ⟨n - (i + 1), by omega, rfl, hlt, p'⟩, fun x H' y => ?_⟩
    obtain ⟨rfl, rfl⟩ := y
    exact hs i σ _ hlt p
  · have e : i = n := Nat.le_antisymm hi hge
    subst e
    exact .inl ⟨Nat.le_refl _, hd σ H p⟩
/-! ### a method of an object of one of several classes -/
def tMethF (dom : Addr → Prop) (m : Str) (sp : Addr → Sp) (E : XK) (ta : TE) (t : TA) : TE := fun σ H Q => ta σ H fun x H1 => ∃ a C dx fs, x = .ref a ∧ H1 a = some (.ins C dx fs) ∧ dom C ∧ fs.lookup m = none ∧ t σ H1 fun vs H2 => sp C (x :: vs) H2 Q E
def Fam (P : Program) (w : World) (K : PySem.W.Frag) (mg : Str → Option Value) (base : Heap) (CX : CXT) (k : Nat) (dom : Addr → Prop) (m : Str) (ps : List Str) (sp : Addr → Sp) : Prop :=
  ∀ C, dom C → ∃ f fd, Cls K C ∧ Meth K C m f ∧ FnOk P w K mg base CX k f fd ps (sp C) ∧ Binds K fd ps []
theorem pe_methF {pl : Sem Bool} {CX : CXT} {k : Nat} {ps : List Str} {dom : Addr → Prop} {sp : Addr → Sp} {E : XK} {m : Str} {pos apos : Pos} {e o : Expr} {es : List Expr} {ta : TE} {t : TA} (he : PE X o ta) (F : Fam X.prog X.w X.K X.mg X.base CX k dom m ps sp) (hr : Room k X.A) (hx : Passes CX X E) (ha : PA X (e :: es) t)
    (hst : starEach (e :: es) X.env = (false, eval e X.env) :: starEach es X.env := by rfl) (hpl : (backTo pos (starEach es X.env)).any (·.1) = false := by rfl)
    (ht : eval (.Call (.Attribute o m apos) (e :: es) [] pos) X.env = (do
      let ov ← eval o X.env
      standAt apos.atName
      let (f, first) ← holding [ov] (getMethod ov m pl)
      callWith pos f first (backTo pos (starEach (e :: es) X.env)) (backToKw pos (keywordEach [] X.env))) := by rfl) :
    PE X (.Call (.Attribute o m apos) (e :: es) [] pos) (tMethF dom m sp E ta t) := by
  intro pins s σ H Q I h
  refine PySem.W.methodCall_KW (pl := pl) (thn (he pins s σ H _ I h) fun u s1 ⟨x, H1, I1, rx, a, C, dx, fs, ex, ea, hd, l, q⟩ => ?_) ht
  subst ex
  obtain rfl : u = Value.ref a := rx
  obtain ⟨f, fd, c, hm, G, hb⟩ := F C hd
  refine getmeth_ok I1 ea c hm l ?_
  refine PySem.W.callWith_K (first := [.ref a]) (h₀ := X.base) I.ok.mod.kin hm.kp (thn (ha pos pins s1 σ H1 _ I1 q) fun us s2 ⟨vs, H2, I2, r, q2⟩ => ⟨I2.kIn, ?_⟩) hst hpl
  exact run_fn (us := .ref a :: us) (vs := .ref a :: vs) G hr hb .nil hx I2 (.cons rfl r) (by rw [List.append_nil]; exact q2)
theorem pe_methF0 {pl : Sem Bool} {CX : CXT} {k : Nat} {ps : List Str} {dom : Addr → Prop} {sp : Addr → Sp} {E : XK} {m : Str} {pos apos : Pos} {o : Expr} {ta : TE} (he : PE X o ta) (F : Fam X.prog X.w X.K X.mg X.base CX k dom m ps sp) (hr : Room k X.A) (hx : Passes CX X E)
    (ht : eval (.Call (.Attribute o m apos) [] [] pos) X.env = (do
      let ov ← eval o X.env
      standAt apos.atName
      let (f, first) ← holding [ov] (getMethod ov m pl)
      callWith pos f first (backTo pos (starEach [] X.env)) (backToKw pos (keywordEach [] X.env))) := by rfl) :
    PE X (.Call (.Attribute o m apos) [] [] pos) (tMethF dom m sp E ta tNil) := by
  intro pins s σ H Q I h
  refine PySem.W.methodCall_KW (pl := pl) (thn (he pins s σ H _ I h) fun u s1 ⟨x, H1, I1, rx, a, C, dx, fs, ex, ea, hd, l, q⟩ => ?_) ht
  subst ex
  obtain rfl : u = Value.ref a := rx
  obtain ⟨f, fd, c, hm, G, hb⟩ := F C hd
  refine getmeth_ok I1 ea c hm l ?_
  exact PySem.W.callWith_K0 (first := [.ref a]) I1.kIn hm.kp (run_fn (us := [.ref a]) (vs := [.ref a]) G hr hb .nil hx I1 (.cons rfl .nil) q)
/-! ### C.m(..), C a class of the text: no object goes ahead -/
structure ClsFn (K : PySem.W.Frag) (C : Addr) (mc : Value) (m : Str) (f : Addr) : Prop where
  ga : PySem.W.specialIn K (.ref C) "__getattribute__" = some (some (.builtin "type.__getattribute__"))
  rd : PySem.W.readsIn K C mc = true
  at_ : PySem.W.findCls K (.ref C) mc m = some (.val (.ref f))
  kp : PySem.W.keepIn K (.ref f) = true
theorem pe_clsFn {pl : Sem Bool} {CX : CXT} {k : Nat} {f C : Addr} {fd : FuncData} {mc : Value} {ps : List Str} {sp : Sp} {E : XK} {x m : Str} {p pos apos : Pos} {e : Expr} {es : List Expr} {t : TA} (c : ClsFn X.K C mc m f) (G : FnOk X.prog X.w X.K X.mg X.base CX k f fd ps sp) (hr : Room k X.A) (hg : Gl X x) (hm : X.mg x = some (.ref C))
    (hb : Binds X.K fd ps []) (hx : Passes CX X E) (ha : PA X (e :: es) t) (hdb : (x == ("__debug__" : Str)) = false := by decide)
    (hst : starEach (e :: es) X.env = (false, eval e X.env) :: starEach es X.env := by rfl) (hpl : (backTo pos (starEach es X.env)).any (·.1) = false := by rfl)
    (ht : eval (.Call (.Attribute (.Name x p) m apos) (e :: es) [] pos) X.env = (do
      let ov ← eval (.Name x p) X.env
      standAt apos.atName
      let (f, first) ← holding [ov] (getMethod ov m pl)
      callWith pos f first (backTo pos (starEach (e :: es) X.env)) (backToKw pos (keywordEach [] X.env))) := by rfl) :
    PE X (.Call (.Attribute (.Name x p) m apos) (e :: es) [] pos) (tCall sp [] E t) := by
  intro pins s σ H Q I h
  refine PySem.W.methodCall_KW (pl := pl) (ld_glob I hg hm ?_ hdb) ht
  refine PySem.W.method_cls I.kIn c.ga (PySem.W.cls_value I.kIn c.rd c.at_ rfl ?_)
  have I1 := I.tok (s.toks + 1)
  refine PySem.W.callWith_K (first := []) (h₀ := X.base) I.ok.mod.kin c.kp (thn (ha pos pins _ σ H _ I1 h) fun us s2 ⟨vs, H2, I2, r, q2⟩ => ⟨I2.kIn, ?_⟩) hst hpl
  exact run_fn (us := us) (vs := vs) G hr hb .nil hx I2 r q2
/-! ### isinstance -/
theorem call_isi : CallR X (.builtin "isinstance") (fun xs H Q => ∃ (x cv : V) (c t : Value) (b : Bool), xs = [x, cv] ∧ (∀ u, RelV cv u → u = c) ∧ TyOf X.K H x t ∧ PySem.W.kitOne X.K t c = some b ∧ Q (.bl b) H) := by
  intro pins s σ H xs us Q I r h
  obtain ⟨x, cv, c, t, b, rfl, hc, ty, e, q⟩ := h
  obtain ⟨u, w', rfl, r1, r2⟩ := vals2 r
  have := hc _ r2
  subst this
  exact isinst_ok I r1 ty e fun tk => ⟨.bl b, H, I.tok tk, rfl, q⟩
theorem kit_ss (K : PySem.W.Frag) (n : String) : PySem.W.kitOne K (.type n) (.type n) = some true := by
  unfold PySem.W.kitOne
  rw [if_pos (by simp)]
/-! ### xs.extend(a tuple) -/
section
open AutoSeq1 (wpAny_loadPart')
open MeetsSeq MeetsSeq2 MeetsSeq3 AutoSeq1
theorem list_extend_tup (l : Addr) (items : Array Value) (n : Nat) (b : Addr) (items2 : Array Value) (n2 : Nat) (d2 : Option Addr) (s2 : Array (Option Value)) (hs0 : ¬(!items.isEmpty && Builtin.List.listTooLong (items.size + items2.size)) = true) (hs1 : items.size ≤ sizeLine) (hs2 : items.size + items2.size ≤ sizeLine + 1) :
    Meets (Builtin.«list.extend» ⟨[.ref l, .ref b], []⟩) (fun _ R s => s.heap.get? l = some { cls := .type "list", dict := none, data := .seq items n, slots := #[] } ∧ s.heap.get? b = some { cls := .type "tuple", dict := d2, data := .seq items2 n2, slots := s2 } ∧ R (.ok (.ret Value.none)) { s with heap := s.heap.update l (Obj.mapSeq fun x => x ++ items2), toks := s.toks }) :=
  .of_wp fun prog w A R s h => by
    obtain ⟨hp, g, d, tk, os⟩ := s; obtain ⟨hl, hb, h⟩ := h; have f1 := idx_int; have f2 := AutoSeq1.sub_tuple_tuple; have f3 := AutoSeq1.sub_list_list; have f4 := AutoSeq1.sub_tuple_list; have f5 := AutoSeq1.sub_list_tuple;
    have hz' : (items ++ items2).size ≤ sizeLine + 1 := by rw [Array.size_append]; exact hs2
    wp_walk using (wpAny_updateSeq hl rfl (hz := hs1) (_hz' := hz')), wpAny_loadPart' hl, wpAny_loadPart' hb; exact ⟨_, rfl, h⟩
end
theorem mt_extendT : MtM X "list.extend" (fun x vs H Q => ∃ l b xs zs, x = .ref l ∧ vs = [.ref b] ∧ H l = some (.lst xs) ∧ SqT X.K H b zs ∧ xs.length + zs.length ≤ sizeLine ∧ Q .non (upd H l (.lst (xs ++ zs)))) := by
  intro pins s σ H x vs v us Q I rx rv h
  obtain ⟨l, b, xs, zs, rfl, rfl, hH, hB, hz, q⟩ := h
  cases rx
  obtain ⟨u, rfl, ru⟩ := rv.one
  cases ru
  obtain ⟨z, its, n, r, hl, e⟩ := I.lstM hH
  obtain ⟨its2, r2, p2, z2⟩ := I.tuple hB
  have hl2 := r2.length
  obtain ⟨⟨c2, d2, t2, o2⟩, e2, f2, n2, m2⟩ := id p2
  simp only at f2 m2
  subst f2 m2
  have hsz : its.toArray.size + its2.toArray.size ≤ sizeLine := by rw [List.size_toArray, List.size_toArray]; omega
  have hlong : ¬ (!its.toArray.isEmpty && Builtin.List.listTooLong (its.toArray.size + its2.toArray.size)) = true := by
    rw [notLongL hsz, Bool.and_false]
    exact Bool.false_ne_true
  refine call_meets PySem.F.slot_list_extend ⟨_, e, rfl⟩ PySem.F.entry_list_extend (PySem.F.args_list_extend_2 _ _)
    (list_extend_tup l its.toArray n b its2.toArray n2 d2 o2 hlong (by rw [List.size_toArray]; omega) (by omega)) ⟨e, e2, ?_⟩
  refine ⟨.non, _, I.lset (its' := its ++ its2) hH e (by simp) (r.append r2) ?_, rfl, q⟩
  rw [List.length_append]
  omega
/-! ### dicts -/
/-- xs == [] -/
theorem op_eq_nil (hu : X.A.units + 8 < cLine) : OpR X (compareOp .Eq) (fun x y H Q => ∃ a b xs, x = .ref a ∧ y = .ref b ∧ SqL X.K H a xs ∧ SqL X.K H b [] ∧ Q (.bl xs.isEmpty) H) := by
  intro pins s σ H x y v u Q I r1 r2 h
  obtain ⟨a, b, xs, rfl, rfl, h1, h2, q⟩ := h
  cases r1
  cases r2
  obtain ⟨i1, w1, p1, z1⟩ := I.list h1
  obtain ⟨i2, w2, p2, z2⟩ := I.list h2
  cases w2
  cases xs with
  | nil =>
    cases w1
    exact SeqAt.RcAt.lists (A := X.A) (e := fun _ => true) p1.isList p2.isList rfl (by omega) (fun j j1 => absurd j1 (Nat.not_lt_zero _)) _ _ _ _ ⟨.bl true, H, I, rfl, q⟩
  | cons x r =>
    have l1 := w1.length
    refine SeqAt.RcAt.lists_lengths (A := X.A) p1.isList p2.isList ?_ (by omega) _ _ _ _ ⟨.bl false, H, I, rfl, q⟩
    simp only [List.size_toArray, ← l1]
    rfl
/-! ### sum of ints -/
theorem preSum_take (ns : List Int) : ∀ n : Nat, n ≤ ns.length → preSum (fun i => ns.getD i 0) n = (ns.take n).sum
  | 0, _ => rfl
  | n + 1, h => by
    show preSum (fun i => ns.getD i 0) n + ns.getD n 0 = _
    have hn : n < ns.length := h
    rw [preSum_take ns n (by omega), List.take_add_one, List.getElem?_eq_getElem hn, List.sum_append, List.getD_eq_getElem?_getD, List.getElem?_eq_getElem hn]
    simp
theorem call_sum_ints (hc : X.calm = true) : CallR X (.builtin "sum") (fun xs H Q => ∃ (p : Addr) (ns : List Int), xs = [.ref p] ∧ SqL X.K H p (ns.map V.int) ∧ Q (.int ns.sum) H) := by
  intro pins s σ H xs us Q I r h
  obtain ⟨p, ns, rfl, hq, q⟩ := h
  obtain ⟨u, rfl, rx⟩ := vals1 r
  cases rx
  obtain ⟨its, r', pl, hz⟩ := I.list hq
  have hlen := r'.length
  rw [List.length_map] at hlen
  have hi := intsAre_of r'
  obtain ⟨op, hop, _⟩ := id pl.isList
  have hlt : p < s.heap.objs.size := Heap.lt_size hop
  have hh : X.A.in1.handled = none := by simp [I.ok.hd hc]
  refine call_sum_walkAnyS (wpAny_pyIter_list pl.isList ⟨s.heap.objs.size, _, _, _, its.toArray.size, _, _, fun i => ns.getD i 0, rfl, (Walks.list hh _ p (Nat.ne_of_lt hlt) its.toArray).toS, ⟨⟨_, Heap.get?_push_size _ rfl, rfl, rfl⟩, pl.isList.push _⟩, fun b hb => ?_, fun i v e => ?_, fun s' t' hm => ?_⟩)
  · show b < (s.heap.push _).objs.size
    rw [Heap.size_push]
    rcases List.mem_cons.mp hb with e | hb
    · rw [e]; exact Nat.lt_succ_self _
    · rw [List.mem_singleton.mp hb]; exact Nat.lt_succ_of_lt hlt
  · exact PyProof.Rows.IntsAre.int_at hi i v (by simpa using e)
  · have hk : ∀ b o, s.heap.get? b = some o → s'.heap.get? b = some o := fun b o e =>
      hm.heap b o (fun hI => absurd (Heap.lt_size e) (by rw [List.mem_singleton.mp hI]; exact Nat.lt_irrefl _)) (Heap.get?_push_of_some _ e)
    have e1 : preSum (fun i => ns.getD i 0) its.toArray.size = ns.sum := by
      rw [List.size_toArray, ← hlen, preSum_take ns ns.length (Nat.le_refl _), List.take_length]
    rw [e1]
    rw [Moved.eq_with hm]
    exact ⟨.int ns.sum, H, I.kept (t' := s'.toks) hk, ⟨_, rfl⟩, q⟩
end
end L2
namespace L2
open PySem PySem.Spec PyProof.Rows
theorem best_le (val : Nat → Int) : ∀ k i, i ≤ k → val i ≤ val (argBest (fun i j => decide (val j < val i)) k) ∧ argBest (fun i j => decide (val j < val i)) k ≤ k
  | 0, i, h => by
    have : i = 0 := by omega
    subst this
    exact ⟨Int.le_refl _, Nat.le_refl _⟩
  | k + 1, i, h => by
    unfold argBest
    have ih := fun i hi => best_le val k i hi
    by_cases hc : val (argBest (fun i j => decide (val j < val i)) k) < val (k + 1)
    · rw [if_pos (by simpa using hc)]
      refine ⟨?_, Nat.le_refl _⟩
      rcases Nat.lt_or_ge i (k + 1) with z | z
      · have := (ih i (by omega)).1; omega
      · have : i = k + 1 := by omega
        subst this; exact Int.le_refl _
    · rw [if_neg (by simpa using hc)]
      refine ⟨?_, Nat.le_succ_of_le (ih 0 (Nat.zero_le _)).2⟩
      rcases Nat.lt_or_ge i (k + 1) with z | z
      · exact (ih i (by omega)).1
      · have : i = k + 1 := by omega
        subst this; omega
section
variable {prog : Program} {w : World} {A : Around} {R : Result → Shared → Prop} {I : Addr} {fp wr : List Addr} {n : Nat} {P : Nat → Value → Prop} {St : Nat → Heap → Prop} {kw : List (Str × Value)}
theorem maxd_loop (W : Walks prog w A.in1 I fp wr n P St) (bt : Nat → Nat → Bool) (hcmp : CmpOf prog w A.in1 .Gt P bt) (S : Addr) (hSf : S ∉ fp) :
    ∀ (k j : Nat) (s : Shared) (vb : Value) (c : Nat), n - (j + 1) = k → j + 1 ≤ n → St (j + 1) s.heap → P (argBest bt j) vb →
    s.heap.get? S = some { cls := .type "list", dict := none, data := .seq #[vb, vb] c, slots := #[] } →
    (∀ v h' tk, P (argBest bt (n - 1)) v → (∀ b o, b ∉ wr → b ≠ S → s.heap.get? b = some o → h'.get? b = some o) → R (.ok (.ret v)) { s with heap := h', toks := tk }) →
    codeAny (model prog w) A (.builtin "max.loop" ⟨[.ref I, .none, .ref S], kw⟩) R s := by
  have hSw : S ∉ wr := fun h => hSf (W.sub _ h)
  have hname : (toString "max" ++ toString ".loop" : String) = "max.loop" := by decide
  intro k
  induction k with
  | zero =>
    intro j s vb c hk hj hst hPb hS hR
    have hin : j + 1 = n := by omega
    refine codeAny_builtin PySem.F.entry_max_loop ?_
    rw [Around.under_plainId PySem.F.plain_max_loop _]
    show wpAny _ A.in1 (seqItems? (.ref S) >>= _) _ _ s
    refine wpAny_bind (wpAny_seqItems hS rfl ?_)
    show wpAny _ A.in1 (tryCatch (pyNext (.ref I)) _ >>= _) _ _ s
    refine wpAny_bind (wpAny_tryCatch (W.done s _ _ (hin ▸ hst) fun h' tk hk' => ?_))
    have hS' := hk' S _ hSw hS
    show wpAny _ A.in1 (updateSeq S (fun _ => #[]) >>= _) _ _ _
    refine wpAny_bind ?_
    refine wpAny_updateSeq hS' rfl (wpAny_bind (wpAny_letGo (wpAny_pure ?_)))
    refine hR vb _ tk (by rw [← hin]; exact hPb) fun b o hbw hbS e => (Heap.get?_update_other _ _ (Ne.symm hbS)).trans (hk' b o hbw e)
  | succ k ih =>
    intro j s vb c hk hj hst hPb hS hR
    have hlt : j + 1 < n := by omega
    refine codeAny_builtin PySem.F.entry_max_loop ?_
    rw [Around.under_plainId PySem.F.plain_max_loop _]
    show wpAny _ A.in1 (seqItems? (.ref S) >>= _) _ _ s
    refine wpAny_bind (wpAny_seqItems hS rfl ?_)
    show wpAny _ A.in1 (tryCatch (pyNext (.ref I)) _ >>= _) _ _ s
    refine wpAny_bind (wpAny_tryCatch (W.item (j + 1) s _ _ hlt hst fun v h' tk hP hst' hk' => ?_))
    have hS' := hk' S _ hSw hS
    show wpAny _ A.in1 (tryCatch (holding [v, v] (richCompare .Gt v vb >>= _)) _ >>= _) _ _ _
    refine wpAny_bind (wpAny_tryCatch (wpAny_holding (wpAny_bind (hcmp (j + 1) (argBest bt j) v vb _ _ _ hP hPb ?_))))
    refine wpAny_bind (wpAny_holding (wpAny_truthy_bool ?_))
    refine wpAny_bind (wpAny_letGo (wpAny_pure ?_))
    cases hb : bt (j + 1) (argBest bt j) with
    | true =>
      simp only [if_true]
      refine wpAny_bind ?_
      refine wpAny_updateSeq hS' rfl (wpAny_bind (wpAny_letGo ?_))
      rw [hname]
      refine wpAny_pure ⟨plainId_quiet PySem.F.plain_max_loop _, ih (j + 1) _ v _ (by omega) hlt (W.frame _ _ _ hst' fun b hbf o e => ?_) (by simp only [argBest, hb, if_true]; exact hP) (Heap.get?_update_self _ hS' rfl)
        fun v' h'' tk'' hP' hk'' => ?_⟩
      · exact (Heap.get?_update_other _ _ (fun h : S = b => hSf (by rw [h]; exact hbf))).trans e
      · exact hR v' h'' tk'' hP' fun b o hbw hbS e => hk'' b o hbw hbS ((Heap.get?_update_other _ _ (Ne.symm hbS)).trans (hk' b o hbw e))
    | false =>
      simp only [Bool.false_eq_true, if_false]
      refine wpAny_bind (wpAny_letGo ?_)
      rw [hname]
      refine wpAny_pure ⟨plainId_quiet PySem.F.plain_max_loop _, ih (j + 1) _ vb c (by omega) hlt hst' (by simp only [argBest, hb, Bool.false_eq_true, if_false]; exact hPb) hS' fun v' h'' tk'' hP' hk'' => ?_⟩
      exact hR v' h'' tk'' hP' fun b o hbw hbS e => hk'' b o hbw hbS (hk' b o hbw e)
theorem maxd_first (W : Walks prog w A.in1 I fp wr n P St) (bt : Nat → Nat → Bool) (hcmp : CmpOf prog w A.in1 .Gt P bt) (S : Addr) (hSf : S ∉ fp) (hn : 0 < n) {s : Shared} {c : Nat} (hst : St 0 s.heap)
    (hS : s.heap.get? S = some { cls := .type "list", dict := none, data := .seq #[] c, slots := #[] })
    (hR : ∀ v h' tk, P (argBest bt (n - 1)) v → (∀ b o, b ∉ wr → b ≠ S → s.heap.get? b = some o → h'.get? b = some o) → R (.ok (.ret v)) { s with heap := h', toks := tk }) :
    codeAny (model prog w) A (.builtin "max.loop" ⟨[.ref I, .none, .ref S], kw⟩) R s := by
  have hSw : S ∉ wr := fun h => hSf (W.sub _ h)
  have hname : (toString "max" ++ toString ".loop" : String) = "max.loop" := by decide
  refine codeAny_builtin PySem.F.entry_max_loop ?_
  rw [Around.under_plainId PySem.F.plain_max_loop _]
  show wpAny _ A.in1 (seqItems? (.ref S) >>= _) _ _ s
  refine wpAny_bind (wpAny_seqItems hS rfl ?_)
  show wpAny _ A.in1 (tryCatch (pyNext (.ref I)) _ >>= _) _ _ s
  refine wpAny_bind (wpAny_tryCatch (W.item 0 s _ _ hn hst fun v h' tk hP hst' hk' => ?_))
  have hS' := hk' S _ hSw hS
  show wpAny _ A.in1 (updateSeq S (fun _ => #[v, v]) >>= _) _ _ _
  refine wpAny_bind ?_
  refine wpAny_updateSeq hS' rfl ?_
  rw [hname]
  refine wpAny_pure ⟨plainId_quiet PySem.F.plain_max_loop _, maxd_loop W bt hcmp S hSf _ 0 _ v _ rfl hn (W.frame _ _ _ hst' fun b hbf o e => ?_) hP (Heap.get?_update_self _ hS' rfl) fun v' h'' tk'' hP' hk'' => ?_⟩
  · exact (Heap.get?_update_other _ _ (fun h : S = b => hSf (by rw [h]; exact hbf))).trans e
  · exact hR v' h'' tk'' hP' fun b o hbw hbS e => hk'' b o hbw hbS ((Heap.get?_update_other _ _ (Ne.symm hbS)).trans (hk' b o hbw e))
theorem maxd_none (W : Walks prog w A.in1 I fp wr 0 P St) (S : Addr) (hSf : S ∉ fp) {s : Shared} {c : Nat} {d : Value} {nm : Str} (hst : St 0 s.heap)
    (hS : s.heap.get? S = some { cls := .type "list", dict := none, data := .seq #[] c, slots := #[] })
    (hR : ∀ h' tk, (∀ b o, b ∉ wr → s.heap.get? b = some o → h'.get? b = some o) → R (.ok (.ret d)) { s with heap := h', toks := tk }) :
    codeAny (model prog w) A (.builtin "max.loop" ⟨[.ref I, .none, .ref S], [(nm, d)]⟩) R s := by
  refine codeAny_builtin PySem.F.entry_max_loop ?_
  rw [Around.under_plainId PySem.F.plain_max_loop _]
  show wpAny _ A.in1 (seqItems? (.ref S) >>= _) _ _ s
  refine wpAny_bind (wpAny_seqItems hS rfl ?_)
  show wpAny _ A.in1 (tryCatch (pyNext (.ref I)) _ >>= _) _ _ s
  refine wpAny_bind (wpAny_tryCatch (W.done s _ _ hst fun h' tk hk' => ?_))
  refine wpAny_bind (wpAny_rule ?_)
  exact wpAny_pure (hR h' tk hk')
end
section
variable {X : Cx}
theorem args_maxd (a d : Value) : argsOk "max" ⟨[a], [(Str.ofString "default", d)]⟩ := by unfold argsOk; kernel_rfl
/-- a call of a built-in function with keywords, by values -/
def CallKR (X : Cx) (f : Value) (ks : List Str) (r : List V → List V → Hp → VK → Prop) : Prop :=
  ∀ (pins : List (Addr × Obj)) (s : Shared) (σ : St) (H : Hp) (xs zs : List V) (us ws : List Value) (Q : VK), Inv X pins σ H s → Vals xs us → Vals zs ws → r xs zs H Q → wpAny (model X.prog X.w) X.A (call f us (ks.zip ws)) (EP X pins σ Q) X.xe s
def tCBK (r : List V → List V → Hp → VK → Prop) (t tk : TA) : TE := fun σ H Q => t σ H fun vs H1 => tk σ H1 fun zs H2 => r vs zs H2 Q
theorem pe_callBK {x : Str} {p pos : Pos} {e : Expr} {es : List Expr} {kws : List Keyword} {ks : List Str} {t tk : TA} {id : String} {r : List V → List V → Hp → VK → Prop} (hc : CallKR X (.builtin id) ks r) (hg : Gl X x) (hm : X.mg x = none) (hv : bootBuiltins x = some (.builtin id)) (ha : PA X (e :: es) t) (hkw : PK X kws tk)
    (hks : (backToKw pos (keywordEach kws X.env)).filterMap (·.1) = ks := by rfl) (hn : x ≠ "__name__" := by decide) (hdb : (x == ("__debug__" : Str)) = false := by decide)
    (he : backTo pos (starEach (e :: es) X.env) = (false, eval e X.env) :: backTo pos (starEach es X.env) := by rfl) (hpl : (backTo pos (starEach (e :: es) X.env)).any (·.1) = false := by rfl)
    (hall : (backToKw pos (keywordEach kws X.env)).all (·.1.isSome) = true := by rfl) (hkn : (backToKw pos (keywordEach kws X.env)).any (·.1.isNone) = false := by rfl) : PE X (.Call (.Name x p) (e :: es) kws pos) (tCBK r t tk) := by
  intro pins s σ H Q I h
  refine wpAny_Call_Name_kw (ld_blt I hg hm hv ?_ hn hdb)
  refine PyProof.Rows.callWith_kw (thn (ha pos pins s σ H _ I h) fun us s1 ⟨vs, H1, I1, r1, q1⟩ => thn (hkw pos pins s1 σ H1 _ I1 q1) fun ws s2 ⟨zs, H2, I2, rz, q2⟩ => ?_) he hpl hall hkn
  rw [hks]
  exact hc pins s2 σ H2 vs zs us ws Q I2 r1 rz q2
/-- max(a list of ints, default=an int) -/
theorem call_max_dflt (hc : X.calm = true) : CallKR X (.builtin "max") ["default"] (fun xs zs H Q => ∃ (p : Addr) (ns : List Int) (d : Int), xs = [.ref p] ∧ zs = [.int d] ∧ SqL X.K H p (ns.map V.int) ∧ ∀ m : Int, (∀ n ∈ ns, n ≤ m) → (m ∈ ns ∨ (ns = [] ∧ m = d)) → Q (.int m) H) := by
  intro pins s σ H xs zs us ws Q I r rz h
  obtain ⟨p, ns, d, rfl, rfl, hq, q⟩ := h
  obtain ⟨u, rfl, rx⟩ := vals1 r
  obtain ⟨u2, rfl, rd⟩ := vals1 rz
  cases rx
  obtain ⟨dt, rfl⟩ := (show ∃ t, u2 = Value.int d t from rd)
  obtain ⟨its, r', pl, hz⟩ := I.list hq
  have hlen := r'.length
  rw [List.length_map] at hlen
  have hi := intsAre_of r'
  obtain ⟨op, hop, _⟩ := id pl.isList
  have hlt : p < s.heap.objs.size := Heap.lt_size hop
  have hh : X.A.in1.handled = none := by simp [I.ok.hd hc]
  have hname : (toString "max" ++ toString ".loop" : String) = "max.loop" := by decide
  show wpAny _ _ (call (.builtin "max") [.ref p] [(Str.ofString "default", .int d dt)]) _ _ s
  refine wpAny_call (codeAny_call_builtin PySem.F.plain_max PySem.F.entry_max ?_)
  have fin : wpAny (model X.prog X.w) X.A.in1 (Builtin.«max» ⟨[.ref p], [(Str.ofString "default", .int d dt)]⟩) (fun fin s' => match fin with
      | .done f => (match (Except.ok f : Result) with | .ok (.ret v) => EP X pins σ Q v s' | .ok _ => False | .error e => X.xe e s')
      | .again c' => c'.quiet = true ∧ codeAny (model X.prog X.w) X.A c' (fun r s' => match r with | .ok (.ret v) => EP X pins σ Q v s' | .ok _ => False | .error e => X.xe e s') s') (fun e s' => X.xe e s') s := by
    show wpAny _ X.A.in1 (Builtin.Builtins.bindParams "max" ["key", "default"] 0 ⟨[], [(Str.ofString "default", .int d dt)]⟩ >>= _) _ _ s
    refine wpAny_bind (wpAny_of_eq (show Builtin.Builtins.bindParams "max" ["key", "default"] 0 ⟨[], [(Str.ofString "default", .int d dt)]⟩ = pure [none, some (.int d dt)] from rfl) ?_)
    refine wpAny_bind (wpAny_pure ?_)
    refine wpAny_bind (wpAny_pyIter_list pl.isList ?_)
    refine wpAny_bind (wpAny_newObj_type ?_)
    rw [hname]
    generalize hH2 : (s.heap.push { cls := .type "list_iterator", data := .fields #[.ref p, .int 0 0] }) = H2
    have hsz : H2.objs.size = s.heap.objs.size + 1 := by rw [← hH2, Heap.size_push]
    have st0 : H2.IsListIter s.heap.objs.size p 0 ∧ H2.IsList p its.toArray := by
      rw [← hH2]; exact ⟨⟨_, Heap.get?_push_size _ rfl, rfl, rfl⟩, pl.isList.push _⟩
    have kp : ∀ b o, s.heap.get? b = some o → H2.get? b = some o := fun b o e => hH2 ▸ Heap.get?_push_of_some _ e
    have hSf : H2.objs.size ∉ [s.heap.objs.size, p] := by
      rw [hsz]; simp only [List.mem_cons, List.not_mem_nil, or_false, not_or]
      exact ⟨Nat.succ_ne_self _, Nat.ne_of_gt (Nat.lt_succ_of_lt hlt)⟩
    have W := Walks.list (prog := X.prog) (w := X.w) hh s.heap.objs.size p (Nat.ne_of_lt hlt) its.toArray
    have st1 := W.frame 0 _ (H2.push { cls := .type "list", data := .seq ([] : List Value).toArray }) st0 fun b _ o e => Heap.get?_push_of_some _ e
    have done : ∀ (v : Value) (h' : Heap) (tk : Nat), (∀ b o, b ∉ [s.heap.objs.size] → b ≠ H2.objs.size → (H2.push { cls := .type "list", data := .seq ([] : List Value).toArray }).get? b = some o → h'.get? b = some o) → (∃ m : Int, (∃ t, v = .int m t) ∧ (∀ n ∈ ns, n ≤ m) ∧ (m ∈ ns ∨ (ns = [] ∧ m = d))) → EP X pins σ Q v { s with heap := h', toks := tk } := by
      rintro v h' tk hk ⟨m, ⟨t, rfl⟩, h1, h2⟩
      refine ⟨.int m, H, I.kept (t' := tk) (fun b o e => hk b o (fun z => ?_) ?_ (Heap.get?_push_of_some _ (kp b o e))), ⟨_, rfl⟩, q m h1 h2⟩
      · rw [List.mem_singleton.mp z] at e
        exact absurd (Heap.lt_size e) (Nat.lt_irrefl _)
      · have := Heap.lt_size e
        exact Nat.ne_of_lt (by rw [hsz]; exact Nat.lt_succ_of_lt this)
    cases ns with
    | nil =>
      have e0 : its = [] := List.eq_nil_of_length_eq_zero (by simpa using hlen.symm)
      subst e0
      refine wpAny_pure ⟨plainId_quiet PySem.F.plain_max_loop _, maxd_none (R := _) W H2.objs.size hSf st1 (Heap.get?_push_size _ rfl) fun h' tk hk => ?_⟩
      exact done _ h' tk (fun b o hb _ e => hk b o hb e) ⟨d, ⟨dt, rfl⟩, by simp, .inr ⟨rfl, rfl⟩⟩
    | cons a r =>
      have hn : 0 < its.toArray.size := by rw [List.size_toArray, ← hlen, List.length_cons]; omega
      have cmp : CmpOf X.prog X.w X.A.in1 .Gt (fun i v => its.toArray[i]? = some v) (fun i j => decide ((a :: r).getD j 0 < (a :: r).getD i 0)) := by
        intro i j vi vj s' Q' E' hi' hj' hQ'
        obtain ⟨t1, rfl⟩ := PyProof.Rows.IntsAre.int_at hi i vi (by simpa using hi')
        obtain ⟨t2, rfl⟩ := PyProof.Rows.IntsAre.int_at hi j vj (by simpa using hj')
        exact PyProof.Rows.gt_int hQ'
      refine wpAny_pure ⟨plainId_quiet PySem.F.plain_max_loop _, maxd_first W _ cmp H2.objs.size hSf hn st1 (Heap.get?_push_size _ rfl) fun v h' tk hP hk => ?_⟩
      have bl := best_le (fun i => (a :: r).getD i 0) (its.toArray.size - 1)
      generalize argBest (fun i j => decide ((a :: r).getD j 0 < (a :: r).getD i 0)) (its.toArray.size - 1) = ix at hP bl
      obtain ⟨t1, rfl⟩ := PyProof.Rows.IntsAre.int_at hi ix v (by rw [← List.getElem?_toArray]; exact hP)
      refine done _ h' tk hk ⟨_, ⟨t1, rfl⟩, fun n hn' => ?_, .inl ?_⟩
      · obtain ⟨i, hi', e⟩ := List.mem_iff_getElem.mp hn'
        have := (bl i (by rw [List.size_toArray, ← hlen]; omega)).1
        have e2 : (a :: r).getD i 0 = n := by rw [List.getD_eq_getElem?_getD, List.getElem?_eq_getElem hi', e]; rfl
        rw [e2] at this
        exact this
      · have hb := (bl 0 (Nat.zero_le _)).2
        have hlt2 : ix < (a :: r).length := by
          rw [List.size_toArray, ← hlen] at hb
          simp only [List.length_cons] at hb ⊢
          omega
        rw [List.getD_eq_getElem?_getD, List.getElem?_eq_getElem hlt2]
        exact List.getElem_mem hlt2
  simp only [checkBuiltinCall, PySem.F.kind_max]
  cases hsig : Manifest.signature? "max" with
  | none => exact wpAny_pure fin
  | some sig =>
    have ha' : Bind.checkArgs "max" sig ⟨[.ref p], [(Str.ofString "default", .int d dt)]⟩ = pure () := by
      have := args_maxd (.ref p) (.int d dt)
      simpa only [argsOk, hsig] using this
    simp only [ha']
    exact wpAny_pure fin
/-! ### the same, the written part told -/
def rIsi (K : PySem.W.Frag) : List V → Hp → VK → Prop := fun xs H Q => ∃ (x cv : V) (c t : Value) (b : Bool), xs = [x, cv] ∧ (∀ u, RelV cv u → u = c) ∧ TyOf K H x t ∧ PySem.W.kitOne K t c = some b ∧ Q (.bl b) H
theorem call_isiK {K : PySem.W.Frag} (hK : X.K = K) : CallR X (.builtin "isinstance") (rIsi K) := by
  subst hK; exact call_isi
theorem pe_fldK {K : PySem.W.Frag} {e : Expr} {ta : TE} {f : Str} {pos : Pos} (hK : X.K = K) (he : PE X e ta) (hb : attributeBase e f X.env (eval e X.env) = eval e X.env) : PE X (.Attribute e f pos) (tFld K ta f) := by
  subst hK; exact pe_fld he hb
theorem ix_tupK {K : PySem.W.Frag} (hK : X.K = K) : IxR X (rIxT K) := by
  subst hK; exact ix_tup
end
end L2
/-! ### conditions as data -/
namespace CD
open PySem L2 PyProof.Rows
inductive Cd where
  | truth (b : Bool)
  | same (x y : Key)
  | all (l : List Cd)
  | one (l : List Cd)
  | opp (c : Cd)
def come (f : Str → Int) : Key → Int
  | .inl i => i
  | .inr x => f x
mutual
def ev (f : Str → Int) : Cd → Bool
  | .truth b => b
  | .same x y => come f x == come f y
  | .all l => evA f l
  | .one l => evO f l
  | .opp c => !ev f c
def evA (f : Str → Int) : List Cd → Bool
  | [] => true
  | c :: r => ev f c && evA f r
def evO (f : Str → Int) : List Cd → Bool
  | [] => false
  | c :: r => ev f c || evO f r
end
mutual
def cells : Cd → List Key
  | .truth _ => []
  | .same x y => [x, y]
  | .all l => cellsL l
  | .one l => cellsL l
  | .opp c => cells c
def cellsL : List Cd → List Key
  | [] => []
  | c :: r => cells c ++ cellsL r
end
mutual
def atoms : Cd → Int
  | .truth _ => 0
  | .same _ _ => 1
  | .all l => atomsL l
  | .one l => atomsL l
  | .opp c => atoms c
def atomsL : List Cd → Int
  | [] => 0
  | c :: r => atoms c + atomsL r
end
mutual
def depth : Cd → Nat
  | .truth _ => 1
  | .same _ _ => 1
  | .all l => depthL l + 1
  | .one l => depthL l + 1
  | .opp c => depth c + 1
def depthL : List Cd → Nat
  | [] => 0
  | c :: r => max (depth c) (depthL r)
end
theorem evA_all (f : Str → Int) : ∀ l : List Cd, evA f l = l.all (ev f)
  | [] => by simp [evA]
  | c :: r => by simp [evA, evA_all f r]
theorem evO_any (f : Str → Int) : ∀ l : List Cd, evO f l = l.any (ev f)
  | [] => by simp [evO]
  | c :: r => by simp [evO, evO_any f r]
theorem cellsL_mem {k : Key} : ∀ {l : List Cd}, k ∈ cellsL l ↔ ∃ c ∈ l, k ∈ cells c
  | [] => by simp [cellsL]
  | c :: r => by simp [cellsL, cellsL_mem (l := r)]
theorem depthL_le {n : Nat} : ∀ {l : List Cd}, depthL l ≤ n ↔ ∀ c ∈ l, depth c ≤ n
  | [] => by simp [depthL]
  | c :: r => by simp [depthL, Nat.max_le, depthL_le (l := r)]
theorem atomsL_sum : ∀ l : List Cd, atomsL l = (l.map atoms).sum
  | [] => by simp [atomsL]
  | c :: r => by simp [atomsL, atomsL_sum r]
theorem depth_pos : ∀ c : Cd, 0 < depth c
  | .truth _ => by simp [depth]
  | .same _ _ => by simp [depth]
  | .all _ => by simp [depth]
  | .one _ => by simp [depth]
  | .opp _ => by simp [depth]
mutual
/-- the same at fillings that are alike at the gaps -/
theorem ev_congr {f g : Str → Int} : ∀ c : Cd, (∀ x, Sum.inr x ∈ cells c → f x = g x) → ev f c = ev g c
  | .truth _, _ => by simp [ev]
  | .same x y, h => by
    have hx : come f x = come g x := by
      cases x with
      | inl i => rfl
      | inr s => exact h s (by simp [cells])
    have hy : come f y = come g y := by
      cases y with
      | inl i => rfl
      | inr s => exact h s (by simp [cells])
    simp [ev, hx, hy]
  | .all l, h => by simp only [ev]; exact (evL_congr l h).1
  | .one l, h => by simp only [ev]; exact (evL_congr l h).2
  | .opp c, h => by simp only [ev]; rw [ev_congr c (fun x hx => h x (by simpa [cells] using hx))]
theorem evL_congr {f g : Str → Int} : ∀ l : List Cd, (∀ x, Sum.inr x ∈ cellsL l → f x = g x) → evA f l = evA g l ∧ evO f l = evO g l
  | [], _ => ⟨rfl, rfl⟩
  | c :: r, h => by
    have h1 := ev_congr c (fun x hx => h x (by simp [cellsL, hx]))
    have h2 := evL_congr r (fun x hx => h x (by simp [cellsL, hx]))
    simp only [evA, evO, h1, h2.1, h2.2, and_self]
end
def nogap (c : Cd) : Bool := (cells c).all fun k => k.isLeft
theorem nogap_iff {c : Cd} : nogap c = true ↔ ∀ x, Sum.inr x ∉ cells c := by
  unfold nogap
  rw [List.all_eq_true]
  constructor
  · intro h x hx
    have := h _ hx
    cases this
  · intro h k hk
    cases k with
    | inl i => rfl
    | inr x => exact absurd hk (h x)
def setl (c : Cd) : V := if nogap c = true then .bl (ev (fun _ => 0) c) else .non
theorem setl_yes {c : Cd} (h : nogap c = true) (f : Str → Int) : setl c = .bl (ev f c) := by
  unfold setl
  rw [if_pos h, ev_congr (f := fun _ => 0) (g := f) c (fun x hx => absurd hx (nogap_iff.mp h x))]
theorem setl_no {c : Cd} (h : nogap c = false) : setl c = .non := by
  unfold setl
  rw [if_neg (by rw [h]; exact Bool.false_ne_true)]
/-! ### conditions as objects -/
/-- the five classes -/
structure Cl where
  t : Addr
  s : Addr
  a : Addr
  o : Addr
  p : Addr
def Cl.of (T : Cl) : Cd → Addr
  | .truth _ => T.t
  | .same _ _ => T.s
  | .all _ => T.a
  | .one _ => T.o
  | .opp _ => T.p
def meths : List Str := ["holds", "worked", "truth", "gaps", "standing", "atoms", "put", "replaced"]
/-- what each condition keeps -/
structure Bas (H : Hp) (fs : List (Str × V)) (c : Cd) : Prop where
  gp : ∃ (tg : Addr) (gs : List Str), fs.lookup ("kept_gaps" : Str) = some (.ref tg) ∧ H tg = some (.tup (gs.map V.str)) ∧ gs.Nodup ∧ sortedS gs = true ∧ ∀ x, x ∈ gs ↔ Sum.inr x ∈ cells c
  vp : ∃ (tv : Addr) (vs : List Int), fs.lookup ("kept_values" : Str) = some (.ref tv) ∧ H tv = some (.tup (vs.map V.int)) ∧ vs.Nodup ∧ vs.Pairwise (· ≤ ·) ∧ ∀ x, x ∈ vs ↔ Sum.inl x ∈ cells c
  at_ : fs.lookup ("kept_atoms" : Str) = some (.int (atoms c))
  st : fs.lookup ("settled" : Str) = some (setl c)
mutual
/-- the condition c stands at v -/
def IsC (T : Cl) (H : Hp) : Cd → V → Prop
  | .truth b, v => ∃ a dx fs, v = .ref a ∧ H a = some (.ins T.t dx fs) ∧ (∀ m ∈ meths, fs.lookup m = none) ∧ Bas H fs (.truth b) ∧ fs.lookup ("said" : Str) = some (.bl b)
  | .same x y, v => ∃ a dx fs, v = .ref a ∧ H a = some (.ins T.s dx fs) ∧ (∀ m ∈ meths, fs.lookup m = none) ∧ Bas H fs (.same x y) ∧ fs.lookup ("one" : Str) = some (kV x) ∧ fs.lookup ("other" : Str) = some (kV y)
  | .all l, v => ∃ a dx fs, v = .ref a ∧ H a = some (.ins T.a dx fs) ∧ (∀ m ∈ meths, fs.lookup m = none) ∧ Bas H fs (.all l) ∧ ∃ tp xs, fs.lookup ("parts" : Str) = some (.ref tp) ∧ H tp = some (.tup xs) ∧ IsL T H l xs
  | .one l, v => ∃ a dx fs, v = .ref a ∧ H a = some (.ins T.o dx fs) ∧ (∀ m ∈ meths, fs.lookup m = none) ∧ Bas H fs (.one l) ∧ ∃ tp xs, fs.lookup ("parts" : Str) = some (.ref tp) ∧ H tp = some (.tup xs) ∧ IsL T H l xs
  | .opp c, v => ∃ a dx fs, v = .ref a ∧ H a = some (.ins T.p dx fs) ∧ (∀ m ∈ meths, fs.lookup m = none) ∧ Bas H fs (.opp c) ∧ ∃ u, fs.lookup ("part" : Str) = some u ∧ IsC T H c u
def IsL (T : Cl) (H : Hp) : List Cd → List V → Prop
  | [], xs => xs = []
  | c :: r, xs => ∃ x ys, xs = x :: ys ∧ IsC T H c x ∧ IsL T H r ys
end
/-- its own fields -/
def Own (T : Cl) (H : Hp) (fs : List (Str × V)) : Cd → Prop
  | .truth b => fs.lookup ("said" : Str) = some (.bl b)
  | .same x y => fs.lookup ("one" : Str) = some (kV x) ∧ fs.lookup ("other" : Str) = some (kV y)
  | .all l => ∃ tp xs, fs.lookup ("parts" : Str) = some (.ref tp) ∧ H tp = some (.tup xs) ∧ IsL T H l xs
  | .one l => ∃ tp xs, fs.lookup ("parts" : Str) = some (.ref tp) ∧ H tp = some (.tup xs) ∧ IsL T H l xs
  | .opp c => ∃ u, fs.lookup ("part" : Str) = some u ∧ IsC T H c u
theorem isC_iff {T : Cl} {H : Hp} {c : Cd} {v : V} : IsC T H c v ↔ ∃ a dx fs, v = .ref a ∧ H a = some (.ins (T.of c) dx fs) ∧ (∀ m ∈ meths, fs.lookup m = none) ∧ Bas H fs c ∧ Own T H fs c := by
  cases c <;> simp only [IsC, Own, Cl.of]
/-- tuples and objects stay -/
structure Kp (H H' : Hp) : Prop where
  tup : ∀ b xs, H b = some (.tup xs) → H' b = some (.tup xs)
  ins : ∀ b C dx fs, H b = some (.ins C dx fs) → H' b = some (.ins C dx fs)
theorem Kp.of {H H' : Hp} (s : Same H H') : Kp H H' := ⟨fun b xs h => s b _ h, fun b C dx fs h => s b _ h⟩
theorem Bas.kp {H H' : Hp} {fs : List (Str × V)} {c : Cd} (k : Kp H H') (b : Bas H fs c) : Bas H' fs c := by
  obtain ⟨⟨tg, gs, e1, e2, e3⟩, ⟨tv, vs, e4, e5, e6⟩, e7, e8⟩ := b
  exact ⟨⟨tg, gs, e1, k.tup _ _ e2, e3⟩, ⟨tv, vs, e4, k.tup _ _ e5, e6⟩, e7, e8⟩
mutual
theorem IsC.kp {T : Cl} {H H' : Hp} (k : Kp H H') : ∀ {c : Cd} {v : V}, IsC T H c v → IsC T H' c v
  | .truth b, v, h => by
    simp only [IsC] at h ⊢
    obtain ⟨a, dx, fs, e1, e2, e3, e4, e5⟩ := h
    exact ⟨a, dx, fs, e1, k.ins _ _ _ _ e2, e3, e4.kp k, e5⟩
  | .same x y, v, h => by
    simp only [IsC] at h ⊢
    obtain ⟨a, dx, fs, e1, e2, e3, e4, e5⟩ := h
    exact ⟨a, dx, fs, e1, k.ins _ _ _ _ e2, e3, e4.kp k, e5⟩
  | .all l, v, h => by
    simp only [IsC] at h ⊢
    obtain ⟨a, dx, fs, e1, e2, e3, e4, tp, xs, e5, e6, e7⟩ := h
    exact ⟨a, dx, fs, e1, k.ins _ _ _ _ e2, e3, e4.kp k, tp, xs, e5, k.tup _ _ e6, IsL.kp k e7⟩
  | .one l, v, h => by
    simp only [IsC] at h ⊢
    obtain ⟨a, dx, fs, e1, e2, e3, e4, tp, xs, e5, e6, e7⟩ := h
    exact ⟨a, dx, fs, e1, k.ins _ _ _ _ e2, e3, e4.kp k, tp, xs, e5, k.tup _ _ e6, IsL.kp k e7⟩
  | .opp c, v, h => by
    simp only [IsC] at h ⊢
    obtain ⟨a, dx, fs, e1, e2, e3, e4, u, e5, e6⟩ := h
    exact ⟨a, dx, fs, e1, k.ins _ _ _ _ e2, e3, e4.kp k, u, e5, IsC.kp k e6⟩
theorem IsL.kp {T : Cl} {H H' : Hp} (k : Kp H H') : ∀ {l : List Cd} {xs : List V}, IsL T H l xs → IsL T H' l xs
  | [], xs, h => h
  | c :: r, xs, h => by
    simp only [IsL] at h ⊢
    obtain ⟨x, ys, e, h1, h2⟩ := h
    exact ⟨x, ys, e, IsC.kp k h1, IsL.kp k h2⟩
end
theorem Own.kp {T : Cl} {H H' : Hp} {fs : List (Str × V)} {c : Cd} (k : Kp H H') (h : Own T H fs c) : Own T H' fs c := by
  cases c with
  | truth b => exact h
  | same x y => exact h
  | all l => obtain ⟨tp, xs, e1, e2, e3⟩ := h; exact ⟨tp, xs, e1, k.tup _ _ e2, e3.kp k⟩
  | one l => obtain ⟨tp, xs, e1, e2, e3⟩ := h; exact ⟨tp, xs, e1, k.tup _ _ e2, e3.kp k⟩
  | opp c => obtain ⟨u, e1, e2⟩ := h; exact ⟨u, e1, e2.kp k⟩
theorem isL_get {T : Cl} {H : Hp} : ∀ {l : List Cd} {xs : List V} {i : Nat} {x : V}, IsL T H l xs → xs[i]? = some x → ∃ c, l[i]? = some c ∧ IsC T H c x
  | [], xs, i, x, h, e => by simp only [IsL] at h; subst h; simp at e
  | c :: r, xs, 0, x, h, e => by
    simp only [IsL] at h
    obtain ⟨y, ys, rfl, h1, h2⟩ := h
    simp at e; subst e
    exact ⟨c, rfl, h1⟩
  | c :: r, xs, i + 1, x, h, e => by
    simp only [IsL] at h
    obtain ⟨y, ys, rfl, h1, h2⟩ := h
    obtain ⟨d, h3, h4⟩ := isL_get h2 (i := i) (x := x) (by simpa using e)
    exact ⟨d, by simpa using h3, h4⟩
theorem isL_len {T : Cl} {H : Hp} : ∀ {l : List Cd} {xs : List V}, IsL T H l xs → l.length = xs.length
  | [], xs, h => by simp only [IsL] at h; subst h; rfl
  | c :: r, xs, h => by
    simp only [IsL] at h
    obtain ⟨y, ys, rfl, _, h2⟩ := h
    simp [isL_len h2]
theorem isL_snoc {T : Cl} {H : Hp} {c : Cd} {x : V} : ∀ {l : List Cd} {xs : List V}, IsL T H l xs → IsC T H c x → IsL T H (l ++ [c]) (xs ++ [x])
  | [], xs, h, h' => by simp only [IsL] at h; subst h; simp only [List.nil_append, IsL]; exact ⟨x, [], rfl, h', rfl⟩
  | d :: r, xs, h, h' => by
    simp only [IsL] at h
    obtain ⟨y, ys, rfl, h1, h2⟩ := h
    simp only [List.cons_append, IsL]
    exact ⟨y, ys ++ [x], rfl, h1, isL_snoc h2 h'⟩
/-! ### small facts -/
theorem nodup_sub {α : Type} [DecidableEq α] : ∀ {l m : List α}, l.Nodup → (∀ x ∈ l, x ∈ m) → l.length ≤ m.length
  | [], m, _, _ => Nat.zero_le _
  | a :: r, m, h, hs => by
    obtain ⟨h1, h2⟩ := List.nodup_cons.mp h
    have ha := hs a List.mem_cons_self
    have := nodup_sub (l := r) (m := m.erase a) h2 (fun x hx => (List.mem_erase_of_ne (show x ≠ a from fun e => h1 (e ▸ hx))).mpr (hs x (List.mem_cons_of_mem _ hx)))
    rw [List.length_erase_of_mem ha] at this
    have hp : 0 < m.length := List.length_pos_of_mem ha
    rw [List.length_cons]
    omega
def strsIn (l : List Key) : List Str := l.filterMap fun k => match k with | .inl _ => none | .inr x => some x
def intsIn (l : List Key) : List Int := l.filterMap fun k => match k with | .inl i => some i | .inr _ => none
theorem mem_strsIn {l : List Key} {x : Str} : x ∈ strsIn l ↔ Sum.inr x ∈ l := by
  unfold strsIn
  rw [List.mem_filterMap]
  constructor
  · rintro ⟨k, hk, e⟩
    cases k with
    | inl i => cases e
    | inr y => cases e; exact hk
  · intro h; exact ⟨_, h, rfl⟩
theorem mem_intsIn {l : List Key} {x : Int} : x ∈ intsIn l ↔ Sum.inl x ∈ l := by
  unfold intsIn
  rw [List.mem_filterMap]
  constructor
  · rintro ⟨k, hk, e⟩
    cases k with
    | inl i => cases e; exact hk
    | inr y => cases e
  · intro h; exact ⟨_, h, rfl⟩
/-- a list of keys that are all texts -/
theorem allStr : ∀ {ks : List Key}, (∀ k ∈ ks, ∃ x, k = Sum.inr x) → ∃ xs : List Str, ks = xs.map Sum.inr
  | [], _ => ⟨[], rfl⟩
  | k :: r, h => by
    obtain ⟨x, rfl⟩ := h k List.mem_cons_self
    obtain ⟨xs, e⟩ := allStr (ks := r) fun k hk => h k (List.mem_cons_of_mem _ hk)
    exact ⟨x :: xs, by rw [e]; rfl⟩
theorem allInt : ∀ {ks : List Key}, (∀ k ∈ ks, ∃ x, k = Sum.inl x) → ∃ xs : List Int, ks = xs.map Sum.inl
  | [], _ => ⟨[], rfl⟩
  | k :: r, h => by
    obtain ⟨x, rfl⟩ := h k List.mem_cons_self
    obtain ⟨xs, e⟩ := allInt (ks := r) fun k hk => h k (List.mem_cons_of_mem _ hk)
    exact ⟨x :: xs, by rw [e]; rfl⟩
theorem nodup_of_map {α β : Type} {f : α → β} : ∀ {l : List α}, (l.map f).Nodup → l.Nodup
  | [], _ => List.nodup_nil
  | a :: r, h => by
    rw [List.map_cons, List.nodup_cons] at h
    exact List.nodup_cons.mpr ⟨fun hm => h.1 (List.mem_map.mpr ⟨a, hm, rfl⟩), nodup_of_map h.2⟩
end CD
set_option maxHeartbeats 4000000
namespace L2
open PySem PySem.Spec PyProof.Rows
section
variable {X : Cx}
theorem bls_at : ∀ {bs : List Bool} {its : List Value}, Vals (bs.map V.bl) its → ∀ (i : Nat) (v : Value), its[i]? = some v → v = .bool (bs.getD i true)
  | [], _, .nil, i, v, e => by simp at e
  | b :: r, _, .cons h t, 0, v, e => by
    simp at e
    subst e
    exact h
  | b :: r, _, .cons h t, i + 1, v, e => by
    have := bls_at t i v (by simpa using e)
    simpa using this
theorem range_all_id (bs : List Bool) : ((List.range bs.length).all fun i => bs.getD i true) = bs.all id := by
  rw [Bool.eq_iff_iff, List.all_eq_true, List.all_eq_true]
  refine ⟨fun h b hb => ?_, fun h i hi => ?_⟩
  · obtain ⟨i, hi, e⟩ := List.getElem_of_mem hb
    have z := h i (List.mem_range.mpr hi)
    rw [List.getD_eq_getElem?_getD, List.getElem?_eq_getElem hi] at z
    subst e
    exact z
  · have hi' := List.mem_range.mp hi
    rw [List.getD_eq_getElem?_getD, List.getElem?_eq_getElem hi']
    exact h _ (List.getElem_mem hi')
/-- all(a list of truths) -/
theorem call_all_bls (hc : X.calm = true) : CallR X (.builtin "all") (fun xs H Q => ∃ (p : Addr) (bs : List Bool), xs = [.ref p] ∧ SqL X.K H p (bs.map V.bl) ∧ Q (.bl (bs.all id)) H) := by
  intro pins s σ H xs us Q I r h
  obtain ⟨p, bs, rfl, hq, q⟩ := h
  obtain ⟨u, rfl, rx⟩ := vals1 r
  cases rx
  obtain ⟨its, r', pl, hz⟩ := I.list hq
  have hlen := r'.length
  rw [List.length_map] at hlen
  obtain ⟨op, hop, _⟩ := id pl.isList
  have hlt : p < s.heap.objs.size := Heap.lt_size hop
  have hh : X.A.in1.handled = none := by simp [I.ok.hd hc]
  refine call_all_walk (wpAny_pyIter_list pl.isList ⟨s.heap.objs.size, _, _, its.toArray.size, _, _, fun i => bs.getD i true, rfl, Walks.list hh _ p (Nat.ne_of_lt hlt) its.toArray, ⟨⟨_, Heap.get?_push_size _ rfl, rfl, rfl⟩, pl.isList.push _⟩, fun i v s' R E' hP hR => ?_, fun h' tk hk => ?_⟩)
  · have e := bls_at r' i v (by simpa using hP)
    subst e
    exact wpAny_truthy_bool hR
  · have hk' : ∀ b o, s.heap.get? b = some o → h'.get? b = some o := fun b o e =>
      hk b o (fun hI => absurd (Heap.lt_size e) (by rw [List.mem_singleton.mp hI]; exact Nat.lt_irrefl _)) (Heap.get?_push_of_some _ e)
    have e1 : ((List.range its.toArray.size).all fun i => bs.getD i true) = bs.all id := by
      rw [List.size_toArray, ← hlen, range_all_id]
    rw [e1]
    exact ⟨.bl (bs.all id), H, I.kept (t' := tk) hk', rfl, q⟩
end
end L2
set_option maxHeartbeats 4000000
namespace L2
open PySem PySem.Spec PyProof.Rows
section
variable {prog : Program} {w : World} {A : Around} {E : Value → Shared → Prop} {s : Shared}
/-! ### the next item of a tuple's iterator, asked by another iterator -/
theorem nextT_item {it t : Addr} {i : Nat} {items : Array Value} {x : Value} {Q : Value → Shared → Prop} (st : s.heap.IsTupleIter it t i) (tu : s.heap.IsTuple t items) (ix : items[i]? = some x)
    (q : ∀ h', h'.IsTupleIter it t (i + 1) → Heap.SameBut it s.heap h' → Q x { s with heap := h' }) : wpAny (model prog w) A (Builtin.SmallTypes.nextOf (.ref it)) Q E s := by
  obtain ⟨o, eo, ec, ed⟩ := id st; obtain ⟨ol, el, _, nl, edl⟩ := tu; unfold Builtin.SmallTypes.nextOf
  refine wpAny_bind (wpAny_callSpecial?_slot (name := Str.ofString "__next__") st.typeIs F.slot_tuple_iterator_next (wpAny_call_entry F.slot_tuple_iterator_next st.typeIs F.entry_tuple_iterator_next ?_ (F.args_tuple_iterator_next_1 _)))
  show wpAny _ _ (field (.ref it) 0 >>= _) _ _ s; refine wpAny_bind (wpAny_field eo ed (x := .ref t) rfl ?_)
  show wpAny _ _ (if (Value.ref t == Value.none) = true then _ else _) _ _ s; rw [if_neg (show ¬ ((Value.ref t == Value.none) = true) from Bool.false_ne_true)]
  show wpAny _ _ (field (.ref it) 1 >>= _) _ _ s; refine wpAny_bind (wpAny_field eo ed (x := .int i 0) rfl ?_)
  show wpAny _ _ (seqItems? (.ref t) >>= _) _ _ s; refine wpAny_bind (wpAny_seqItems el edl ?_); simp only [Int.toNat_natCast, ix]
  refine wpAny_bind (wpAny_setField eo ed (by simp) (wpAny_pure ⟨x, rfl, wpAny_pure (q _ ⟨_, Heap.get?_update_self _ eo (Obj.isFreed_of_fields (Obj.data_mapFields ed _)), (Obj.cls_mapFields ..).trans ec, by rw [Obj.data_mapFields ed]; simp [rawInt]⟩ (Heap.SameBut.update ..))⟩))
theorem nextT_end {it t : Addr} {i : Nat} {items : Array Value} {Q : Value → Shared → Prop} (hh : A.handled = none) (st : s.heap.IsTupleIter it t i) (tu : s.heap.IsTuple t items) (ix : items[i]? = none)
    (q : ∀ h' e, Heap.ExtBut it s.heap h' → (∃ o, h'.get? e = some o ∧ o.cls = .type "StopIteration") → E (.ref e) { s with heap := h' }) : wpAny (model prog w) A (Builtin.SmallTypes.nextOf (.ref it)) Q E s := by
  obtain ⟨o, eo, ec, ed⟩ := id st; obtain ⟨ol, el, _, nl, edl⟩ := tu; unfold Builtin.SmallTypes.nextOf
  refine wpAny_bind (wpAny_callSpecial?_slot (name := Str.ofString "__next__") st.typeIs F.slot_tuple_iterator_next (wpAny_call_entry F.slot_tuple_iterator_next st.typeIs F.entry_tuple_iterator_next ?_ (F.args_tuple_iterator_next_1 _)))
  show wpAny _ _ (field (.ref it) 0 >>= _) _ _ s; refine wpAny_bind (wpAny_field eo ed (x := .ref t) rfl ?_)
  show wpAny _ _ (if (Value.ref t == Value.none) = true then _ else _) _ _ s; rw [if_neg (show ¬ ((Value.ref t == Value.none) = true) from Bool.false_ne_true)]
  show wpAny _ _ (field (.ref it) 1 >>= _) _ _ s; refine wpAny_bind (wpAny_field eo ed (x := .int i 0) rfl ?_)
  show wpAny _ _ (seqItems? (.ref t) >>= _) _ _ s; refine wpAny_bind (wpAny_seqItems el edl ?_); simp only [Int.toNat_natCast, ix]
  refine wpAny_bind (wpAny_rule (wpAny_bind (wpAny_setField eo ed (by simp) ?_))); show wpAny _ _ (newExc (.type "StopIteration") [] >>= _) _ _ _
  refine wpAny_bind ?_; simp only [newExc, newTuple]; refine wpAny_bind (wpAny_newObj_type ?_ (by size_fits))
  refine wpAny_bind (m := firstArgMember _ _) (wpAny_of_eq (a := Value.none) (by first | rfl | (simp only [firstArgMember]; rfl)) ?_); refine wpAny_newObj_type ?_ (by size_fits)
  simp only [raiseNew]; refine wpAny_bind (wpAny_handled ?_); first | rw [show A.in1.handled = none from hh] | rw [hh]
  refine wpAny_bind (wpAny_pure (wpAny_throw ?_))
  exact q _ _ (((Heap.SameBut.update ..).extBut.push _).push _) ⟨_, Heap.get?_push_size _ rfl, rfl⟩
end
end L2
set_option maxHeartbeats 4000000
namespace L2
open PySem PySem.Spec PyProof.Rows
section
variable {prog : Program} {w : World} {A : Around} {E : Value → Shared → Prop} {s : Shared}
/-! ### zip(a tuple, a list): the next pair -/
theorem zipTL_item {z TI TO i1 i2 l1 l2 : Addr} {k : Nat} {xs ys : Array Value} {x y a b : Value} {Q : Value → Shared → Prop} (D : ZipApart z TI TO i1 i2 l1 l2) (ez : IsZip s.heap z TI TO .none) (eI : IsPair s.heap TI (.ref i1) (.ref i2)) (eO : IsPair s.heap TO a b)
    (st1 : s.heap.IsTupleIter i1 l1 k) (st2 : s.heap.IsListIter i2 l2 k) (t1 : s.heap.IsTuple l1 xs) (t2 : s.heap.IsList l2 ys) (ix : xs[k]? = some x) (iy : ys[k]? = some y)
    (q : ∀ h', IsZip h' z TI TO (rawInt s.heap.objs.size) → IsPair h' TO x y → h'.IsTupleIter i1 l1 (k + 1) → h'.IsListIter i2 l2 (k + 1) → IsPair h' s.heap.objs.size x y → h'.objs.size = s.heap.objs.size + 1 →
      (∀ c o, c ≠ z → c ≠ TO → c ≠ i1 → c ≠ i2 → s.heap.get? c = some o → h'.get? c = some o) → Q (.ref s.heap.objs.size) { s with heap := h' }) :
    wpAny (model prog w) A (Builtin.«zip.__next__» ⟨[.ref z], []⟩) (fun fin s' => ∃ v, fin = .done (.ret v) ∧ Q v s') E s := by
  show wpAny _ _ (field (.ref z) 2 >>= _) _ _ _; refine wpAny_bind (wpAny_field ez rfl (x := .bool false) rfl ?_)
  show wpAny _ _ (field (.ref z) 3 >>= _) _ _ _; refine wpAny_bind (wpAny_field ez rfl (x := .ref TI) rfl ?_); refine wpAny_bind (wpAny_seqItems eI rfl ?_)
  show wpAny _ _ (Builtin.SmallTypes.ownedTupleIsFree (.ref z) >>= _) _ _ _; refine wpAny_bind ?_; unfold Builtin.SmallTypes.ownedTupleIsFree
  refine wpAny_bind (wpAny_field ez rfl (x := .none) rfl (wpAny_pure ?_)); simp only [if_true]; refine wpAny_bind (wpAny_rule ?_)
  refine wpAny_bind (wpAny_field ez rfl (x := .ref TO) rfl ?_); refine wpAny_bind (wpAny_setField_rec ez (by simp) fun g1 z1 d1 => ?_)
  replace z1 : IsZip g1 z TI TO .ellipsis := z1; refine wpAny_bind ?_; simp only [List.zipIdx_cons, List.zipIdx_nil, List.forIn_cons, List.forIn_nil]
  -- the tuple's
  refine wpAny_bind (wpAny_bind (wpAny_onRaise ?_)); show wpAny _ _ (Builtin.SmallTypes.nextOf (.ref i1) >>= _) _ _ _
  have t1' : g1.IsTuple l1 xs := by
    obtain ⟨o, e, r⟩ := t1
    exact ⟨o, d1.extBut _ _ D.l1z e, r⟩
  have st1' : g1.IsTupleIter i1 l1 k := st1.at fun o e => d1.extBut _ _ D.i1z e
  refine wpAny_bind (nextT_item (s := { s with heap := g1 }) st1' t1' ix fun g2 u1 d2 => wpAny_pure ?_)
  have o2 : IsPair g2 TO a b := d2.extBut _ _ D.TOi1 (d1.extBut _ _ D.TOz eO)
  refine wpAny_bind (wpAny_seqItems o2 rfl ?_); refine wpAny_bind (wpAny_updateSeq_pair o2 fun g3 o3 d3 => ?_)
  replace o3 : IsPair g3 TO x b := o3; refine wpAny_bind (wpAny_letGo (wpAny_pure ?_))
  -- the list's
  refine wpAny_bind (wpAny_bind (wpAny_onRaise ?_)); show wpAny _ _ (Builtin.SmallTypes.nextOf (.ref i2) >>= _) _ _ _
  refine wpAny_bind (wpAny_nextOf_list_item (((st2.extBut d1.extBut D.i2z).extBut d2.extBut D.i12.symm).extBut d3.extBut D.TOi2.symm) (((t2.extBut d1.extBut D.l2z).extBut d2.extBut D.l2i1).extBut d3.extBut D.l2TO) iy fun g4 u2 d4 => wpAny_pure ?_)
  have o4 : IsPair g4 TO x b := d4.extBut _ _ D.TOi2 o3
  refine wpAny_bind (wpAny_seqItems o4 rfl ?_); refine wpAny_bind (wpAny_updateSeq_pair o4 fun g5 o5 d5 => ?_)
  replace o5 : IsPair g5 TO x y := o5; refine wpAny_bind (wpAny_letGo (wpAny_pure (wpAny_pure ?_)))
  -- the pair
  refine wpAny_bind (wpAny_seqItems o5 rfl ?_); refine wpAny_bind (wpAny_newTuple ?_)
  have sz : g5.objs.size = s.heap.objs.size := by rw [d5.1, d4.1, d3.1, d2.1, d1.1]
  have z5 : IsZip g5 z TI TO .ellipsis := d5.extBut _ _ D.TOz.symm (d4.extBut _ _ D.i2z.symm (d3.extBut _ _ D.TOz.symm (d2.extBut _ _ D.i1z.symm z1)))
  have kk : ∀ c o, c ≠ z → c ≠ TO → c ≠ i1 → c ≠ i2 → s.heap.get? c = some o → g5.get? c = some o := fun c o n1 n2 n3 n4 e => d5.extBut _ _ n2 (d4.extBut _ _ n4 (d3.extBut _ _ n2 (d2.extBut _ _ n3 (d1.extBut _ _ n1 e))))
  have v1 : g5.IsTupleIter i1 l1 (k + 1) := u1.at fun o e => d5.extBut _ _ D.TOi1.symm (d4.extBut _ _ D.i12 (d3.extBut _ _ D.TOi1.symm e))
  have v2 : g5.IsListIter i2 l2 (k + 1) := u2.extBut d5.extBut D.TOi2.symm
  have zlt : z < g5.objs.size := Heap.lt_size z5
  show wpAny _ _ (Builtin.SmallTypes.ownedTupleHandOut (.ref z) (.ref g5.objs.size) >>= _) _ _ _; refine wpAny_bind ?_; unfold Builtin.SmallTypes.ownedTupleHandOut
  have z6 : IsZip (g5.push { cls := .type "tuple", data := .seq #[x, y] }) z TI TO .ellipsis := Heap.get?_push_of_some _ z5
  refine wpAny_bind (wpAny_setField_rec z6 (by simp) fun g7 z7 d7 => ?_); replace z7 : IsZip g7 z TI TO (rawInt g5.objs.size) := z7
  refine wpAny_setField_rec z7 (by simp) fun g8 z8 d8 => ?_; replace z8 : IsZip g8 z TI TO (rawInt g5.objs.size) := z8
  have up : ∀ c o, c ≠ z → g5.get? c = some o → g8.get? c = some o := fun c o n e => d8.extBut _ _ n (d7.extBut _ _ n (Heap.get?_push_of_some _ e))
  have p8 : IsPair g8 g5.objs.size x y := d8.extBut _ _ (Nat.ne_of_gt zlt) (d7.extBut _ _ (Nat.ne_of_gt zlt) (Heap.get?_push_size _ rfl))
  have s8 : g8.objs.size = g5.objs.size + 1 := by rw [d8.1, d7.1, Heap.size_push]
  rw [sz] at z8 p8 s8; refine wpAny_pure ⟨_, rfl, ?_⟩; show Q (.ref g5.objs.size) _; rw [sz]
  exact q g8 z8 (up _ _ D.TOz o5) (v1.at fun o e => up _ o D.i1z e) (v2.at fun o e => up _ o D.i2z e) p8 s8 fun c o n1 n2 n3 n4 e => up c o n1 (kk c o n1 n2 n3 n4 e)
theorem zipTL_end {z TI TO i1 i2 l1 l2 : Addr} {k : Nat} {xs ys : Array Value} {a b : Value} {Q : Fin → Shared → Prop} (hh : A.handled = none) (D : ZipApart z TI TO i1 i2 l1 l2) (ez : IsZip s.heap z TI TO .none) (eI : IsPair s.heap TI (.ref i1) (.ref i2)) (eO : IsPair s.heap TO a b)
    (st1 : s.heap.IsTupleIter i1 l1 k) (st2 : s.heap.IsListIter i2 l2 k) (t1 : s.heap.IsTuple l1 xs) (t2 : s.heap.IsList l2 ys) (ix : xs[k]? = none ∨ ys[k]? = none)
    (q : ∀ h' e, (∀ c o, c ≠ z → c ≠ TO → c ≠ i1 → c ≠ i2 → s.heap.get? c = some o → h'.get? c = some o) → (∃ o, h'.get? e = some o ∧ o.cls = .type "StopIteration") → E (.ref e) { s with heap := h' }) :
    wpAny (model prog w) A (Builtin.«zip.__next__» ⟨[.ref z], []⟩) Q E s := by
  show wpAny _ _ (field (.ref z) 2 >>= _) _ _ _; refine wpAny_bind (wpAny_field ez rfl (x := .bool false) rfl ?_)
  show wpAny _ _ (field (.ref z) 3 >>= _) _ _ _; refine wpAny_bind (wpAny_field ez rfl (x := .ref TI) rfl ?_); refine wpAny_bind (wpAny_seqItems eI rfl ?_)
  show wpAny _ _ (Builtin.SmallTypes.ownedTupleIsFree (.ref z) >>= _) _ _ _; refine wpAny_bind ?_; unfold Builtin.SmallTypes.ownedTupleIsFree
  refine wpAny_bind (wpAny_field ez rfl (x := .none) rfl (wpAny_pure ?_)); simp only [if_true]; refine wpAny_bind (wpAny_rule ?_)
  refine wpAny_bind (wpAny_field ez rfl (x := .ref TO) rfl ?_); refine wpAny_bind (wpAny_setField_rec ez (by simp) fun g1 z1 d1 => ?_)
  replace z1 : IsZip g1 z TI TO .ellipsis := z1; refine wpAny_bind ?_; simp only [List.zipIdx_cons, List.zipIdx_nil, List.forIn_cons, List.forIn_nil]
  refine wpAny_bind (wpAny_bind (wpAny_onRaise ?_)); show wpAny _ _ (Builtin.SmallTypes.nextOf (.ref i1) >>= _) _ _ _
  have t1' : g1.IsTuple l1 xs := by
    obtain ⟨o, e, r⟩ := t1
    exact ⟨o, d1.extBut _ _ D.l1z e, r⟩
  have st1' : g1.IsTupleIter i1 l1 k := st1.at fun o e => d1.extBut _ _ D.i1z e
  cases hx : xs[k]? with
  | none =>
    refine wpAny_bind (nextT_end (s := { s with heap := g1 }) hh st1' t1' hx fun g2 e d2 ⟨oe, he, hc⟩ => ?_)
    have z2 : IsZip g2 z TI TO .ellipsis := d2 _ _ D.i1z.symm z1
    have ne : e ≠ z := fun x => by subst x; rw [z2] at he; cases he; simp at hc
    exact wpAny_setField_rec z2 (by simp) fun g3 _ d3 => q g3 e (fun c o n1 _ n3 _ x => d3.extBut _ _ n1 (d2 _ _ n3 (d1.extBut _ _ n1 x))) ⟨oe, d3.extBut _ _ ne he, hc⟩
  | some x =>
    have hy : ys[k]? = none := ix.resolve_left (by rw [hx]; simp)
    refine wpAny_bind (nextT_item (s := { s with heap := g1 }) st1' t1' hx fun g2 u1 d2 => wpAny_pure ?_)
    have o2 : IsPair g2 TO a b := d2.extBut _ _ D.TOi1 (d1.extBut _ _ D.TOz eO)
    refine wpAny_bind (wpAny_seqItems o2 rfl ?_); refine wpAny_bind (wpAny_updateSeq_pair o2 fun g3 o3 d3 => ?_); refine wpAny_bind (wpAny_letGo (wpAny_pure ?_))
    refine wpAny_bind (wpAny_bind (wpAny_onRaise ?_)); show wpAny _ _ (Builtin.SmallTypes.nextOf (.ref i2) >>= _) _ _ _
    refine wpAny_bind (wpAny_nextOf_list_end hh (((st2.extBut d1.extBut D.i2z).extBut d2.extBut D.i12.symm).extBut d3.extBut D.TOi2.symm) (((t2.extBut d1.extBut D.l2z).extBut d2.extBut D.l2i1).extBut d3.extBut D.l2TO) hy fun g4 e d4 ⟨oe, he, hc⟩ => ?_)
    have z4 : IsZip g4 z TI TO .ellipsis := d4 _ _ D.i2z.symm (d3.extBut _ _ D.TOz.symm (d2.extBut _ _ D.i1z.symm z1))
    have ne : e ≠ z := fun x => by subst x; rw [z4] at he; cases he; simp at hc
    exact wpAny_setField_rec z4 (by simp) fun g5 _ d5 => q g5 e (fun c o n1 n2 n3 n4 x => d5.extBut _ _ n1 (d4 _ _ n4 (d3.extBut _ _ n2 (d2.extBut _ _ n3 (d1.extBut _ _ n1 x))))) ⟨oe, d5.extBut _ _ ne he, hc⟩
theorem nextTL_item {z TI TO i1 i2 l1 l2 : Addr} {k : Nat} {xs ys : Array Value} {x y a b : Value} {Q : Option Value → Shared → Prop} (D : ZipApart z TI TO i1 i2 l1 l2) (ez : IsZip s.heap z TI TO .none) (eI : IsPair s.heap TI (.ref i1) (.ref i2)) (eO : IsPair s.heap TO a b)
    (st1 : s.heap.IsTupleIter i1 l1 k) (st2 : s.heap.IsListIter i2 l2 k) (t1 : s.heap.IsTuple l1 xs) (t2 : s.heap.IsList l2 ys) (ix : xs[k]? = some x) (iy : ys[k]? = some y)
    (q : ∀ h', IsZip h' z TI TO (rawInt s.heap.objs.size) → IsPair h' TO x y → h'.IsTupleIter i1 l1 (k + 1) → h'.IsListIter i2 l2 (k + 1) → IsPair h' s.heap.objs.size x y → h'.objs.size = s.heap.objs.size + 1 →
      (∀ c o, c ≠ z → c ≠ TO → c ≠ i1 → c ≠ i2 → s.heap.get? c = some o → h'.get? c = some o) → Q (some (.ref s.heap.objs.size)) { s with heap := h' }) : wpAny (model prog w) A (pyNext (.ref z)) Q E s := by
  have ty : s.TypeIs (.ref z) "zip" := ⟨_, ez, rfl⟩
  unfold pyNext
  exact wpAny_bind (wpAny_attempt (wpAny_callSpecial?_slot (name := Str.ofString "__next__") ty F.slot_zip_next (wpAny_call_entry F.slot_zip_next ty F.entry_zip_next
    (zipTL_item D ez eI eO st1 st2 t1 t2 ix iy fun h' a1 a2 a3 a4 a5 a6 a7 => wpAny_pure (q h' a1 a2 a3 a4 a5 a6 a7)) (F.args_zip_next_1 _))))
theorem nextTL_end {z TI TO i1 i2 l1 l2 : Addr} {k : Nat} {xs ys : Array Value} {a b : Value} {Q : Option Value → Shared → Prop} (hh : A.handled = none) (D : ZipApart z TI TO i1 i2 l1 l2) (ez : IsZip s.heap z TI TO .none) (eI : IsPair s.heap TI (.ref i1) (.ref i2)) (eO : IsPair s.heap TO a b)
    (st1 : s.heap.IsTupleIter i1 l1 k) (st2 : s.heap.IsListIter i2 l2 k) (t1 : s.heap.IsTuple l1 xs) (t2 : s.heap.IsList l2 ys) (ix : xs[k]? = none ∨ ys[k]? = none)
    (q : ∀ h', (∀ c o, c ≠ z → c ≠ TO → c ≠ i1 → c ≠ i2 → s.heap.get? c = some o → h'.get? c = some o) → Q none { s with heap := h' }) : wpAny (model prog w) A (pyNext (.ref z)) Q E s := by
  have ty : s.TypeIs (.ref z) "zip" := ⟨_, ez, rfl⟩
  unfold pyNext
  refine wpAny_bind (wpAny_attempt (wpAny_callSpecial?_slot (name := Str.ofString "__next__") ty F.slot_zip_next (wpAny_call_entry F.slot_zip_next ty F.entry_zip_next (zipTL_end hh D ez eI eO st1 st2 t1 t2 ix fun h' e hk ⟨o, ho, hc⟩ => ?_) (F.args_zip_next_1 _))))
  exact wpAny_bind (wpAny_isInstance (T := "StopIteration") (b := true) ⟨o, ho, hc⟩ isSubtype_stop (wpAny_pure (q _ hk)))
end
end L2
set_option maxHeartbeats 4000000
namespace L2
open PySem PySem.Spec PyProof.Rows
/-! ### zip(a tuple, a list) made and walked -/
abbrev zt1 (h : Heap) (a : Addr) : Heap := h.push { cls := .type "tuple_iterator", data := .fields #[.ref a, .int 0 0] }
abbrev zt2 (h : Heap) (a b : Addr) : Heap := (zt1 h a).push { cls := .type "list_iterator", data := .fields #[.ref b, .int 0 0] }
abbrev zt3 (h : Heap) (a b : Addr) : Heap := (zt2 h a b).push { cls := .type "tuple", data := .seq #[.ref h.objs.size, .ref (zt1 h a).objs.size] }
abbrev zt4 (h : Heap) (a b : Addr) : Heap := (zt3 h a b).push { cls := .type "tuple", data := .seq #[.none, .none] }
abbrev zt5 (h : Heap) (a b : Addr) : Heap := (zt4 h a b).push { cls := .type "zip", data := .fields #[.none, .bool false, .bool false, .ref (zt2 h a b).objs.size, .ref (zt3 h a b).objs.size] }
theorem meets_zipTL (a b : Addr) (xs ys : Array Value) :
    Meets (Builtin.«zip.__new__» ⟨[.type "zip", .ref a, .ref b], []⟩) (fun _ R s => s.heap.IsTuple a xs ∧ s.heap.IsList b ys ∧ R (.ok (.ret (.ref (zt4 s.heap a b).objs.size))) { s with heap := zt5 s.heap a b }) :=
  .of_wp fun prog w A R s h => by
    obtain ⟨hp, g, d, tk, os⟩ := s; obtain ⟨e1, e2, h⟩ := h; have hsub := sub_zip
    have f1 : Heap.IsTuple (Shared.heap ⟨hp, g, d, tk, os⟩) a xs := e1
    have f2 : Heap.IsList (Shared.heap ⟨hp.push { cls := .type "tuple_iterator", data := .fields #[.ref a, .int 0 0] }, g, d, tk, os⟩) b ys := Heap.IsList.push e2 _
    wp_walk using wpAny_pyIter_tuple f1, wpAny_pyIter_list f2
    exact ⟨_, rfl, h⟩
section
variable {prog : Program} {w : World} {A : Around} {E : Value → Shared → Prop} {s : Shared}
theorem call_zipTL {a b : Addr} {xs ys : Array Value} {Q : Value → Shared → Prop} (e1 : s.heap.IsTuple a xs) (e2 : s.heap.IsList b ys)
    (q : ∀ h', IsZip h' (s.heap.objs.size + 4) (s.heap.objs.size + 2) (s.heap.objs.size + 3) .none → IsPair h' (s.heap.objs.size + 2) (.ref s.heap.objs.size) (.ref (s.heap.objs.size + 1)) → IsPair h' (s.heap.objs.size + 3) .none .none →
      h'.IsTupleIter s.heap.objs.size a 0 → h'.IsListIter (s.heap.objs.size + 1) b 0 → h'.objs.size = s.heap.objs.size + 5 → (∀ c o, s.heap.get? c = some o → h'.get? c = some o) → Q (.ref (s.heap.objs.size + 4)) { s with heap := h' }) :
    wpAny (model prog w) A (call (.type "zip") [.ref a, .ref b]) Q E s := by
  refine callType_new F.called_zip (by decide) (F.typeCall_zip_2 _ _) (F.newCall_zip_2 _ _) (fun obj => F.args_object_init_3 obj _ _) F.entry_zip_new (meets_zipTL a b xs ys) ⟨e1, e2, ?_⟩
  have n1 : (zt1 s.heap a).objs.size = s.heap.objs.size + 1 := Heap.size_push ..
  have n2 : (zt2 s.heap a b).objs.size = s.heap.objs.size + 2 := by rw [Heap.size_push, n1]
  have n3 : (zt3 s.heap a b).objs.size = s.heap.objs.size + 3 := by rw [Heap.size_push, n2]
  have n4 : (zt4 s.heap a b).objs.size = s.heap.objs.size + 4 := by rw [Heap.size_push, n3]
  have n5 : (zt5 s.heap a b).objs.size = s.heap.objs.size + 5 := by rw [Heap.size_push, n4]
  have m5 : (zt5 s.heap a b).get? (zt4 s.heap a b).objs.size = some _ := Heap.get?_push_size _ rfl
  have m4 : (zt5 s.heap a b).get? (zt3 s.heap a b).objs.size = some _ := Heap.get?_push_of_some _ (Heap.get?_push_size _ rfl)
  have m3 : (zt5 s.heap a b).get? (zt2 s.heap a b).objs.size = some _ := Heap.get?_push_of_some _ (Heap.get?_push_of_some _ (Heap.get?_push_size _ rfl))
  have m2 : (zt5 s.heap a b).get? (zt1 s.heap a).objs.size = some _ := Heap.get?_push_of_some _ (Heap.get?_push_of_some _ (Heap.get?_push_of_some _ (Heap.get?_push_size _ rfl)))
  have m1 : (zt5 s.heap a b).get? s.heap.objs.size = some _ := Heap.get?_push_of_some _ (Heap.get?_push_of_some _ (Heap.get?_push_of_some _ (Heap.get?_push_of_some _ (Heap.get?_push_size _ rfl))))
  show _ ∧ _
  rw [n2, n3, n4] at m5; rw [n1, n2] at m3; rw [n3] at m4; rw [n1] at m2; rw [n4]
  exact ⟨⟨_, m5, rfl⟩, q _ m5 m3 m4 ⟨_, m1, rfl, rfl⟩ ⟨_, m2, rfl, rfl⟩ n5 fun c o x => Heap.get?_push_of_some _ (Heap.get?_push_of_some _ (Heap.get?_push_of_some _ (Heap.get?_push_of_some _ (Heap.get?_push_of_some _ x))))⟩
end
section
variable {X : Cx} {pins : List (Addr × Obj)} {σ : St} {H : Hp} {s : Shared} {h' : Heap}
/-- several untracked records of ours have turned -/
theorem Inv.turnedL {t' : Nat} {fp : List Addr} (I : Inv X pins σ H s) (k : ∀ b o, b ∉ fp → s.heap.get? b = some o → h'.get? b = some o) (hf : ∀ b ∈ fp, FpOk X pins H b) : Inv X pins σ H { s with heap := h', toks := t' } := by
  have nit : ∀ b u, H b = some u → b ∉ fp := fun b u e z => by rw [(hf b z).1] at e; cases e
  have nL : X.env.locals ∉ fp := fun z => (hf _ z).2.1 rfl
  refine I.step (g' := s.gens) (d' := s.drawn) (ch := fp) (fun b hb => ?_) (fun b o _ _ hc e _ => k b o hc e) (fun b o _ _ hc e _ => ⟨o.slots, k b o hc e⟩) (fun _ _ _ _ n => n)
    (fun b o hc e => ⟨o, k b o hc e⟩) (fun _ _ e => e) (fun _ _ _ e => e) (fun b ps e => ⟨#[], by rw [e]; simp⟩) (fun m hm => ?_) (fun b u e => ?_) I.bare
  · obtain ⟨f0, f1, f2, f3, f4, f5⟩ := hf b hb
    exact ⟨f3, f1, f4, f5⟩
  · obtain ⟨o, es, ep, ho, r⟩ := hm
    exact ⟨o, es, ep, k _ o nL ho, r⟩
  · refine (I.hok b u e).stay (fun c v hc q => k c v ?_ q) (fun _ q => q) fun _ _ q => q
    rcases hc with z | z
    · rw [z]; exact nit b u e
    · exact nit c _ z
end
end L2
set_option maxHeartbeats 4000000
namespace L2
open PySem PySem.Spec PyProof.Rows
/-- the pairs of a tuple's and a list's items -/
def Itz (K : PySem.W.Frag) (a b : Addr) : It :=
  ⟨fun i H => ∃ xs ys x y, SqT K H a xs ∧ SqL K H b ys ∧ xs[i]? = some x ∧ ys[i]? = some y,
   fun i H v H' => ∃ T, v = .ref T ∧ H T = none ∧ ∀ xs ys x y, SqT K H a xs → SqL K H b ys → xs[i]? = some x → ys[i]? = some y → H' = upd H T (.tup [x, y]),
   fun i H => ∃ xs ys, SqT K H a xs ∧ SqL K H b ys ∧ (xs.length ≤ i ∨ ys.length ≤ i)⟩
def ZipAt (z TI TO i1 i2 a b : Addr) (i : Nat) (h : Heap) : Prop := IsZip h z TI TO .none ∧ IsPair h TI (.ref i1) (.ref i2) ∧ (∃ u v, IsPair h TO u v) ∧ h.IsTupleIter i1 a i ∧ h.IsListIter i2 b i
theorem turn_zip {P : Program} {w : World} {K : PySem.W.Frag} {elts : List Expr} {kk : Nat} {pos : Pos} {z TI TO i1 i2 a b : Addr} (D : ZipApart z TI TO i1 i2 a b) : Turn P w K (.Tuple elts kk pos) (Itz K a b) [z, TI, TO, i1, i2] z (ZipAt z TI TO i1 i2 a b) where
  mem := by simp
  obj := fun i h st c hc => by
    obtain ⟨ez, eI, ⟨u, v, eO⟩, ⟨o1, e1, c1, d1⟩, ⟨o2, e2, c2, d2⟩⟩ := st
    simp only [List.mem_cons, List.not_mem_nil, or_false] at hc
    rcases hc with rfl | rfl | rfl | rfl | rfl
    · exact ⟨_, ez, fun v y => by cases y⟩
    · exact ⟨_, eI, fun v y => by cases y⟩
    · exact ⟨_, eO, fun v y => by cases y⟩
    · exact ⟨o1, e1, fun v y => by rw [d1] at y; cases y⟩
    · exact ⟨o2, e2, fun v y => by rw [d2] at y; cases y⟩
  keep := fun i h h' st k => by
    obtain ⟨ez, eI, ⟨u, v, eO⟩, s1, s2⟩ := st
    exact ⟨k z (by simp) _ ez, k TI (by simp) _ eI, ⟨u, v, k TO (by simp) _ eO⟩, s1.at fun o e => k i1 (by simp) o e, s2.at fun o e => k i2 (by simp) o e⟩
  item := by
    intro X hP hw hK hc i pins s σ H E I hf st hg
    subst hP hw hK
    obtain ⟨ez, eI, ⟨u, v, eO⟩, s1, s2⟩ := st
    obtain ⟨xs, ys, x, y, q1, q2, g1, g2⟩ := hg
    obtain ⟨its1, r1, p1, z1⟩ := I.tuple q1
    obtain ⟨its2, r2, p2, z2⟩ := I.list q2
    obtain ⟨ux, hx, rx⟩ := r1.get g1
    obtain ⟨uy, hy, ry⟩ := r2.get g2
    refine nextTL_item D ez eI eO s1 s2 (show s.heap.IsTuple a its1.toArray from p1) p2.isList (x := ux) (y := uy) (by simpa using hx) (by simpa using hy) fun h' a1 a2 a3 a4 a5 a6 a7 => ⟨_, rfl, ?_⟩
    refine wpAny_letOwnedTupleGo_zip (s := { s with heap := h' }) a1 fun h2 b1 b2 => ?_
    have zlt : z < s.heap.objs.size := Heap.lt_size ez
    have olt : TO < s.heap.objs.size := Heap.lt_size eO
    have Ilt : TI < s.heap.objs.size := Heap.lt_size eI
    obtain ⟨o1, e1, _⟩ := id s1
    obtain ⟨o2, e2, _⟩ := id s2
    have lt1 : i1 < s.heap.objs.size := Heap.lt_size e1
    have lt2 : i2 < s.heap.objs.size := Heap.lt_size e2
    have fr : H s.heap.objs.size = none := I.hok.fresh (Nat.le_refl _)
    have I0 : Inv X pins σ (upd H s.heap.objs.size (.tup [x, y])) { s with heap := s.heap.push { cls := .type "tuple", data := .seq #[ux, uy] } } := by
      refine I.laid (t' := s.toks) (fun c o e => Heap.get?_push_of_some _ e) (Nat.le_refl _) ?_
      exact ⟨by show 2 ≤ sizeLine; exact Nat.le_of_lt (small1000 (by decide)), [ux, uy], .cons rx (.cons ry .nil), ⟨_, Heap.get?_push_size _ rfl, rfl, rfl, _, rfl⟩⟩
    have nlt : ∀ c ∈ [z, TI, TO, i1, i2], c ≠ s.heap.objs.size := by
      intro c hc
      simp only [List.mem_cons, List.not_mem_nil, or_false] at hc
      rcases hc with rfl | rfl | rfl | rfl | rfl
      · exact Nat.ne_of_lt zlt
      · exact Nat.ne_of_lt Ilt
      · exact Nat.ne_of_lt olt
      · exact Nat.ne_of_lt lt1
      · exact Nat.ne_of_lt lt2
    have hf0 : ∀ c ∈ [z, TI, TO, i1, i2], FpOk X pins (upd H s.heap.objs.size (.tup [x, y])) c := fun c hc => by
      obtain ⟨f0, f1⟩ := hf c hc
      exact ⟨by rw [upd_ne (nlt c hc)]; exact f0, f1⟩
    have I1 : Inv X pins σ (upd H s.heap.objs.size (.tup [x, y])) { s with heap := h2 } := by
      refine Inv.turnedL (s := { s with heap := s.heap.push { cls := .type "tuple", data := .seq #[ux, uy] } }) (h' := h2) (t' := s.toks) (fp := [z, TI, TO, i1, i2]) I0 (fun c o nc e => ?_) hf0
      simp only [List.mem_cons, List.not_mem_nil, or_false, not_or] at nc
      obtain ⟨n1, n2, n3, n4, n5⟩ := nc
      rcases Heap.get?_push_cases e with ⟨rfl, rfl⟩ | e
      · exact b2.extBut _ _ n1 a5
      · exact b2.extBut _ _ n1 (a7 c o n1 n3 n4 n5 e)
    refine ⟨.ref s.heap.objs.size, _, I1, rfl, ⟨_, rfl, fr, fun xs' ys' x' y' q1' q2' g1' g2' => ?_⟩, ⟨b1, b2.extBut _ _ D.TIz (a7 _ _ D.TIz D.TITO D.TIi1 D.TIi2 eI), ⟨_, _, b2.extBut _ _ D.TOz a2⟩, a3.at fun o e => b2.extBut _ _ D.i1z e, a4.at fun o e => b2.extBut _ _ D.i2z e⟩, fun c hc => (hf0 c hc).1⟩
    have ex : xs' = xs := I.tuple_inj q1' q1
    have ey : ys' = ys := I.list_inj q2' q2
    subst ex ey
    rw [g1] at g1'
    rw [g2] at g2'
    cases g1'
    cases g2'
    rfl
  done := by
    intro X hP hw hK hc i pins s σ H E I hf st hg
    subst hP hw hK
    obtain ⟨ez, eI, ⟨u, v, eO⟩, s1, s2⟩ := st
    obtain ⟨xs, ys, q1, q2, g⟩ := hg
    obtain ⟨its1, r1, p1, z1⟩ := I.tuple q1
    obtain ⟨its2, r2, p2, z2⟩ := I.list q2
    have l1 := r1.length
    have l2 := r2.length
    refine nextTL_end (I.ok.hd hc) D ez eI eO s1 s2 (show s.heap.IsTuple a its1.toArray from p1) p2.isList ?_ fun h' kk => ⟨rfl, ?_⟩
    · rcases g with g | g
      · left; simp; omega
      · right; simp; omega
    · refine I.turnedL (t' := s.toks) (fp := [z, TI, TO, i1, i2]) (fun c o nc e => ?_) hf
      simp only [List.mem_cons, List.not_mem_nil, or_false, not_or] at nc
      obtain ⟨n1, n2, n3, n4, n5⟩ := nc
      exact kk c o n1 n3 n4 n5 e
  self := fun _ _ _ _ _ st h => wpAny_pyIter_zip st.1 h
theorem zip_apart {n a b : Nat} (ha : a < n) (hb : b < n) : ZipApart (n + 4) (n + 2) (n + 3) n (n + 1) a b := by
  constructor <;> exact fun (e : @Eq Nat _ _) => absurd e (by omega)
section
variable {X : Cx}
def iZip (K : PySem.W.Frag) (ta : TA) : TI := fun σ H R => ta σ H fun vs H1 => ∃ a b xs ys, vs = [.ref a, .ref b] ∧ SqT K H1 a xs ∧ SqL K H1 b ys ∧ R (Itz K a b) H1
theorem pi_zip {a b : Expr} {ta : TA} {p pos : Pos} {elts : List Expr} {kk : Nat} {tp : Pos} (hg : Gl X "zip") (hm : X.mg "zip" = none) (ha : PA X [a, b] ta) (hs : starEach [a, b] X.env = [(false, eval a X.env), (false, eval b X.env)] := by rfl) (hs2 : starEach [b] X.env = [(false, eval b X.env)] := by rfl) :
    PI X (.Tuple elts kk tp) (.Call (.Name "zip" p) [a, b] [] pos) (iZip X.K ta) := by
  intro pins s σ H R I h
  refine Call_ (ld_blt I hg hm boot_zip (PyProof.Rows.callWith_type1 (thn (ha pos pins s σ H _ I h) fun us s1 ⟨vs, H1, I1, r1, q1⟩ => ?_) (by rw [hs, hs2]) (by rw [hs2]; rfl)))
  obtain ⟨ea, eb, xs, ys, rfl, h1, h2, q⟩ := q1
  obtain ⟨u1, u2, rfl, rr1, rr2⟩ := vals2 r1
  cases rr1
  cases rr2
  obtain ⟨its1, v1, p1, z1⟩ := I1.tuple h1
  obtain ⟨its2, v2, p2, z2⟩ := I1.list h2
  have t1 : s1.heap.IsTuple ea its1.toArray := p1
  obtain ⟨oa, eoa, _⟩ := id t1
  obtain ⟨ob, eob, _⟩ := id p2.isList
  have la : ea < s1.heap.objs.size := Heap.lt_size eoa
  have lb : eb < s1.heap.objs.size := Heap.lt_size eob
  refine call_zipTL t1 p2.isList fun h' c1 c2 c3 c4 c5 c6 c7 => ?_
  refine wpAny_pyIter_zip (s := { s1 with heap := h' }) c1 ?_
  have D : ZipApart (s1.heap.objs.size + 4) (s1.heap.objs.size + 2) (s1.heap.objs.size + 3) s1.heap.objs.size (s1.heap.objs.size + 1) ea eb := by
    exact zip_apart la lb
  refine ⟨s1.heap.objs.size + 4, [s1.heap.objs.size + 4, s1.heap.objs.size + 2, s1.heap.objs.size + 3, s1.heap.objs.size, s1.heap.objs.size + 1], _, _, H1, rfl, I1.kept (t' := s1.toks) c7, turn_zip D, ⟨c1, c2, ⟨_, _, c3⟩, c4, c5⟩, fun c hc => ?_, q⟩
  have hge : s1.heap.objs.size ≤ c := by
    simp only [List.mem_cons, List.not_mem_nil, or_false] at hc
    rcases hc with rfl | rfl | rfl | rfl | rfl
    · exact Nat.le_add_right _ 4
    · exact Nat.le_add_right _ 2
    · exact Nat.le_add_right _ 3
    · exact Nat.le_refl _
    · exact Nat.le_add_right _ 1
  exact I1.fpOk hge (I1.hok.fresh hge)
end
end L2
set_option maxHeartbeats 4000000
namespace K12
open PySem L2 CD
def top (i : Nat) : Stmt := PySem.Challenge.pw_maybetables_k12_what_stands_in_a_conditi.main.body.getD i (.Pass ⟨0, 0, 0, 0⟩)
abbrev sCellV : Stmt := top 5
abbrev sGapsA : Stmt := top 6
abbrev sValsA : Stmt := top 7
abbrev sCellsW : Stmt := top 8
abbrev sCInit : Stmt := inClass (top 10) 0
abbrev sCTruth : Stmt := inClass (top 10) 1
abbrev sCHolds : Stmt := inClass (top 10) 2
abbrev sTInit : Stmt := inClass (top 11) 0
abbrev sTWork : Stmt := inClass (top 11) 1
abbrev sSInit : Stmt := inClass (top 12) 0
abbrev sSWork : Stmt := inClass (top 12) 1
abbrev sAInit : Stmt := inClass (top 13) 0
abbrev sAWork : Stmt := inClass (top 13) 1
abbrev sOInit : Stmt := inClass (top 14) 0
abbrev sOWork : Stmt := inClass (top 14) 1
abbrev sPInit : Stmt := inClass (top 15) 0
abbrev sPWork : Stmt := inClass (top 15) 1
/-- what stands under the built-in names -/
structure Txt (mg : Str → Option Value) : Prop where
  range : mg "range" = none
  len : mg "len" = none
  sorted : mg "sorted" = none
  list : mg "list" = none
  dict : mg "dict" = none
  isi : mg "isinstance" = none
  bool : mg "bool" = none
  str : mg "str" = none
  set : mg "set" = none
  tuple : mg "tuple" = none
  sum : mg "sum" = none
  max : mg "max" = none
/-- a def of the text that keeps its promise -/
def Cal (P : Program) (w : World) (K : PySem.W.Frag) (mg : Str → Option Value) (base : Heap) (x : Str) (k : Nat) (ps : List Str) (sp : Sp) : Prop :=
  ∃ f fd, FnOk P w K mg base CX0 k f fd ps sp ∧ Binds K fd ps [] ∧ PySem.W.keepIn K (.ref f) = true ∧ mg x = some (.ref f)
theorem same_new {H : Hp} {p : Addr} (h : H p = none) (o : HO) : Same H (upd H p o) := fun b u q => by rw [upd_ne (ne_of_none q h)]; exact q
theorem same_upd {H H' : Hp} {p : Addr} (s : Same H H') (h : H p = none) (o : HO) : Same H (upd H' p o) := fun b u q => by rw [upd_ne (ne_of_none q h)]; exact s b u q
theorem _root_.L2.Same.tup {K : PySem.W.Frag} {H H' : Hp} {a : Addr} {xs : List V} (e : Same H H') (h : SqT K H a xs) : SqT K H' a xs := by
  rcases h with (h | ⟨o, h⟩) | h
  · exact .inl (.inl (e _ _ h))
  · exact .inl (.inr ⟨o, e _ _ h⟩)
  · exact .inr h
theorem small {n : Nat} (h : n ≤ 4000) : n ≤ sizeLine := Nat.le_trans h (by decide)
theorem kit_is (K : PySem.W.Frag) : PySem.W.kitOne K (.type "int") (.type "str") = some false := by kernel_rfl
theorem ty_key {K : PySem.W.Frag} {H : Hp} (k : Key) : TyOf K H (kV k) (match k with | .inl _ => .type "int" | .inr _ => .type "str") := by
  cases k with
  | inl i => exact .int i
  | inr x => exact .str x
theorem kit_key (K : PySem.W.Frag) (k : Key) : PySem.W.kitOne K (match k with | .inl _ => .type "int" | .inr _ => .type "str") (.type "str") = some k.isRight := by
  cases k with
  | inl i => exact kit_is K
  | inr x => exact kit_ss K "str"
theorem rel_ty {n : String} : ∀ u, RelV (.ty n) u → u = .type n := fun u r => r
/-! the promises -/
/-- a filling that has the gaps of c -/
def Has (H : Hp) (d : Addr) (f : Str → Int) (ks : List Key) : Prop := ∃ kvs, H d = some (.dK kvs) ∧ ∀ x, Sum.inr x ∈ ks → valV kvs (Sum.inr x : Key) = some (.int (f x))
def spCellV : Sp := fun vs H Q _ => ∃ (k : Key) (d : Addr) (f : Str → Int), vs = [kV k, .ref d] ∧ Has H d f [k] ∧ Q (.int (come f k)) H
def spGapsA (K : PySem.W.Frag) : Sp := fun vs H Q _ => ∃ (a : Addr) (ks : List Key), vs = [.ref a] ∧ SqL K H a (ks.map kV) ∧ ks.length ≤ 4000 ∧ ∀ l H', Same H H' → H' l = some (.lst ((strsIn ks).map V.str)) → Q (.ref l) H'
def spValsA (K : PySem.W.Frag) : Sp := fun vs H Q _ => ∃ (a : Addr) (ks : List Key), vs = [.ref a] ∧ SqL K H a (ks.map kV) ∧ ks.length ≤ 4000 ∧ ∀ l H', Same H H' → H' l = some (.lst ((intsIn ks).map V.int)) → Q (.ref l) H'
/-- the cells lie in a small pool -/
def Pool (ks : List Key) (n : Nat) : Prop := ∃ pool : List Key, pool.length < 64 ∧ n * pool.length ≤ 4000 ∧ ∀ k ∈ ks, k ∈ pool
def spCellsW (T : Cl) (K : PySem.W.Frag) : Sp := fun vs H Q _ => ∃ (a : Addr) (xs : List V) (l : List Cd), vs = [.ref a] ∧ (SqT K H a xs ∨ SqL K H a xs) ∧ IsL T H l xs ∧ Pool (cellsL l) l.length ∧
  ∀ (r : Addr) (H' : Hp) (ks : List Key), Same H H' → H' r = some (.lst (ks.map kV)) → ks.length ≤ 4000 → (∀ k : Key, k ∈ ks ↔ k ∈ cellsL l) → Q (.ref r) H'
section
variable {P : Program} {w : World} {K : PySem.W.Frag} {mg : Str → Option Value} {base : Heap} {f : Addr} {fd : FuncData}
theorem scCV : FnScope ["cell", "filling"] ["cell", "filling"] (defScope sCellV) := ⟨rfl, rfl, rfl, by decide +kernel, rfl, by decide +kernel, by decide +kernel⟩
theorem ok_cellv (F : Fun K "cell_value" "cell_value" sCellV f fd) (T : Txt mg) : FnOk P w K mg base CX0 1 f fd ["cell", "filling"] spCellV := by
  refine F.ok scCV (fun vs H Q E h => ?_) (fun cdv A outer s H vs Q E hr h => ?_)
  · obtain ⟨k, d, f, rfl, _⟩ := h
    rfl
  obtain ⟨k, d, fl, rfl, ⟨kvs, hd, hk⟩, q⟩ := h
  have hu := hu_of hr
  refine ⟨_, pss_cons (ps_if (pt_val (pe_callB call_isi rfl T.isi PyProof.Rows.boot_isinstance (pa_cons (pv 0) (pa_cons (pe_bltn (v := .ty "str") rfl T.str PyProof.Rows.boot_str rfl) pa_nil)))) (pss_one (ps_ret (pe_dget hu (pv 1) (pv 0) (fun _ _ => rfl)))) pss_nil)
    (pss_one (ps_ret (pv 0))), ?_⟩
  refine ⟨_, rfl, _, _, _, _, _, rfl, rel_ty, ty_key k, kit_key K k, _, rfl, ?_⟩
  cases k with
  | inl i => exact iteF ⟨_, rfl, q⟩
  | inr x =>
    refine iteT ⟨_, rfl, _, rfl, d, _, rfl, ?_, q⟩
    have e : valV kvs (Sum.inr x : Key) = some (.int (come fl (Sum.inr x))) := hk x (by simp)
    rw [← e]
    exact DGet.k (k := Sum.inr x) hd
theorem scGA : FnScope ["cells"] ["cells"] (defScope sGapsA) := ⟨rfl, rfl, rfl, by decide +kernel, rfl, by decide +kernel, by decide +kernel⟩
theorem nd1 (x : Str) : ([x] : List Str).Nodup := by simp
theorem of_key {ks : List Key} {i : Nat} {x : V} (hi : (ks.map kV)[i]? = some x) : ∃ k, ks[i]? = some k ∧ x = kV k := by
  rw [List.getElem?_map] at hi
  cases z : ks[i]? with
  | none => rw [z] at hi; cases hi
  | some v => rw [z] at hi; exact ⟨v, rfl, (Option.some.inj hi).symm⟩
theorem strsIn_len (l : List Key) : (strsIn l).length ≤ l.length := List.length_filterMap_le _ _
theorem intsIn_len (l : List Key) : (intsIn l).length ≤ l.length := List.length_filterMap_le _ _
theorem strsIn_snoc (l : List Key) (k : Key) : strsIn (l ++ [k]) = strsIn l ++ (match k with | .inl _ => [] | .inr x => [x]) := by
  unfold strsIn
  rw [List.filterMap_append]
  cases k <;> rfl
theorem intsIn_snoc (l : List Key) (k : Key) : intsIn (l ++ [k]) = intsIn l ++ (match k with | .inl x => [x] | .inr _ => []) := by
  unfold intsIn
  rw [List.filterMap_append]
  cases k <;> rfl
theorem take_snoc {α : Type} {l : List α} {i : Nat} {a : α} (h : l[i]? = some a) : l.take (i + 1) = l.take i ++ [a] := by
  rw [List.take_add_one, h]; rfl
theorem ok_gapsa (F : Fun K "gaps_among" "gaps_among" sGapsA f fd) (T : Txt mg) : FnOk P w K mg base CX0 1 f fd ["cells"] (spGapsA K) := by
  refine F.ok scGA (fun vs H Q E h => ?_) (fun cdv A outer s H vs Q E hr h => ?_)
  · obtain ⟨a, ks, rfl, _⟩ := h
    rfl
  obtain ⟨a, ks, rfl, hS, hl, q⟩ := h
  refine ⟨_, pss_one (ps_ret (pe_lcG (caps := []) ["cell"] rfl (pi_list (pv 0)) ⟨rfl, by decide +kernel, by decide +kernel, rfl, .nil, rfl, rfl, rfl⟩
    (fun s H ex => pg_name (X := cxLG _ _ _ _ s H ex) (i := 0) (nd1 _) rfl (Or.inl rfl) (.inr rfl))
    (fun s H ex => pif_one (pt_val (pe_callB (call_isiK (K := K) rfl) rfl T.isi PyProof.Rows.boot_isinstance (pa_cons (pe_var (X := cxLG _ _ _ _ s H ex) (i := 0) rfl (Or.inl rfl)) (pa_cons (pe_bltn (v := .ty "str") rfl T.str PyProof.Rows.boot_str rfl) pa_nil)))))
    (fun s H ex => pe_var (X := cxLG _ _ _ _ s H ex) (i := 0) rfl (Or.inl rfl)))), ?_⟩
  refine ⟨_, rfl, a, rfl, ⟨_, hS⟩, fun D hD => ?_⟩
  refine lcg_list (K := K) (a := a) (xs := ks.map kV) (fun i σ H2 => ∃ u, σ = [u] ∧ Same H H2 ∧ H2 D = some (.lst ((strsIn (ks.take i)).map V.str)))
    ⟨none, rfl, same_new hD _, upd_same⟩ (fun i σ H2 _ ⟨_, _, s2, _⟩ => s2.seq hS) ?_ ?_
  · rintro i x σ H2 hi ⟨u, rfl, s2, h2⟩
    obtain ⟨k, hk, rfl⟩ := of_key hi
    refine ⟨_, rfl, _, _, _, _, _, rfl, rel_ty, ty_key k, kit_key K k, _, rfl, ?_⟩
    rw [take_snoc hk, strsIn_snoc]
    cases k with
    | inl j => exact iteF ⟨_, rfl, s2, by simpa using h2⟩
    | inr y =>
      refine iteT ⟨_, rfl, _, h2, ?_, _, rfl, same_upd s2 hD _, ?_⟩
      · have := strsIn_len (ks.take i)
        have : (ks.take i).length ≤ ks.length := by rw [List.length_take]; omega
        rw [List.length_map]
        exact Nat.lt_of_le_of_lt (by omega : _ ≤ 4000) (by decide)
      · rw [upd_same, List.map_append]; rfl
  · rintro σ H2 ⟨u, rfl, s2, h2⟩
    rw [List.length_map, List.take_length] at h2
    exact q D H2 s2 h2
theorem scVA : FnScope ["cells"] ["cells"] (defScope sValsA) := ⟨rfl, rfl, rfl, by decide +kernel, rfl, by decide +kernel, by decide +kernel⟩
theorem ok_valsa (F : Fun K "values_among" "values_among" sValsA f fd) (T : Txt mg) : FnOk P w K mg base CX0 1 f fd ["cells"] (spValsA K) := by
  refine F.ok scVA (fun vs H Q E h => ?_) (fun cdv A outer s H vs Q E hr h => ?_)
  · obtain ⟨a, ks, rfl, _⟩ := h
    rfl
  obtain ⟨a, ks, rfl, hS, hl, q⟩ := h
  refine ⟨_, pss_one (ps_ret (pe_lcG (caps := []) ["cell"] rfl (pi_list (pv 0)) ⟨rfl, by decide +kernel, by decide +kernel, rfl, .nil, rfl, rfl, rfl⟩
    (fun s H ex => pg_name (X := cxLG _ _ _ _ s H ex) (i := 0) (nd1 _) rfl (Or.inl rfl) (.inr rfl))
    (fun s H ex => pif_one (pt_not (pt_val (pe_callB (call_isiK (K := K) rfl) rfl T.isi PyProof.Rows.boot_isinstance (pa_cons (pe_var (X := cxLG _ _ _ _ s H ex) (i := 0) rfl (Or.inl rfl)) (pa_cons (pe_bltn (v := .ty "str") rfl T.str PyProof.Rows.boot_str rfl) pa_nil))))))
    (fun s H ex => pe_var (X := cxLG _ _ _ _ s H ex) (i := 0) rfl (Or.inl rfl)))), ?_⟩
  refine ⟨_, rfl, a, rfl, ⟨_, hS⟩, fun D hD => ?_⟩
  refine lcg_list (K := K) (a := a) (xs := ks.map kV) (fun i σ H2 => ∃ u, σ = [u] ∧ Same H H2 ∧ H2 D = some (.lst ((intsIn (ks.take i)).map V.int)))
    ⟨none, rfl, same_new hD _, upd_same⟩ (fun i σ H2 _ ⟨_, _, s2, _⟩ => s2.seq hS) ?_ ?_
  · rintro i x σ H2 hi ⟨u, rfl, s2, h2⟩
    obtain ⟨k, hk, rfl⟩ := of_key hi
    refine ⟨_, rfl, _, _, _, _, _, rfl, rel_ty, ty_key k, kit_key K k, _, rfl, ?_⟩
    rw [take_snoc hk, intsIn_snoc]
    cases k with
    | inr j => exact iteF ⟨_, rfl, s2, by simpa using h2⟩
    | inl y =>
      refine iteT ⟨_, rfl, _, h2, ?_, _, rfl, same_upd s2 hD _, ?_⟩
      · have := intsIn_len (ks.take i)
        have : (ks.take i).length ≤ ks.length := by rw [List.length_take]; omega
        rw [List.length_map]
        exact Nat.lt_of_le_of_lt (by omega : _ ≤ 4000) (by decide)
      · rw [upd_same, List.map_append]; rfl
  · rintro σ H2 ⟨u, rfl, s2, h2⟩
    rw [List.length_map, List.take_length] at h2
    exact q D H2 s2 h2

theorem scCW : FnScope ["parts", "cells", "part"] ["parts"] (defScope sCellsW) := ⟨rfl, rfl, rfl, by decide +kernel, rfl, by decide +kernel, by decide +kernel⟩
/-- what cells_within asks of the classes -/
structure Clz (K : PySem.W.Frag) (T : Cl) : Prop where
  cl : ∀ c : Cd, Cls K (T.of c)
  ng : ∀ c : Cd, NoAttr K (T.of c) "kept_gaps"
  nv : ∀ c : Cd, NoAttr K (T.of c) "kept_values"
  na : ∀ c : Cd, NoAttr K (T.of c) "kept_atoms"
  ns : ∀ c : Cd, NoAttr K (T.of c) "settled"
  nsd : NoAttr K T.t "said"
  no1 : NoAttr K T.s "one"
  no2 : NoAttr K T.s "other"
  npa : NoAttr K T.a "parts"
  npo : NoAttr K T.o "parts"
  npp : NoAttr K T.p "part"
theorem pool_bound {gs : List Str} {vs : List Int} {c : Cd} {pool : List Key} (h1 : gs.Nodup) (h2 : ∀ x, x ∈ gs ↔ Sum.inr x ∈ cells c) (h3 : vs.Nodup) (h4 : ∀ x, x ∈ vs ↔ Sum.inl x ∈ cells c) (hp : ∀ k ∈ cells c, k ∈ pool) : gs.length + vs.length ≤ pool.length := by
  have e : (gs.map (Sum.inr : Str → Key) ++ vs.map (Sum.inl : Int → Key)).length ≤ pool.length := by
    refine nodup_sub ?_ fun k hk => ?_
    · rw [List.nodup_append]
      refine ⟨?_, ?_, ?_⟩
      · exact (List.pairwise_map.mpr (h1.imp fun h e => h (Sum.inr.inj e)))
      · exact (List.pairwise_map.mpr (h3.imp fun h e => h (Sum.inl.inj e)))
      · intro a ha b hb e
        obtain ⟨x, _, rfl⟩ := List.mem_map.mp ha
        obtain ⟨y, _, rfl⟩ := List.mem_map.mp hb
        cases e
    · rcases List.mem_append.mp hk with h | h
      · obtain ⟨x, hx, rfl⟩ := List.mem_map.mp h
        exact hp _ ((h2 x).mp hx)
      · obtain ⟨x, hx, rfl⟩ := List.mem_map.mp h
        exact hp _ ((h4 x).mp hx)
  rw [List.length_append, List.length_map, List.length_map] at e
  exact e
theorem ok_cellsw {T : Cl} (F : Fun K "cells_within" "cells_within" sCellsW f fd) (Z : Clz K T) : FnOk P w K mg base CX0 1 f fd ["parts"] (spCellsW T K) := by
  refine F.ok scCW (fun vs H Q E h => ?_) (fun cdv A outer s H vs Q E hr h => ?_)
  · obtain ⟨a, xs, l, rfl, _⟩ := h
    rfl
  obtain ⟨a, xs, l, rfl, hS, hL, ⟨pool, p1, p2, p3⟩, q⟩ := h
  have hll := isL_len hL
  -- what one turn does
  have turn : ∀ (D : Addr) (i : Nat) (x : V) (ks : List Key) (H2 : Hp) (R : Hp → Prop), xs[i]? = some x → H D = none → Same H H2 → H2 D = some (.lst (ks.map kV)) → (∀ k : Key, k ∈ ks ↔ ∃ c ∈ l.take i, k ∈ cells c) → ks.length ≤ i * pool.length →
      (∀ (ks' : List Key) (H3 : Hp), Same H H3 → H3 D = some (.lst (ks'.map kV)) → (∀ k : Key, k ∈ ks' ↔ ∃ c ∈ l.take (i + 1), k ∈ cells c) → ks'.length ≤ (i + 1) * pool.length → R H3) →
      ∃ (ap : Addr) (C dx : Addr) (fs : List (Str × V)) (tg tv : Addr) (gs : List Str) (vs : List Int), x = .ref ap ∧ H2 ap = some (.ins C dx fs) ∧ Cls K C ∧ NoAttr K C "kept_gaps" ∧ NoAttr K C "kept_values" ∧ fs.lookup ("kept_gaps" : Str) = some (.ref tg) ∧ fs.lookup ("kept_values" : Str) = some (.ref tv) ∧
        SqT K H2 tg (gs.map V.str) ∧ (ks.map kV).length + (gs.map V.str).length ≤ sizeLine ∧ (upd H2 D (.lst (ks.map kV ++ gs.map V.str))) ap = some (.ins C dx fs) ∧ (upd H2 D (.lst (ks.map kV ++ gs.map V.str))) D = some (.lst (ks.map kV ++ gs.map V.str)) ∧ SqT K (upd H2 D (.lst (ks.map kV ++ gs.map V.str))) tv (vs.map V.int) ∧
        (ks.map kV ++ gs.map V.str).length + (vs.map V.int).length ≤ sizeLine ∧ R (upd (upd H2 D (.lst (ks.map kV ++ gs.map V.str))) D (.lst (ks.map kV ++ gs.map V.str ++ vs.map V.int))) := by
    intro D i x ks H2 R hi hD s2 hd hk hkl hR
    obtain ⟨c, hc, hC⟩ := isL_get hL hi
    have hcm := List.mem_of_getElem? hc
    have hil : i < l.length := (List.getElem?_eq_some_iff.mp hc).1
    obtain ⟨ap, dx, fs, rfl, ha, _, ⟨⟨tg, gs, g1, g2, g3, g4, g5⟩, ⟨tv, vs, v1, v2, v3, v4, v5⟩, _, _⟩, _⟩ := isC_iff.mp hC
    have hb := pool_bound g3 g5 v3 v5 (fun k hk => p3 k (cellsL_mem.mpr ⟨c, hcm, hk⟩))
    have nda : ap ≠ D := ne_of_none ha hD
    have ntv : tv ≠ D := ne_of_none v2 hD
    have bnd : (i + 1) * pool.length ≤ 4000 := Nat.le_trans (Nat.mul_le_mul_right _ hil) p2
    rw [Nat.succ_mul] at bnd
    refine ⟨ap, _, dx, fs, tg, tv, gs, vs, rfl, s2 _ _ ha, Z.cl c, Z.ng c, Z.nv c, g1, v1, SqT.of (s2 _ _ g2), ?_, ?_, upd_same, SqT.of (by rw [upd_ne ntv]; exact s2 _ _ v2), ?_, ?_⟩
    · rw [List.length_map, List.length_map]; exact small (by omega)
    · rw [upd_ne nda]; exact s2 _ _ ha
    · rw [List.length_append, List.length_map, List.length_map, List.length_map]; exact small (by omega)
    · refine hR (ks ++ gs.map Sum.inr ++ vs.map Sum.inl) _ (same_upd (same_upd s2 hD _) hD _) ?_ ?_ ?_
      · rw [upd_same, List.map_append, List.map_append, List.map_map, List.map_map]; rfl
      · intro k
        rw [List.take_add_one, hc]
        simp only [List.mem_append, hk, List.mem_map]
        constructor
        · rintro ((⟨c', h1, h2⟩ | ⟨y, hy, rfl⟩) | ⟨y, hy, rfl⟩)
          · exact ⟨c', .inl h1, h2⟩
          · exact ⟨c, .inr (by simp), (g5 y).mp hy⟩
          · exact ⟨c, .inr (by simp), (v5 y).mp hy⟩
        · rintro ⟨c', h1 | h1, h2⟩
          · exact .inl (.inl ⟨c', h1, h2⟩)
          · have e : c' = c := by simpa using h1
            subst e
            cases k with
            | inl y => exact .inr ⟨y, (v5 y).mpr h2, rfl⟩
            | inr y => exact .inl (.inr ⟨y, (g5 y).mpr h2, rfl⟩)
      · rw [List.length_append, List.length_append, List.length_map, List.length_map, Nat.succ_mul]; omega
  have fin : ∀ (D : Addr) (H2 : Hp) (ks : List Key), Same H H2 → H2 D = some (.lst (ks.map kV)) → (∀ k : Key, k ∈ ks ↔ ∃ c ∈ l.take xs.length, k ∈ cells c) → ks.length ≤ xs.length * pool.length → Q (.ref D) H2 := by
    intro D H2 ks s2 hd hk hkl
    rw [← hll, List.take_length] at hk
    rw [← hll] at hkl
    exact q D H2 ks s2 hd (by omega) fun k => (hk k).trans cellsL_mem.symm
  rcases hS with hS | hS
  · refine ⟨_, pss_cons (ps_set (i := 1) scCW.nd rfl (Or.inl rfl) (pe_lst pa_nil))
      (pss_cons (ps_for PassesOwn.never rfl (pi_tup (pv 0)) (pg_name (i := 2) scCW.nd rfl (Or.inl rfl))
        (pss_cons (ps_expr (pe_bm PySem.F.plainAttrs_list PySem.F.slot_list_extend PySem.F.type_list_extend mt_extendT (pv 1) (pa_cons (pe_fld (pv 2) rfl) pa_nil)))
        (pss_one (ps_expr (pe_bm PySem.F.plainAttrs_list PySem.F.slot_list_extend PySem.F.type_list_extend mt_extendT (pv 1) (pa_cons (pe_fld (pv 2) rfl) pa_nil))))))
      (pss_one (ps_ret (pv 1)))), ?_⟩
    refine ⟨small (by decide), fun D hD => ?_⟩
    refine ⟨_, rfl, a, rfl, ⟨_, (same_new hD _).tup hS⟩, for_tup (K := K) (a := a) (xs := xs) (fun i σ H2 => ∃ (ks : List Key) (u : Option V), σ = [some (.ref a), some (.ref D), u] ∧ Same H H2 ∧ H2 D = some (.lst (ks.map kV)) ∧ (∀ k : Key, k ∈ ks ↔ ∃ c ∈ l.take i, k ∈ cells c) ∧ ks.length ≤ i * pool.length)
      ⟨[], none, rfl, same_new hD _, upd_same, by simp, Nat.zero_le _⟩ (fun i σ H2 _ ⟨_, _, _, s2, _⟩ => s2.tup hS) ?_ ?_⟩
    · rintro i x σ H2 hi ⟨ks, u, rfl, s2, hd, hk, hkl⟩
      obtain ⟨ap, C, dx, fs, tg, tv, gs, vs, rfl, ha, c1, c2, c3, l1, l2, z1, z2, z3, z4, z5, z6, hR⟩ := turn D i x ks H2 (fun H3 => ∃ (ks : List Key) (u : Option V), ([some (.ref a), some (.ref D), some x] : St) = [some (.ref a), some (.ref D), u] ∧ Same H H3 ∧ H3 D = some (.lst (ks.map kV)) ∧ (∀ k : Key, k ∈ ks ↔ ∃ c ∈ l.take (i + 1), k ∈ cells c) ∧ ks.length ≤ (i + 1) * pool.length) hi hD s2 hd hk hkl
        (fun ks' H3 s3 h3 k3 l3 => ⟨ks', _, rfl, s3, h3, k3, l3⟩)
      refine ⟨_, rfl, .inl ⟨rfl, _, SqL.of hd⟩, _, rfl, ap, C, dx, fs, _, rfl, ha, c1, c2, l1, D, tg, _, _, rfl, rfl, hd, z1, z2, ?_⟩
      exact ⟨_, rfl, .inl ⟨rfl, _, SqL.of z4⟩, _, rfl, ap, C, dx, fs, _, rfl, z3, c1, c3, l2, D, tv, _, _, rfl, rfl, z4, z5, z6, hR⟩
    · rintro σ H2 ⟨ks, u, rfl, s2, hd, hk, hkl⟩
      exact ⟨_, rfl, fin D H2 ks s2 hd hk hkl⟩
  · refine ⟨_, pss_cons (ps_set (i := 1) scCW.nd rfl (Or.inl rfl) (pe_lst pa_nil))
      (pss_cons (ps_for PassesOwn.never rfl (pi_list (pv 0)) (pg_name (i := 2) scCW.nd rfl (Or.inl rfl))
        (pss_cons (ps_expr (pe_bm PySem.F.plainAttrs_list PySem.F.slot_list_extend PySem.F.type_list_extend mt_extendT (pv 1) (pa_cons (pe_fld (pv 2) rfl) pa_nil)))
        (pss_one (ps_expr (pe_bm PySem.F.plainAttrs_list PySem.F.slot_list_extend PySem.F.type_list_extend mt_extendT (pv 1) (pa_cons (pe_fld (pv 2) rfl) pa_nil))))))
      (pss_one (ps_ret (pv 1)))), ?_⟩
    refine ⟨small (by decide), fun D hD => ?_⟩
    refine ⟨_, rfl, a, rfl, ⟨_, (same_new hD _).seq hS⟩, for_list (K := K) (a := a) (xs := xs) (fun i σ H2 => ∃ (ks : List Key) (u : Option V), σ = [some (.ref a), some (.ref D), u] ∧ Same H H2 ∧ H2 D = some (.lst (ks.map kV)) ∧ (∀ k : Key, k ∈ ks ↔ ∃ c ∈ l.take i, k ∈ cells c) ∧ ks.length ≤ i * pool.length)
      ⟨[], none, rfl, same_new hD _, upd_same, by simp, Nat.zero_le _⟩ (fun i σ H2 _ ⟨_, _, _, s2, _⟩ => s2.seq hS) ?_ ?_⟩
    · rintro i x σ H2 hi ⟨ks, u, rfl, s2, hd, hk, hkl⟩
      obtain ⟨ap, C, dx, fs, tg, tv, gs, vs, rfl, ha, c1, c2, c3, l1, l2, z1, z2, z3, z4, z5, z6, hR⟩ := turn D i x ks H2 (fun H3 => ∃ (ks : List Key) (u : Option V), ([some (.ref a), some (.ref D), some x] : St) = [some (.ref a), some (.ref D), u] ∧ Same H H3 ∧ H3 D = some (.lst (ks.map kV)) ∧ (∀ k : Key, k ∈ ks ↔ ∃ c ∈ l.take (i + 1), k ∈ cells c) ∧ ks.length ≤ (i + 1) * pool.length) hi hD s2 hd hk hkl
        (fun ks' H3 s3 h3 k3 l3 => ⟨ks', _, rfl, s3, h3, k3, l3⟩)
      refine ⟨_, rfl, .inl ⟨rfl, _, SqL.of hd⟩, _, rfl, ap, C, dx, fs, _, rfl, ha, c1, c2, l1, D, tg, _, _, rfl, rfl, hd, z1, z2, ?_⟩
      exact ⟨_, rfl, .inl ⟨rfl, _, SqL.of z4⟩, _, rfl, ap, C, dx, fs, _, rfl, z3, c1, c3, l2, D, tv, _, _, rfl, rfl, z4, z5, z6, hR⟩
    · rintro σ H2 ⟨ks, u, rfl, s2, hd, hk, hkl⟩
      exact ⟨_, rfl, fin D H2 ks s2 hd hk hkl⟩
end
end K12
set_option maxHeartbeats 4000000
namespace K12
open PySem L2 CD
/-- a method of the class at C -/
def MethFn (K : PySem.W.Frag) (C : Addr) (m qual : Str) (st : Stmt) (ps : List Str) : Prop := ∃ f fd, Meth K C m f ∧ Fun K m qual st f fd ∧ Binds K fd ps []
/-- the classes as the text makes them -/
structure Tc (K : PySem.W.Frag) (mg : Str → Option Value) (T : Cl) (CC : Addr) : Prop where
  z : Clz K T
  x : Txt mg
  dj : [T.t, T.s, T.a, T.o, T.p].Nodup
  hH : ∀ c : Cd, MethFn K (T.of c) "holds" "Cond.holds" sCHolds ["self", "filling", "told"]
  hT : ∀ c : Cd, MethFn K (T.of c) "truth" "Cond.truth" sCTruth ["self", "filling"]
  wT : MethFn K T.t "worked" "Truth.worked" sTWork ["self", "filling", "told"]
  wS : MethFn K T.s "worked" "Same.worked" sSWork ["self", "filling", "told"]
  wA : MethFn K T.a "worked" "AllOf.worked" sAWork ["self", "filling", "told"]
  wO : MethFn K T.o "worked" "OneOf.worked" sOWork ["self", "filling", "told"]
  wP : MethFn K T.p "worked" "Opposite.worked" sPWork ["self", "filling", "told"]
theorem Tc.of_t {K : PySem.W.Frag} {mg : Str → Option Value} {T : Cl} {CC : Addr} (h : Tc K mg T CC) {c : Cd} (e : T.of c = T.t) : ∃ b, c = .truth b := by
  have := h.dj
  simp only [List.nodup_cons, List.mem_cons, List.not_mem_nil, or_false, not_or] at this
  cases c with
  | truth b => exact ⟨b, rfl⟩
  | same x y => exact absurd e.symm this.1.1
  | all l => exact absurd e.symm this.1.2.1
  | one l => exact absurd e.symm this.1.2.2.1
  | opp c => exact absurd e.symm this.1.2.2.2
theorem Tc.of_s {K : PySem.W.Frag} {mg : Str → Option Value} {T : Cl} {CC : Addr} (h : Tc K mg T CC) {c : Cd} (e : T.of c = T.s) : ∃ x y, c = .same x y := by
  have := h.dj
  simp only [List.nodup_cons, List.mem_cons, List.not_mem_nil, or_false, not_or] at this
  cases c with
  | truth b => exact absurd e this.1.1
  | same x y => exact ⟨x, y, rfl⟩
  | all l => exact absurd e.symm this.2.1.1
  | one l => exact absurd e.symm this.2.1.2.1
  | opp c => exact absurd e.symm this.2.1.2.2
theorem Tc.of_a {K : PySem.W.Frag} {mg : Str → Option Value} {T : Cl} {CC : Addr} (h : Tc K mg T CC) {c : Cd} (e : T.of c = T.a) : ∃ l, c = .all l := by
  have := h.dj
  simp only [List.nodup_cons, List.mem_cons, List.not_mem_nil, or_false, not_or] at this
  cases c with
  | truth b => exact absurd e this.1.2.1
  | same x y => exact absurd e this.2.1.1
  | all l => exact ⟨l, rfl⟩
  | one l => exact absurd e.symm this.2.2.1.1
  | opp c => exact absurd e.symm this.2.2.1.2
theorem Tc.of_o {K : PySem.W.Frag} {mg : Str → Option Value} {T : Cl} {CC : Addr} (h : Tc K mg T CC) {c : Cd} (e : T.of c = T.o) : ∃ l, c = .one l := by
  have := h.dj
  simp only [List.nodup_cons, List.mem_cons, List.not_mem_nil, or_false, not_or] at this
  cases c with
  | truth b => exact absurd e this.1.2.2.1
  | same x y => exact absurd e this.2.1.2.1
  | all l => exact absurd e this.2.2.1.1
  | one l => exact ⟨l, rfl⟩
  | opp c => exact absurd e.symm this.2.2.2.1
theorem Tc.of_p {K : PySem.W.Frag} {mg : Str → Option Value} {T : Cl} {CC : Addr} (h : Tc K mg T CC) {c : Cd} (e : T.of c = T.p) : ∃ d, c = .opp d := by
  have := h.dj
  simp only [List.nodup_cons, List.mem_cons, List.not_mem_nil, or_false, not_or] at this
  cases c with
  | truth b => exact absurd e this.1.2.2.2
  | same x y => exact absurd e this.2.1.2.2
  | all l => exact absurd e this.2.2.1.2
  | one l => exact absurd e this.2.2.2.1
  | opp c => exact ⟨c, rfl⟩
def dom (T : Cl) (C : Addr) : Prop := ∃ c : Cd, T.of c = C
def spHold (T : Cl) (n : Nat) : Sp := fun vs H Q _ => ∃ (v : V) (d t : Addr) (c : Cd) (f : Str → Int), vs = [v, .ref d, .ref t] ∧ IsC T H c v ∧ depth c ≤ n ∧ nogap c = true ∧ Q (.bl (ev f c)) H
def spWork (T : Cl) (n : Nat) (C : Addr) : Sp := fun vs H Q _ => ∃ (a d t : Addr) (H0 : Hp) (c : Cd) (dx : Addr) (fs : List (Str × V)) (f : Str → Int), vs = [.ref a, .ref d, .ref t] ∧ T.of c = C ∧ H a = some (.ins C dx fs) ∧ Same H0 H ∧ Own T H0 fs c ∧ depth c ≤ n + 1 ∧ Has H d f (cells c) ∧ nogap c = true ∧ Q (.bl (ev f c)) H
theorem nogap_of {c d : Cd} (h : nogap d = true) (hs : ∀ x : Str, Sum.inr x ∈ cells c → Sum.inr x ∈ cells d) : nogap c = true := nogap_iff.mpr fun x hx => nogap_iff.mp h x (hs x hx)
theorem Has.sub {H : Hp} {d : Addr} {f : Str → Int} {ks ks' : List Key} (h : Has H d f ks) (hs : ∀ x : Str, Sum.inr x ∈ ks' → Sum.inr x ∈ ks) : Has H d f ks' := by
  obtain ⟨kvs, h1, h2⟩ := h
  exact ⟨kvs, h1, fun x hx => h2 x (hs x hx)⟩
section
variable {P : Program} {w : World} {K : PySem.W.Frag} {mg : Str → Option Value} {base : Heap} {f : Addr} {fd : FuncData} {T : Cl} {CC : Addr}
theorem scW1 : FnScope ["self", "filling", "told"] ["self", "filling", "told"] (defScope sTWork) := ⟨rfl, rfl, rfl, by decide +kernel, rfl, by decide +kernel, by decide +kernel⟩
theorem ok_wT {n k : Nat} (F : Fun K "worked" "Truth.worked" sTWork f fd) (Z : Tc K mg T CC) : FnOk P w K mg base CX0 (k + 1) f fd ["self", "filling", "told"] (spWork T n T.t) := by
  refine F.ok scW1 (fun vs H Q E h => ?_) (fun cdv A outer s H vs Q E hr h => ?_)
  · obtain ⟨a, d, tl, H0, c, dx, fs, f, rfl, _⟩ := h
    rfl
  obtain ⟨a, d, tl, H0, c, dx, fs, fl, rfl, hc, ha, s0, hO, hd, hF, hng, q⟩ := h
  obtain ⟨b, rfl⟩ := Z.of_t hc
  refine ⟨_, pss_one (ps_ret (pe_fld (pv 0) rfl)), ?_⟩
  refine ⟨_, rfl, a, T.t, dx, fs, _, rfl, ha, Z.z.cl (.truth b), Z.z.nsd, hO, ?_⟩
  have e : ev fl (.truth b) = b := by simp [ev]
  rw [e] at q
  exact q
theorem scW2 : FnScope ["self", "filling", "told"] ["self", "filling", "told"] (defScope sSWork) := ⟨rfl, rfl, rfl, by decide +kernel, rfl, by decide +kernel, by decide +kernel⟩
theorem ok_wS {n k : Nat} (F : Fun K "worked" "Same.worked" sSWork f fd) (Z : Tc K mg T CC) (C1 : Cal P w K mg base "cell_value" 1 ["cell", "filling"] spCellV) : FnOk P w K mg base CX0 (k + 2) f fd ["self", "filling", "told"] (spWork T n T.s) := by
  obtain ⟨g1, d1, G1, b1, k1, m1⟩ := C1
  refine F.ok scW2 (fun vs H Q E h => ?_) (fun cdv A outer s H vs Q E hr h => ?_)
  · obtain ⟨a, d, tl, H0, c, dx, fs, f, rfl, _⟩ := h
    rfl
  obtain ⟨a, d, tl, H0, c, dx, fs, fl, rfl, hc, ha, s0, hO, hd, hF, hng, q⟩ := h
  obtain ⟨x, y, rfl⟩ := Z.of_s hc
  have hr1 : Room 1 _ := hr.mono (by omega)
  refine ⟨_, pss_one (ps_ret (pe_cmpR op_eq (pe_call G1 hr1 rfl m1 k1 b1 .nil pass0 (pa_cons (pe_fld (pv 0) rfl) (pa_cons (pv 1) pa_nil))) (pe_call G1 hr1 rfl m1 k1 b1 .nil pass0 (pa_cons (pe_fld (pv 0) rfl) (pa_cons (pv 1) pa_nil))) (nomark _))), ?_⟩
  obtain ⟨h1, h2⟩ := hO
  refine ⟨_, rfl, a, T.s, dx, fs, _, rfl, ha, Z.z.cl (.same x y), Z.z.no1, h1, _, rfl, x, d, fl, rfl, hF.sub (fun z hz => by simp at hz; simp [cells, hz]), ?_⟩
  refine ⟨_, rfl, a, T.s, dx, fs, _, rfl, ha, Z.z.cl (.same x y), Z.z.no2, h2, _, rfl, y, d, fl, rfl, hF.sub (fun z hz => by simp at hz; simp [cells, hz]), rfl, ?_⟩
  rw [dec_int]
  have e : ev fl (.same x y) = (come fl x == come fl y) := by simp [ev]
  rw [e] at q
  exact q
theorem scW3 : FnScope ["self", "filling", "told", "part"] ["self", "filling", "told"] (defScope sAWork) := ⟨rfl, rfl, rfl, by decide +kernel, rfl, by decide +kernel, by decide +kernel⟩
theorem all_take {α : Type} {p : α → Bool} : ∀ {l : List α} {i : Nat} {a : α}, l[i]? = some a → (∀ x ∈ l.take i, p x = true) → p a = true → ∀ x ∈ l.take (i + 1), p x = true := by
  intro l i a h h1 h2 x hx
  rw [take_snoc h] at hx
  rcases List.mem_append.mp hx with hx | hx
  · exact h1 x hx
  · have : x = a := by simpa using hx
    subst this; exact h2
theorem isC_ref {T : Cl} {H : Hp} {c : Cd} {v : V} (h : IsC T H c v) {m : Str} (hm : m ∈ meths) : ∃ a dx fs, v = .ref a ∧ H a = some (.ins (T.of c) dx fs) ∧ fs.lookup m = none := by
  obtain ⟨a, dx, fs, e1, e2, e3, _⟩ := isC_iff.mp h
  exact ⟨a, dx, fs, e1, e2, e3 m hm⟩
theorem mem_holds : ("holds" : Str) ∈ meths := by unfold meths; simp
theorem mem_worked : ("worked" : Str) ∈ meths := by unfold meths; simp
abbrev FamH (P : Program) (w : World) (K : PySem.W.Frag) (mg : Str → Option Value) (base : Heap) (T : Cl) (n : Nat) : Prop := Fam P w K mg base CX0 (2 * n + 1) (dom T) "holds" ["self", "filling", "told"] (fun _ => spHold T n)
abbrev FamW (P : Program) (w : World) (K : PySem.W.Frag) (mg : Str → Option Value) (base : Heap) (T : Cl) (n : Nat) : Prop := Fam P w K mg base CX0 (2 * n + 2) (dom T) "worked" ["self", "filling", "told"] (spWork T n)
theorem ok_wA {n : Nat} (F : Fun K "worked" "AllOf.worked" sAWork f fd) (Z : Tc K mg T CC) (FH : FamH P w K mg base T n) : FnOk P w K mg base CX0 (2 * n + 2) f fd ["self", "filling", "told"] (spWork T n T.a) := by
  refine F.ok scW3 (fun vs H Q E h => ?_) (fun cdv A outer s H vs Q E hr h => ?_)
  · obtain ⟨a, d, tl, H0, c, dx, fs, f, rfl, _⟩ := h
    rfl
  obtain ⟨a, d, tl, H0, c, dx, fs, fl, rfl, hc, ha, s0, hO, hd, hF, hng, q⟩ := h
  obtain ⟨l, rfl⟩ := Z.of_a hc
  obtain ⟨tp, xs, h1, h2, hL⟩ := hO
  have hL' : IsL T H l xs := hL.kp (.of s0)
  have e : ev fl (.all l) = l.all (ev fl) := by simp only [ev]; exact evA_all fl l
  rw [e] at q
  have hdl : ∀ c ∈ l, depth c ≤ n := depthL_le.mp (by simp only [depth] at hd; omega)
  have hcl : ∀ c ∈ l, ∀ x : Str, Sum.inr x ∈ cells c → (Sum.inr x : Key) ∈ cells (.all l) := fun c hc x hx => by simp only [cells]; exact cellsL_mem.mpr ⟨c, hc, hx⟩
  refine ⟨_, pss_cons (ps_for PassesOwn.never rfl (pi_tup (pe_fld (pv 0) rfl)) (pg_name (i := 3) scW3.nd rfl (Or.inl rfl))
      (pss_one (ps_if (pt_not (pt_val (pe_methF (pv 3) FH hr pass0 (pa_cons (pv 1) (pa_cons (pv 2) pa_nil))))) (pss_one (ps_ret pe_bl)) pss_nil)))
    (pss_one (ps_ret pe_bl)), ?_⟩
  refine ⟨_, rfl, a, T.a, dx, fs, _, rfl, ha, Z.z.cl (.all l), Z.z.npa, h1, tp, rfl, ⟨_, SqT.of (s0 _ _ h2)⟩, for_tup (K := K) (a := tp) (xs := xs) (fun i σ H2 => H2 = H ∧ (∃ u, σ = [some (.ref a), some (.ref d), some (.ref tl), u]) ∧ ∀ c ∈ l.take i, ev fl c = true)
    ⟨rfl, ⟨none, rfl⟩, by simp⟩ (fun i σ H2 _ ⟨z, _⟩ => z ▸ SqT.of (s0 _ _ h2)) ?_ ?_⟩
  · rintro i x σ H2 hi ⟨rfl, ⟨u, rfl⟩, hg⟩
    obtain ⟨c, hci, hC⟩ := isL_get hL' hi
    have hcm := List.mem_of_getElem? hci
    obtain ⟨ap, dx', fs', rfl, e2, e3⟩ := isC_ref hC mem_holds
    refine ⟨_, rfl, ap, T.of c, dx', fs', rfl, e2, ⟨c, rfl⟩, e3, _, rfl, _, rfl, _, d, tl, c, fl, rfl, hC, hdl c hcm, nogap_of hng (hcl c hcm), _, rfl, ?_⟩
    cases hv : ev fl c with
    | false =>
      refine iteT ?_
      have : l.all (ev fl) = false := by
        cases hq : l.all (ev fl) with
        | false => rfl
        | true => rw [List.all_eq_true.mp hq c hcm] at hv; cases hv
      rw [this] at q
      exact q
    | true => exact iteF ⟨rfl, ⟨_, rfl⟩, all_take hci hg hv⟩
  · rintro σ H2 ⟨rfl, ⟨u, rfl⟩, hg⟩
    rw [← isL_len hL', List.take_length] at hg
    rw [List.all_eq_true.mpr hg] at q
    exact q
theorem scW4 : FnScope ["self", "filling", "told", "part"] ["self", "filling", "told"] (defScope sOWork) := ⟨rfl, rfl, rfl, by decide +kernel, rfl, by decide +kernel, by decide +kernel⟩
theorem ok_wO {n : Nat} (F : Fun K "worked" "OneOf.worked" sOWork f fd) (Z : Tc K mg T CC) (FH : FamH P w K mg base T n) : FnOk P w K mg base CX0 (2 * n + 2) f fd ["self", "filling", "told"] (spWork T n T.o) := by
  refine F.ok scW4 (fun vs H Q E h => ?_) (fun cdv A outer s H vs Q E hr h => ?_)
  · obtain ⟨a, d, tl, H0, c, dx, fs, f, rfl, _⟩ := h
    rfl
  obtain ⟨a, d, tl, H0, c, dx, fs, fl, rfl, hc, ha, s0, hO, hd, hF, hng, q⟩ := h
  obtain ⟨l, rfl⟩ := Z.of_o hc
  obtain ⟨tp, xs, h1, h2, hL⟩ := hO
  have hL' : IsL T H l xs := hL.kp (.of s0)
  have e : ev fl (.one l) = l.any (ev fl) := by simp only [ev]; exact evO_any fl l
  rw [e] at q
  have hdl : ∀ c ∈ l, depth c ≤ n := depthL_le.mp (by simp only [depth] at hd; omega)
  have hcl : ∀ c ∈ l, ∀ x : Str, Sum.inr x ∈ cells c → (Sum.inr x : Key) ∈ cells (.one l) := fun c hc x hx => by simp only [cells]; exact cellsL_mem.mpr ⟨c, hc, hx⟩
  refine ⟨_, pss_cons (ps_for PassesOwn.never rfl (pi_tup (pe_fld (pv 0) rfl)) (pg_name (i := 3) scW4.nd rfl (Or.inl rfl))
      (pss_one (ps_if (pt_val (pe_methF (pv 3) FH hr pass0 (pa_cons (pv 1) (pa_cons (pv 2) pa_nil)))) (pss_one (ps_ret pe_bl)) pss_nil)))
    (pss_one (ps_ret pe_bl)), ?_⟩
  refine ⟨_, rfl, a, T.o, dx, fs, _, rfl, ha, Z.z.cl (.one l), Z.z.npo, h1, tp, rfl, ⟨_, SqT.of (s0 _ _ h2)⟩, for_tup (K := K) (a := tp) (xs := xs) (fun i σ H2 => H2 = H ∧ (∃ u, σ = [some (.ref a), some (.ref d), some (.ref tl), u]) ∧ ∀ c ∈ l.take i, (!ev fl c) = true)
    ⟨rfl, ⟨none, rfl⟩, by simp⟩ (fun i σ H2 _ ⟨z, _⟩ => z ▸ SqT.of (s0 _ _ h2)) ?_ ?_⟩
  · rintro i x σ H2 hi ⟨rfl, ⟨u, rfl⟩, hg⟩
    obtain ⟨c, hci, hC⟩ := isL_get hL' hi
    have hcm := List.mem_of_getElem? hci
    obtain ⟨ap, dx', fs', rfl, e2, e3⟩ := isC_ref hC mem_holds
    refine ⟨_, rfl, ap, T.of c, dx', fs', rfl, e2, ⟨c, rfl⟩, e3, _, rfl, _, rfl, _, d, tl, c, fl, rfl, hC, hdl c hcm, nogap_of hng (hcl c hcm), _, rfl, ?_⟩
    cases hv : ev fl c with
    | true =>
      refine iteT ?_
      have : l.any (ev fl) = true := List.any_eq_true.mpr ⟨c, hcm, hv⟩
      rw [this] at q
      exact q
    | false => exact iteF ⟨rfl, ⟨_, rfl⟩, all_take hci hg (by rw [hv]; rfl)⟩
  · rintro σ H2 ⟨rfl, ⟨u, rfl⟩, hg⟩
    rw [← isL_len hL', List.take_length] at hg
    have : l.any (ev fl) = false := by
      rw [List.any_eq_false]
      intro c hc hv
      have := hg c hc
      rw [hv] at this; cases this
    rw [this] at q
    exact q
theorem scW5 : FnScope ["self", "filling", "told"] ["self", "filling", "told"] (defScope sPWork) := ⟨rfl, rfl, rfl, by decide +kernel, rfl, by decide +kernel, by decide +kernel⟩
theorem ok_wP {n : Nat} (F : Fun K "worked" "Opposite.worked" sPWork f fd) (Z : Tc K mg T CC) (FH : FamH P w K mg base T n) : FnOk P w K mg base CX0 (2 * n + 2) f fd ["self", "filling", "told"] (spWork T n T.p) := by
  refine F.ok scW5 (fun vs H Q E h => ?_) (fun cdv A outer s H vs Q E hr h => ?_)
  · obtain ⟨a, d, tl, H0, c, dx, fs, f, rfl, _⟩ := h
    rfl
  obtain ⟨a, d, tl, H0, c, dx, fs, fl, rfl, hc, ha, s0, hO, hd, hF, hng, q⟩ := h
  obtain ⟨c, rfl⟩ := Z.of_p hc
  obtain ⟨u, h1, hC⟩ := hO
  have hC' : IsC T H c u := hC.kp (.of s0)
  obtain ⟨ap, dx', fs', rfl, e2, e3⟩ := isC_ref hC' mem_holds
  refine ⟨_, pss_one (ps_ret (pe_not (pe_methF (pe_fld (pv 0) rfl) FH hr pass0 (pa_cons (pv 1) (pa_cons (pv 2) pa_nil))))), ?_⟩
  refine ⟨_, rfl, a, T.p, dx, fs, _, rfl, ha, Z.z.cl (.opp c), Z.z.npp, h1, ap, T.of c, dx', fs', rfl, e2, ⟨c, rfl⟩, e3, _, rfl, _, rfl, _, d, tl, c, fl, rfl, hC', (by simp only [depth] at hd; omega), nogap_of hng (fun x hx => by simpa only [cells] using hx), _, rfl, ?_⟩
  have e : ev fl (.opp c) = !ev fl c := by simp only [ev]
  rw [e] at q
  exact q
theorem scH : FnScope ["self", "filling", "told"] ["self", "filling", "told"] (defScope sCHolds) := ⟨rfl, rfl, rfl, by decide +kernel, rfl, by decide +kernel, by decide +kernel⟩
theorem ok_holds {n : Nat} (F : Fun K "holds" "Cond.holds" sCHolds f fd) (Z : Tc K mg T CC) : FnOk P w K mg base CX0 (2 * (n + 1) + 1) f fd ["self", "filling", "told"] (spHold T (n + 1)) := by
  refine F.ok scH (fun vs H Q E h => ?_) (fun cdv A outer s H vs Q E hr h => ?_)
  · obtain ⟨v, d, tl, c, f, rfl, _⟩ := h
    rfl
  obtain ⟨v, d, tl, c, fl, rfl, hC, hd, hn, q⟩ := h
  obtain ⟨a, dx, fs, rfl, ha, hm, hB, hO⟩ := isC_iff.mp hC
  refine ⟨_, pss_cons (ps_if (pt_cmpR op_notN (pe_fld (pv 0) rfl) pe_non (nomark _)) (pss_one (ps_ret (pe_fld (pv 0) rfl))) pss_nil) pss_never, ?_⟩
  refine ⟨_, rfl, a, T.of c, dx, fs, _, rfl, ha, Z.z.cl c, Z.z.ns c, hB.st, rfl, _, rfl, ?_⟩
  have e := setl_yes hn fl
  rw [e]
  refine iteT ⟨_, rfl, a, T.of c, dx, fs, _, rfl, ha, Z.z.cl c, Z.z.ns c, hB.st, ?_⟩
  rw [e]
  exact q
theorem fam_W {n : Nat} (Z : Tc K mg T CC) (C1 : Cal P w K mg base "cell_value" 1 ["cell", "filling"] spCellV) (FH : FamH P w K mg base T n) : FamW P w K mg base T n := by
  rintro C ⟨c, rfl⟩
  cases c with
  | truth b => obtain ⟨f, fd, m, F, b'⟩ := Z.wT; exact ⟨f, fd, Z.z.cl (.truth b), m, ok_wT F Z, b'⟩
  | same x y => obtain ⟨f, fd, m, F, b⟩ := Z.wS; exact ⟨f, fd, Z.z.cl (.same x y), m, ok_wS F Z C1, b⟩
  | all l => obtain ⟨f, fd, m, F, b⟩ := Z.wA; exact ⟨f, fd, Z.z.cl (.all l), m, ok_wA F Z FH, b⟩
  | one l => obtain ⟨f, fd, m, F, b⟩ := Z.wO; exact ⟨f, fd, Z.z.cl (.one l), m, ok_wO F Z FH, b⟩
  | opp c => obtain ⟨f, fd, m, F, b⟩ := Z.wP; exact ⟨f, fd, Z.z.cl (.opp c), m, ok_wP F Z FH, b⟩
theorem fam_H (Z : Tc K mg T CC) (C1 : Cal P w K mg base "cell_value" 1 ["cell", "filling"] spCellV) : ∀ n, FamH P w K mg base T n
  | 0 => by
    rintro C ⟨c, rfl⟩
    obtain ⟨f, fd, m, F, b⟩ := Z.hH c
    refine ⟨f, fd, Z.z.cl c, m, ⟨fun vs H Q E h => ?_, fun A outer s H args us vs Q E hr e0 hb r h => ?_⟩, b⟩
    · obtain ⟨v, d, tl, c, f, rfl, _⟩ := h
      rfl
    · obtain ⟨v, d, tl, c', f, _, _, hd, _⟩ := h
      have := depth_pos c'
      exact absurd hd (by omega)
  | n + 1 => by
    rintro C ⟨c, rfl⟩
    obtain ⟨f, fd, m, F, b⟩ := Z.hH c
    exact ⟨f, fd, Z.z.cl c, m, ok_holds F Z, b⟩
end
end K12
set_option maxHeartbeats 4000000
namespace K12
open PySem L2 CD
/-- all but a stays -/
def KeepB (a : Addr) (H H' : Hp) : Prop := ∀ b o, b ≠ a → H b = some o → H' b = some o
theorem KeepB.trans {a : Addr} {H H1 H2 : Hp} (x : KeepB a H H1) (y : KeepB a H1 H2) : KeepB a H H2 := fun b o n h => y b o n (x b o n h)
theorem KeepB.of {a : Addr} {H H' : Hp} (s : Same H H') : KeepB a H H' := fun b o _ h => s b o h
theorem KeepB.upd {a : Addr} {H : Hp} {o : HO} : KeepB a H (upd H a o) := fun b u n h => by rw [upd_ne n]; exact h
theorem KeepB.same {a : Addr} {H0 H H' : Hp} (k : KeepB a H H') (s : Same H0 H) (h : H0 a = none) : Same H0 H' := fun b o q => k b o (ne_of_none q h) (s b o q)
def ownNames : List Str := ["said", "one", "other", "parts", "part"]
theorem own_put {T : Cl} {H : Hp} {fs : List (Str × V)} {c : Cd} {g : Str} {y : V} (hg : g ∉ ownNames) (h : Own T H fs c) : Own T H (putF g y fs) c := by
  have e : ∀ f ∈ ownNames, (putF g y fs).lookup f = fs.lookup f := fun f hf => by rw [lookup_putF, if_neg (fun z : f = g => hg (z ▸ hf))]
  cases c with
  | truth b => exact (e "said" (by unfold ownNames; simp)).trans h
  | same x y => exact ⟨(e "one" (by unfold ownNames; simp)).trans h.1, (e "other" (by unfold ownNames; simp)).trans h.2⟩
  | all l => obtain ⟨tp, xs, h1, h2⟩ := h; exact ⟨tp, xs, (e "parts" (by unfold ownNames; simp)).trans h1, h2⟩
  | one l => obtain ⟨tp, xs, h1, h2⟩ := h; exact ⟨tp, xs, (e "parts" (by unfold ownNames; simp)).trans h1, h2⟩
  | opp c => obtain ⟨u, h1, h2⟩ := h; exact ⟨u, (e "part" (by unfold ownNames; simp)).trans h1, h2⟩
theorem meth_put {fs : List (Str × V)} {g : Str} {y : V} (hg : g ∉ meths) (h : ∀ m ∈ meths, fs.lookup m = none) : ∀ m ∈ meths, (putF g y fs).lookup m = none := by
  intro m hm
  rw [lookup_putF, if_neg (fun z : m = g => hg (z ▸ hm))]
  exact h m hm
theorem ng1 : ("kept_gaps" : Str) ∉ ownNames ∧ ("kept_gaps" : Str) ∉ meths := by unfold ownNames meths; decide +kernel
theorem ng2 : ("kept_values" : Str) ∉ ownNames ∧ ("kept_values" : Str) ∉ meths := by unfold ownNames meths; decide +kernel
theorem ng3 : ("kept_atoms" : Str) ∉ ownNames ∧ ("kept_atoms" : Str) ∉ meths := by unfold ownNames meths; decide +kernel
theorem ng4 : ("settled" : Str) ∉ ownNames ∧ ("settled" : Str) ∉ meths := by unfold ownNames meths; decide +kernel
/-- the texts of a set -/
theorem strs_set {ks kys : List Key} {c : Cd} {pool : List Key} (nd : ks.Nodup) (hm : ∀ k, k ∈ ks ↔ k ∈ (strsIn kys).map Sum.inr) (hk : ∀ k : Key, k ∈ kys ↔ k ∈ cells c) (hp : ∀ k ∈ cells c, k ∈ pool) (pl : pool.length < 64) :
    ∃ xs : List Str, ks = xs.map Sum.inr ∧ xs.Nodup ∧ xs.length < 64 ∧ ∀ x, x ∈ xs ↔ Sum.inr x ∈ cells c := by
  obtain ⟨xs, rfl⟩ := allStr (ks := ks) (fun k h => by obtain ⟨x, _, e⟩ := List.mem_map.mp ((hm k).mp h); exact ⟨x, e.symm⟩)
  have mem : ∀ x, x ∈ xs ↔ Sum.inr x ∈ cells c := fun x => by
    have h1 := hm (Sum.inr x)
    rw [List.mem_map, List.mem_map] at h1
    rw [← hk, ← mem_strsIn]
    constructor
    · intro hx
      obtain ⟨y, hy, e⟩ := h1.mp ⟨x, hx, rfl⟩
      exact (Sum.inr.inj e) ▸ hy
    · intro hx
      obtain ⟨y, hy, e⟩ := h1.mpr ⟨x, hx, rfl⟩
      exact (Sum.inr.inj e) ▸ hy
  refine ⟨xs, rfl, nodup_of_map nd, ?_, mem⟩
  have := nodup_sub (l := xs.map (Sum.inr : Str → Key)) (m := pool) nd (fun k hk => by
    obtain ⟨x, hx, rfl⟩ := List.mem_map.mp hk
    exact hp _ ((mem x).mp hx))
  rw [List.length_map] at this
  omega
theorem ints_set {ks kys : List Key} {c : Cd} {pool : List Key} (nd : ks.Nodup) (hm : ∀ k, k ∈ ks ↔ k ∈ (intsIn kys).map Sum.inl) (hk : ∀ k : Key, k ∈ kys ↔ k ∈ cells c) (hp : ∀ k ∈ cells c, k ∈ pool) (pl : pool.length < 64) :
    ∃ xs : List Int, ks = xs.map Sum.inl ∧ xs.Nodup ∧ xs.length < 64 ∧ ∀ x, x ∈ xs ↔ Sum.inl x ∈ cells c := by
  obtain ⟨xs, rfl⟩ := allInt (ks := ks) (fun k h => by obtain ⟨x, _, e⟩ := List.mem_map.mp ((hm k).mp h); exact ⟨x, e.symm⟩)
  have mem : ∀ x, x ∈ xs ↔ Sum.inl x ∈ cells c := fun x => by
    have h1 := hm (Sum.inl x)
    rw [List.mem_map, List.mem_map] at h1
    rw [← hk, ← mem_intsIn]
    constructor
    · intro hx
      obtain ⟨y, hy, e⟩ := h1.mp ⟨x, hx, rfl⟩
      exact (Sum.inl.inj e) ▸ hy
    · intro hx
      obtain ⟨y, hy, e⟩ := h1.mpr ⟨x, hx, rfl⟩
      exact (Sum.inl.inj e) ▸ hy
  refine ⟨xs, rfl, nodup_of_map nd, ?_, mem⟩
  have := nodup_sub (l := xs.map (Sum.inl : Int → Key)) (m := pool) nd (fun k hk => by
    obtain ⟨x, hx, rfl⟩ := List.mem_map.mp hk
    exact hp _ ((mem x).mp hx))
  rw [List.length_map] at this
  omega
/-- what each condition is handed to be made -/
def spBase (T : Cl) (K : PySem.W.Frag) (n : Nat) : Sp := fun vs H Q _ => ∃ (a r : Addr) (H0 : Hp) (c : Cd) (dx : Addr) (fs : List (Str × V)) (kys pool : List Key), vs = [.ref a, .ref r, .int (atoms c)] ∧ H a = some (.ins (T.of c) dx fs) ∧ Same H0 H ∧ H0 a = none ∧ Own T H0 fs c ∧ depth c ≤ n + 1 ∧
  SqL K H r (kys.map kV) ∧ kys.length ≤ 4000 ∧ (∀ k : Key, k ∈ kys ↔ k ∈ cells c) ∧ pool.length < 64 ∧ (∀ k ∈ cells c, k ∈ pool) ∧ fs.length ≤ 10 ∧ (∀ m ∈ meths, fs.lookup m = none) ∧
  ∀ H' fs', KeepB a H H' → H' a = some (.ins (T.of c) dx fs') → (∀ m ∈ meths, fs'.lookup m = none) → Bas H' fs' c → Own T H0 fs' c → Q .non H'
section
variable {P : Program} {w : World} {K : PySem.W.Frag} {mg : Str → Option Value} {base : Heap} {f : Addr} {fd : FuncData} {T : Cl} {CC : Addr}
theorem map_kVs (xs : List Str) : xs.map V.str = (xs.map (Sum.inr : Str → Key)).map kV := by rw [List.map_map]; rfl
theorem map_kVi (xs : List Int) : xs.map V.int = (xs.map (Sum.inl : Int → Key)).map kV := by rw [List.map_map]; rfl
theorem scCI : FnScope ["self", "cells", "atoms"] ["self", "cells", "atoms"] (defScope sCInit) := ⟨rfl, rfl, rfl, by decide +kernel, rfl, by decide +kernel, by decide +kernel⟩
theorem put_has {f : Str} {v : V} {fs : List (Str × V)} : (putF f v fs).lookup f = some v := by rw [lookup_putF, if_pos rfl]
theorem put_ne {f g : Str} {v : V} {fs : List (Str × V)} (h : g ≠ f) : (putF f v fs).lookup g = fs.lookup g := by rw [lookup_putF, if_neg h]
theorem ok_cinit {n : Nat} (F : Fun K "__init__" "Cond.__init__" sCInit f fd) (Z : Tc K mg T CC) (C1 : Cal P w K mg base "gaps_among" 1 ["cells"] (spGapsA K)) (C2 : Cal P w K mg base "values_among" 1 ["cells"] (spValsA K)) (FW : FamW P w K mg base T n) : FnOk P w K mg base CX0 (2 * n + 3) f fd ["self", "cells", "atoms"] (spBase T K n) := by
  obtain ⟨g1, d1, G1, b1, k1, m1⟩ := C1
  obtain ⟨g2, d2, G2, b2, k2, m2⟩ := C2
  refine F.ok scCI (fun vs H Q E h => ?_) (fun cdv A outer s H vs Q E hr h => ?_)
  · obtain ⟨a, r, H0, c, dx, fs, kys, pool, rfl, _⟩ := h
    rfl
  obtain ⟨a, r, H0, c, dx, fs, kys, pool, rfl, ha, s0, h0, hO, hd, hS, hkl, hk, hpl, hp, hfl, hms, q⟩ := h
  have hr1 : Room 1 _ := hr.mono (by omega)
  refine ⟨_, pss_cons (ps_fld (pv 0) (pe_callTy call_tuple_of rfl Z.x.tuple PyProof.Rows.boot_tuple (pa_cons (pe_callB (call_sorted_setS rfl) rfl Z.x.sorted PyProof.Rows.boot_sorted (pa_cons (pe_callTy (call_set_of rfl) rfl Z.x.set PyProof.Rows.boot_set (pa_cons (pe_call G1 hr1 rfl m1 k1 b1 .nil pass0 (pa_cons (pv 1) pa_nil)) pa_nil)) pa_nil)) pa_nil)) rfl)
    (pss_cons (ps_fld (pv 0) (pe_callTy call_tuple_of rfl Z.x.tuple PyProof.Rows.boot_tuple (pa_cons (pe_callB (call_sorted_setI rfl) rfl Z.x.sorted PyProof.Rows.boot_sorted (pa_cons (pe_callTy (call_set_of rfl) rfl Z.x.set PyProof.Rows.boot_set (pa_cons (pe_call G2 hr1 rfl m2 k2 b2 .nil pass0 (pa_cons (pv 1) pa_nil)) pa_nil)) pa_nil)) pa_nil)) rfl)
    (pss_cons (ps_fld (pv 0) (pv 2) rfl)
    (pss_cons (ps_fld (pv 0) pe_non rfl)
    (pss_one (ps_if (pt_not (pt_truth (pe_fld (pv 0) rfl) (fun _ => rfl))) (pss_one (ps_fld (pv 0) (pe_methF (pv 0) FW hr pass0 (pa_cons pe_dnewK (pa_cons pe_dnewK pa_nil))) rfl)) pss_nil))))), ?_⟩
  -- the gaps
  refine ⟨_, rfl, r, kys, rfl, hS, hkl, fun l1 H1 s1 hl1 => ⟨l1, (strsIn kys).map Sum.inr, rfl, SqL.of (by rw [← map_kVs]; exact hl1), by rw [List.length_map]; exact Nat.le_trans (strsIn_len _) hkl, fun l2 ks hl2 nd hm => ?_⟩⟩
  obtain ⟨gs0, rfl, gnd, gl, gm⟩ := strs_set nd hm hk hp hpl
  refine ⟨l2, gs0, rfl, upd_same, gl, fun l3 gs hl3 pg sg => ⟨l3, _, rfl, .inl ⟨SqL.of upd_same, fun tg htg => ?_⟩⟩⟩
  generalize SetO _ _ l2 (List.map Sum.inr gs0) = so at hl3 htg ⊢
  have w2 := same_new hl2 so
  have w3 := same_new hl3 (.lst (gs.map V.str))
  have w4 := same_new htg (.tup (gs.map V.str))
  have s4 := s1.trans (w2.trans (w3.trans w4))
  have hg4 := upd_same (H := upd (upd H1 l2 so) l3 (.lst (gs.map V.str))) (a := tg) (o := .tup (gs.map V.str))
  have htg0 : H tg = none := by
    cases e : H tg with
    | none => rfl
    | some o => rw [(s1.trans (w2.trans w3)) _ _ e] at htg; cases htg
  generalize upd (upd (upd H1 l2 so) l3 (.lst (gs.map V.str))) tg (.tup (gs.map V.str)) = H4 at s4 hg4
  refine ⟨_, rfl, a, T.of c, dx, fs, rfl, s4 _ _ ha, Z.z.cl c, Z.z.ng c, by omega, ?_⟩
  have nta : tg ≠ a := fun e => by rw [e, ha] at htg0; cases htg0
  have nra : r ≠ a ∨ True := .inr trivial
  have kb5 : KeepB a H (upd H4 a (.ins (T.of c) dx (putF "kept_gaps" (.ref tg) fs))) := (KeepB.of s4).trans KeepB.upd
  have ha5 := upd_same (H := H4) (a := a) (o := .ins (T.of c) dx (putF "kept_gaps" (.ref tg) fs))
  have hg5 : (upd H4 a (.ins (T.of c) dx (putF "kept_gaps" (.ref tg) fs))) tg = some (.tup (gs.map V.str)) := by rw [upd_ne nta]; exact hg4
  have hS5 : SqL K (upd H4 a (.ins (T.of c) dx (putF "kept_gaps" (.ref tg) fs))) r (kys.map kV) := by
    rcases hS with (h | ⟨o, h⟩) | h
    · exact .inl (.inl (kb5 _ _ (fun e => by rw [e, ha] at h; cases h) h))
    · exact .inl (.inr ⟨o, kb5 _ _ (fun e => by rw [e, ha] at h; cases h) h⟩)
    · exact .inr h
  generalize upd H4 a (.ins (T.of c) dx (putF "kept_gaps" (.ref tg) fs)) = H5 at kb5 ha5 hg5 hS5
  -- the values
  refine ⟨_, rfl, r, kys, rfl, hS5, hkl, fun j1 J1 z1 hj1 => ⟨j1, (intsIn kys).map Sum.inl, rfl, SqL.of (by rw [← map_kVi]; exact hj1), by rw [List.length_map]; exact Nat.le_trans (intsIn_len _) hkl, fun j2 ks' hj2 nd' hm' => ?_⟩⟩
  obtain ⟨vs0, rfl, vnd, vl, vm⟩ := ints_set nd' hm' hk hp hpl
  refine ⟨j2, vs0, rfl, upd_same, vl, fun j3 vs hj3 pv' sv => ⟨j3, _, rfl, .inl ⟨SqL.of upd_same, fun tv htv => ?_⟩⟩⟩
  generalize SetO _ _ j2 (List.map Sum.inl vs0) = so' at hj3 htv ⊢
  have y2 := same_new hj2 so'
  have y3 := same_new hj3 (.lst (vs.map V.int))
  have y4 := same_new htv (.tup (vs.map V.int))
  have s9 := z1.trans (y2.trans (y3.trans y4))
  have hv9 := upd_same (H := upd (upd J1 j2 so') j3 (.lst (vs.map V.int))) (a := tv) (o := .tup (vs.map V.int))
  have htv0 : H5 tv = none := by
    cases e : H5 tv with
    | none => rfl
    | some o => rw [(z1.trans (y2.trans y3)) _ _ e] at htv; cases htv
  generalize upd (upd (upd J1 j2 so') j3 (.lst (vs.map V.int))) tv (.tup (vs.map V.int)) = H9 at s9 hv9
  have nva : tv ≠ a := fun e => by rw [e, ha5] at htv0; cases htv0
  have lf1 := length_putF "kept_gaps" (.ref tg) fs
  refine ⟨_, rfl, a, T.of c, dx, _, rfl, s9 _ _ ha5, Z.z.cl c, Z.z.nv c, by omega, ?_⟩
  have lf2 := length_putF "kept_values" (.ref tv) (putF "kept_gaps" (.ref tg) fs)
  -- the atoms
  refine ⟨_, rfl, _, rfl, a, T.of c, dx, _, rfl, upd_same, Z.z.cl c, Z.z.na c, by omega, ?_⟩
  have lf3 := length_putF "kept_atoms" (.int (atoms c)) (putF "kept_values" (.ref tv) (putF "kept_gaps" (.ref tg) fs))
  refine ⟨_, rfl, a, T.of c, dx, _, rfl, upd_same, Z.z.cl c, Z.z.ns c, by omega, ?_⟩
  have lf4 := length_putF "settled" .non (putF "kept_atoms" (.int (atoms c)) (putF "kept_values" (.ref tv) (putF "kept_gaps" (.ref tg) fs)))
  -- what stands now
  have o4 : Own T H0 (putF "settled" .non (putF "kept_atoms" (.int (atoms c)) (putF "kept_values" (.ref tv) (putF "kept_gaps" (.ref tg) fs)))) c := own_put ng4.1 (own_put ng3.1 (own_put ng2.1 (own_put ng1.1 hO)))
  have e4 : ∀ m ∈ meths, (putF "settled" .non (putF "kept_atoms" (.int (atoms c)) (putF "kept_values" (.ref tv) (putF "kept_gaps" (.ref tg) fs)))).lookup m = none := meth_put ng4.2 (meth_put ng3.2 (meth_put ng2.2 (meth_put ng1.2 hms)))
  have fg : (putF "settled" .non (putF "kept_atoms" (.int (atoms c)) (putF "kept_values" (.ref tv) (putF "kept_gaps" (.ref tg) fs)))).lookup ("kept_gaps" : Str) = some (.ref tg) := by
    rw [put_ne (by decide), put_ne (by decide), put_ne (by decide), put_has]
  have fv : (putF "settled" .non (putF "kept_atoms" (.int (atoms c)) (putF "kept_values" (.ref tv) (putF "kept_gaps" (.ref tg) fs)))).lookup ("kept_values" : Str) = some (.ref tv) := by
    rw [put_ne (by decide), put_ne (by decide), put_has]
  have fa : (putF "settled" .non (putF "kept_atoms" (.int (atoms c)) (putF "kept_values" (.ref tv) (putF "kept_gaps" (.ref tg) fs)))).lookup ("kept_atoms" : Str) = some (.int (atoms c)) := by
    rw [put_ne (by decide), put_has]
  have fst : (putF "settled" .non (putF "kept_atoms" (.int (atoms c)) (putF "kept_values" (.ref tv) (putF "kept_gaps" (.ref tg) fs)))).lookup ("settled" : Str) = some .non := put_has
  have kbX : ∀ o1 o2 o3 : HO, KeepB a H9 (upd (upd (upd H9 a o1) a o2) a o3) := fun o1 o2 o3 => (KeepB.upd.trans KeepB.upd).trans KeepB.upd
  have kb := kbX (.ins (T.of c) dx (putF "kept_values" (.ref tv) (putF "kept_gaps" (.ref tg) fs))) (.ins (T.of c) dx (putF "kept_atoms" (.int (atoms c)) (putF "kept_values" (.ref tv) (putF "kept_gaps" (.ref tg) fs))))
    (.ins (T.of c) dx (putF "settled" .non (putF "kept_atoms" (.int (atoms c)) (putF "kept_values" (.ref tv) (putF "kept_gaps" (.ref tg) fs)))))
  have haN := upd_same (H := upd (upd H9 a (.ins (T.of c) dx (putF "kept_values" (.ref tv) (putF "kept_gaps" (.ref tg) fs)))) a (.ins (T.of c) dx (putF "kept_atoms" (.int (atoms c)) (putF "kept_values" (.ref tv) (putF "kept_gaps" (.ref tg) fs))))) (a := a) (o := .ins (T.of c) dx (putF "settled" .non (putF "kept_atoms" (.int (atoms c)) (putF "kept_values" (.ref tv) (putF "kept_gaps" (.ref tg) fs)))))
  generalize upd (upd (upd H9 a (.ins (T.of c) dx (putF "kept_values" (.ref tv) (putF "kept_gaps" (.ref tg) fs)))) a (.ins (T.of c) dx (putF "kept_atoms" (.int (atoms c)) (putF "kept_values" (.ref tv) (putF "kept_gaps" (.ref tg) fs))))) a (.ins (T.of c) dx (putF "settled" .non (putF "kept_atoms" (.int (atoms c)) (putF "kept_values" (.ref tv) (putF "kept_gaps" (.ref tg) fs))))) = HN at kb haN
  generalize putF "settled" .non (putF "kept_atoms" (.int (atoms c)) (putF "kept_values" (.ref tv) (putF "kept_gaps" (.ref tg) fs))) = fN at o4 e4 fg fv fa fst haN lf4
  have hgN : HN tg = some (.tup (gs.map V.str)) := kb _ _ nta (s9 _ _ hg5)
  have hvN : HN tv = some (.tup (vs.map V.int)) := kb _ _ nva hv9
  have kN : KeepB a H HN := kb5.trans ((KeepB.of s9).trans kb)
  have gm' : ∀ x, x ∈ gs ↔ Sum.inr x ∈ cells c := fun x => (pg.mem_iff).trans (gm x)
  have vm' : ∀ x, x ∈ vs ↔ Sum.inl x ∈ cells c := fun x => (pv'.mem_iff).trans (vm x)
  refine ⟨_, rfl, a, T.of c, dx, _, _, rfl, haN, Z.z.cl c, Z.z.ng c, fg, _, .inr (.inl ⟨_, SqT.of hgN, rfl⟩), ?_⟩
  cases hn : nogap c with
  | false =>
    have hne : (gs.map V.str).isEmpty = false := by
      cases he : gs with
      | nil =>
        have : nogap c = true := nogap_iff.mpr fun x hx => by have := (gm' x).mpr hx; rw [he] at this; cases this
        rw [this] at hn; cases hn
      | cons y r => rfl
    rw [hne]
    refine iteF ?_
    refine q HN fN kN haN e4 ⟨⟨tg, gs, fg, hgN, (pg.nodup_iff).mpr gnd, sg, gm'⟩, ⟨tv, vs, fv, hvN, (pv'.nodup_iff).mpr vnd, sv, vm'⟩, fa, ?_⟩ o4
    rw [fst, setl_no hn]
  | true =>
    have hne : (gs.map V.str).isEmpty = true := by
      cases he : gs with
      | nil => rfl
      | cons y r => exact absurd ((gm' y).mp (by rw [he]; simp)) (nogap_iff.mp hn y)
    rw [hne]
    refine iteT ?_
    refine ⟨_, rfl, a, T.of c, dx, fN, rfl, haN, ⟨c, rfl⟩, e4 _ mem_worked, fun d hd' tl htl => ?_⟩
    have nda : a ≠ d := fun e => by rw [← e, haN] at hd'; cases hd'
    have wd0 := same_new hd' (.dK [])
    have ntd : d ≠ tl := fun e => by rw [← e, upd_same] at htl; cases htl
    have wd := wd0.trans (same_new htl (.dK []))
    have hdd : (upd (upd HN d (.dK [])) tl (.dK [])) d = some (.dK []) := by rw [upd_ne ntd]; exact upd_same
    generalize upd (upd HN d (.dK [])) tl (.dK []) = HD at wd hdd ⊢
    have sW : Same H0 HD := (kN.same s0 h0).trans wd
    refine ⟨a, d, tl, H0, c, dx, fN, fun _ => 0, rfl, rfl, wd _ _ haN, sW, o4, hd, ⟨[], hdd, fun x hx => absurd hx (nogap_iff.mp hn x)⟩, hn, ?_⟩
    refine ⟨_, rfl, a, T.of c, dx, fN, rfl, wd _ _ haN, Z.z.cl c, Z.z.ns c, by omega, ?_⟩
    have hE : setl c = .bl (ev (fun _ => 0) c) := setl_yes hn _
    have kE : KeepB a H (upd HD a (.ins (T.of c) dx (putF "settled" (.bl (ev (fun _ => 0) c)) fN))) := kN.trans ((KeepB.of wd).trans KeepB.upd)
    refine q _ _ kE upd_same (meth_put ng4.2 e4) ⟨⟨tg, gs, ?_, ?_, (pg.nodup_iff).mpr gnd, sg, gm'⟩, ⟨tv, vs, ?_, ?_, (pv'.nodup_iff).mpr vnd, sv, vm'⟩, ?_, ?_⟩ (own_put ng4.1 o4)
    · rw [put_ne (by decide)]; exact fg
    · rw [upd_ne nta]; exact wd _ _ hgN
    · rw [put_ne (by decide)]; exact fv
    · rw [upd_ne nva]; exact wd _ _ hvN
    · rw [put_ne (by decide)]; exact fa
    · rw [put_has, hE]
end
end K12
set_option maxHeartbeats 4000000
namespace K12
open PySem L2 CD
def CBase (P : Program) (w : World) (K : PySem.W.Frag) (mg : Str → Option Value) (base : Heap) (T : Cl) (CC : Addr) (n : Nat) : Prop := ∃ f fd mc, ClsFn K CC mc "__init__" f ∧ FnOk P w K mg base CX0 (2 * n + 3) f fd ["self", "cells", "atoms"] (spBase T K n) ∧ Binds K fd ["self", "cells", "atoms"] [] ∧ mg "Cond" = some (.ref CC)
def spTI (T : Cl) : Sp := fun vs H Q _ => ∃ (a dx : Addr) (b : Bool) (H0 : Hp), vs = [.ref a, .bl b] ∧ H a = some (.ins T.t dx []) ∧ Same H0 H ∧ H0 a = none ∧ ∀ H', KeepB a H H' → IsC T H' (.truth b) (.ref a) → Q .non H'
def spSI (T : Cl) : Sp := fun vs H Q _ => ∃ (a dx : Addr) (x y : Key) (H0 : Hp), vs = [.ref a, kV x, kV y] ∧ H a = some (.ins T.s dx []) ∧ Same H0 H ∧ H0 a = none ∧ ∀ H', KeepB a H H' → IsC T H' (.same x y) (.ref a) → Q .non H'
def spPI (T : Cl) (n : Nat) : Sp := fun vs H Q _ => ∃ (a dx : Addr) (v : V) (c : Cd) (H0 : Hp), vs = [.ref a, v] ∧ H a = some (.ins T.p dx []) ∧ Same H0 H ∧ H0 a = none ∧ IsC T H0 c v ∧ depth c ≤ n ∧ Pool (cells c) 1 ∧ ∀ H', KeepB a H H' → IsC T H' (.opp c) (.ref a) → Q .non H'
def spLI (T : Cl) (K : PySem.W.Frag) (n : Nat) (C : Addr) (mk : List Cd → Cd) : Sp := fun vs H Q _ => ∃ (a dx r : Addr) (xs : List V) (l : List Cd) (H0 : Hp), vs = [.ref a, .ref r] ∧ H a = some (.ins C dx []) ∧ Same H0 H ∧ H0 a = none ∧ SqL K H r xs ∧ IsL T H0 l xs ∧ l.length ≤ 4000 ∧ depthL l ≤ n ∧ Pool (cellsL l) l.length ∧ ∀ H', KeepB a H H' → IsC T H' (mk l) (.ref a) → Q .non H'
theorem len1 {g : Str} {y : V} : (putF g y []).length ≤ 10 := by have := length_putF g y []; simp at this; omega
theorem len2 {g g' : Str} {y y' : V} : (putF g y (putF g' y' [])).length ≤ 10 := by have := length_putF g' y' []; have := length_putF g y (putF g' y' []); simp at *; omega
theorem no_meth1 {g : Str} {y : V} (hg : g ∉ meths) : ∀ m ∈ meths, (putF g y []).lookup m = none := meth_put hg (fun _ _ => rfl)
theorem no_meth2 {g g' : Str} {y y' : V} (hg : g ∉ meths) (hg' : g' ∉ meths) : ∀ m ∈ meths, (putF g y (putF g' y' [])).lookup m = none := meth_put hg (no_meth1 hg')
theorem nm1 : ("said" : Str) ∉ meths := by unfold meths; decide +kernel
theorem nm2 : ("one" : Str) ∉ meths := by unfold meths; decide +kernel
theorem nm3 : ("other" : Str) ∉ meths := by unfold meths; decide +kernel
theorem nm4 : ("parts" : Str) ∉ meths := by unfold meths; decide +kernel
theorem nm5 : ("part" : Str) ∉ meths := by unfold meths; decide +kernel
theorem lcg_tupR {K : PySem.W.Frag} {a D : Addr} {xs : List V} {g : TG} {tt : TT} {te : TE} {R : Hp → Prop} {σ0 : St} {H1 : Hp} (Pv : Nat → St → Hp → Prop) (h0 : Pv 0 σ0 (upd H1 D (.lst []))) (hl : ∀ i σ H, i ≤ xs.length → Pv i σ H → SqT K H a xs)
    (hs : ∀ i x σ H, xs[i]? = some x → Pv i σ H → g x σ H fun σ3 H3 => tt σ3 H3 fun b H4 => if b = true then te σ3 H4 fun y H5 => ∃ zs, H5 D = some (.lst zs) ∧ zs.length < sizeLine ∧ Pv (i + 1) σ3 (upd H5 D (.lst (zs ++ [y]))) else Pv (i + 1) σ3 H4) (hd : ∀ σ H, Pv xs.length σ H → R H) :
    ∃ W : Nat → Nat → St → Hp → Prop, (∃ m, W 0 m σ0 (upd H1 D (.lst []))) ∧ ∀ i m σ' H', W i m σ' H' →
      ((Itt K a).stop i H' ∧ R H') ∨ ((Itt K a).go i H' ∧ ∃ N : St → Hp → Prop, (∀ σ2 H2, N σ2 H2 → ∃ m', m' < m ∧ W (i + 1) m' σ2 H2) ∧
        ∀ x H2, (Itt K a).yld i H' x H2 → g x σ' H2 fun σ3 H3 => tt σ3 H3 fun b H4 => if b = true then te σ3 H4 fun y H5 => ∃ zs, H5 D = some (.lst zs) ∧ zs.length < sizeLine ∧ N σ3 (upd H5 D (.lst (zs ++ [y]))) else N σ3 H4) :=
  lcg_tup (Q := fun _ H => R H) Pv h0 hl hs hd
theorem lcg_listR {K : PySem.W.Frag} {a D : Addr} {xs : List V} {g : TG} {tt : TT} {te : TE} {R : Hp → Prop} {σ0 : St} {H1 : Hp} (Pv : Nat → St → Hp → Prop) (h0 : Pv 0 σ0 (upd H1 D (.lst []))) (hl : ∀ i σ H, i ≤ xs.length → Pv i σ H → SqL K H a xs)
    (hs : ∀ i x σ H, xs[i]? = some x → Pv i σ H → g x σ H fun σ3 H3 => tt σ3 H3 fun b H4 => if b = true then te σ3 H4 fun y H5 => ∃ zs, H5 D = some (.lst zs) ∧ zs.length < sizeLine ∧ Pv (i + 1) σ3 (upd H5 D (.lst (zs ++ [y]))) else Pv (i + 1) σ3 H4) (hd : ∀ σ H, Pv xs.length σ H → R H) :
    ∃ W : Nat → Nat → St → Hp → Prop, (∃ m, W 0 m σ0 (upd H1 D (.lst []))) ∧ ∀ i m σ' H', W i m σ' H' →
      ((Itl K a).stop i H' ∧ R H') ∨ ((Itl K a).go i H' ∧ ∃ N : St → Hp → Prop, (∀ σ2 H2, N σ2 H2 → ∃ m', m' < m ∧ W (i + 1) m' σ2 H2) ∧
        ∀ x H2, (Itl K a).yld i H' x H2 → g x σ' H2 fun σ3 H3 => tt σ3 H3 fun b H4 => if b = true then te σ3 H4 fun y H5 => ∃ zs, H5 D = some (.lst zs) ∧ zs.length < sizeLine ∧ N σ3 (upd H5 D (.lst (zs ++ [y]))) else N σ3 H4) :=
  lcg_list (Q := fun _ H => R H) Pv h0 hl hs hd
theorem lcg_rangeR {lo : Int} {n : Nat} {D : Addr} {g : TG} {tt : TT} {te : TE} {R : Hp → Prop} {σ0 : St} {H1 : Hp} (Pv : Nat → St → Hp → Prop) (h0 : Pv 0 σ0 (upd H1 D (.lst [])))
    (hs : ∀ i σ H, i < n → Pv i σ H → g (.int (lo + i)) σ H fun σ3 H3 => tt σ3 H3 fun b H4 => if b = true then te σ3 H4 fun y H5 => ∃ zs, H5 D = some (.lst zs) ∧ zs.length < sizeLine ∧ Pv (i + 1) σ3 (upd H5 D (.lst (zs ++ [y]))) else Pv (i + 1) σ3 H4) (hd : ∀ σ H, Pv n σ H → R H) :
    ∃ W : Nat → Nat → St → Hp → Prop, (∃ m, W 0 m σ0 (upd H1 D (.lst []))) ∧ ∀ i m σ' H', W i m σ' H' →
      ((Itr lo n).stop i H' ∧ R H') ∨ ((Itr lo n).go i H' ∧ ∃ N : St → Hp → Prop, (∀ σ2 H2, N σ2 H2 → ∃ m', m' < m ∧ W (i + 1) m' σ2 H2) ∧
        ∀ x H2, (Itr lo n).yld i H' x H2 → g x σ' H2 fun σ3 H3 => tt σ3 H3 fun b H4 => if b = true then te σ3 H4 fun y H5 => ∃ zs, H5 D = some (.lst zs) ∧ zs.length < sizeLine ∧ N σ3 (upd H5 D (.lst (zs ++ [y]))) else N σ3 H4) :=
  lcg_range (Q := fun _ H => R H) Pv h0 hs hd
section
variable {P : Program} {w : World} {K : PySem.W.Frag} {mg : Str → Option Value} {base : Heap} {f : Addr} {fd : FuncData} {T : Cl} {CC : Addr}
theorem made_isC {H0 H' : Hp} {a dx : Addr} {c : Cd} {fs : List (Str × V)} (s : Same H0 H') (ha : H' a = some (.ins (T.of c) dx fs)) (hm : ∀ m ∈ meths, fs.lookup m = none) (hB : Bas H' fs c) (hO : Own T H0 fs c) : IsC T H' c (.ref a) :=
  isC_iff.mpr ⟨a, dx, fs, rfl, ha, hm, hB, hO.kp (.of s)⟩
theorem scTI : FnScope ["self", "said"] ["self", "said"] (defScope sTInit) := ⟨rfl, rfl, rfl, by decide +kernel, rfl, by decide +kernel, by decide +kernel⟩
theorem ok_tinit {n : Nat} (F : Fun K "__init__" "Truth.__init__" sTInit f fd) (Z : Tc K mg T CC) (B : CBase P w K mg base T CC n) : FnOk P w K mg base CX0 (2 * n + 4) f fd ["self", "said"] (spTI T) := by
  obtain ⟨g1, d1, mc, cf, G1, b1, m1⟩ := B
  refine F.ok scTI (fun vs H Q E h => ?_) (fun cdv A outer s H vs Q E hr h => ?_)
  · obtain ⟨a, dx, b, H0, rfl, _⟩ := h
    rfl
  obtain ⟨a, dx, b, H0, rfl, ha, s0, h0, q⟩ := h
  refine ⟨_, pss_cons (ps_fld (pv 0) (pv 1) rfl) (pss_one (ps_expr (pe_clsFn cf G1 hr rfl m1 b1 pass0 (pa_cons (pv 0) (pa_cons (pe_lst pa_nil) (pa_cons pe_int pa_nil)))))), ?_⟩
  refine ⟨_, rfl, _, rfl, a, T.t, dx, [], rfl, ha, Z.z.cl (.truth b), Z.z.nsd, by decide, ?_⟩
  refine ⟨_, rfl, small (by decide), fun r hr' => ?_⟩
  have nra : a ≠ r := fun e => by rw [← e, upd_same] at hr'; cases hr'
  have k1 : KeepB a H (upd (upd H a (.ins T.t dx (putF "said" (.bl b) []))) r (.lst [])) := KeepB.upd.trans (KeepB.of (same_new hr' _))
  refine ⟨a, r, H0, .truth b, dx, putF "said" (.bl b) [], [], [], rfl, by rw [upd_ne nra, upd_same]; rfl, k1.same s0 h0, h0, put_has, by simp [depth], SqL.of upd_same, by decide, by simp [cells], by decide, by simp [cells], len1, no_meth1 nm1, fun H' fs' kb e1 e2 e3 e4 => ?_⟩
  have kb' := k1.trans kb
  exact q H' kb' (made_isC (kb'.same s0 h0) e1 e2 e3 e4)
theorem scSI : FnScope ["self", "one", "other"] ["self", "one", "other"] (defScope sSInit) := ⟨rfl, rfl, rfl, by decide +kernel, rfl, by decide +kernel, by decide +kernel⟩
theorem ok_sinit {n : Nat} (F : Fun K "__init__" "Same.__init__" sSInit f fd) (Z : Tc K mg T CC) (B : CBase P w K mg base T CC n) : FnOk P w K mg base CX0 (2 * n + 4) f fd ["self", "one", "other"] (spSI T) := by
  obtain ⟨g1, d1, mc, cf, G1, b1, m1⟩ := B
  refine F.ok scSI (fun vs H Q E h => ?_) (fun cdv A outer s H vs Q E hr h => ?_)
  · obtain ⟨a, dx, x, y, H0, rfl, _⟩ := h
    rfl
  obtain ⟨a, dx, x, y, H0, rfl, ha, s0, h0, q⟩ := h
  refine ⟨_, pss_cons (ps_fld (pv 0) (pv 1) rfl) (pss_cons (ps_fld (pv 0) (pv 2) rfl) (pss_one (ps_expr (pe_clsFn cf G1 hr rfl m1 b1 pass0 (pa_cons (pv 0) (pa_cons (pe_lst (pa_cons (pv 1) (pa_cons (pv 2) pa_nil))) (pa_cons pe_int pa_nil))))))), ?_⟩
  refine ⟨_, rfl, _, rfl, a, T.s, dx, [], rfl, ha, Z.z.cl (.same x y), Z.z.no1, by decide, ?_⟩
  refine ⟨_, rfl, _, rfl, a, T.s, dx, _, rfl, upd_same, Z.z.cl (.same x y), Z.z.no2, Nat.lt_of_le_of_lt len1 (by decide), ?_⟩
  refine ⟨_, rfl, _, rfl, _, rfl, small (by simp), fun r hr' => ?_⟩
  have nra : a ≠ r := fun e => by rw [← e, upd_same] at hr'; cases hr'
  have k1 : KeepB a H (upd (upd (upd H a (.ins T.s dx (putF "one" (kV x) []))) a (.ins T.s dx (putF "other" (kV y) (putF "one" (kV x) [])))) r (.lst [kV x, kV y])) := (KeepB.upd.trans KeepB.upd).trans (KeepB.of (same_new hr' _))
  refine ⟨a, r, H0, .same x y, dx, putF "other" (kV y) (putF "one" (kV x) []), [x, y], [x, y], rfl, by rw [upd_ne nra, upd_same]; rfl, k1.same s0 h0, h0, ⟨by rw [put_ne (by decide), put_has], put_has⟩, by simp [depth], SqL.of upd_same, by simp, by simp [cells], by simp, by simp [cells], len2, no_meth2 nm3 nm2, fun H' fs' kb e1 e2 e3 e4 => ?_⟩
  have kb' := k1.trans kb
  exact q H' kb' (made_isC (kb'.same s0 h0) e1 e2 e3 e4)
theorem scPI : FnScope ["self", "part"] ["self", "part"] (defScope sPInit) := ⟨rfl, rfl, rfl, by decide +kernel, rfl, by decide +kernel, by decide +kernel⟩
theorem ok_pinit {n : Nat} (F : Fun K "__init__" "Opposite.__init__" sPInit f fd) (Z : Tc K mg T CC) (B : CBase P w K mg base T CC n) (C4 : Cal P w K mg base "cells_within" 1 ["parts"] (spCellsW T K)) : FnOk P w K mg base CX0 (2 * n + 4) f fd ["self", "part"] (spPI T n) := by
  obtain ⟨g1, d1, mc, cf, G1, b1, m1⟩ := B
  obtain ⟨g2, d2, G2, b2, k2, m2⟩ := C4
  refine F.ok scPI (fun vs H Q E h => ?_) (fun cdv A outer s H vs Q E hr h => ?_)
  · obtain ⟨a, dx, v, c, H0, rfl, _⟩ := h
    rfl
  obtain ⟨a, dx, v, c, H0, rfl, ha, s0, h0, hC, hd, hp, q⟩ := h
  have hr1 : Room 1 _ := hr.mono (by omega)
  refine ⟨_, pss_cons (ps_fld (pv 0) (pv 1) rfl) (pss_one (ps_expr (pe_clsFn cf G1 hr rfl m1 b1 pass0 (pa_cons (pv 0) (pa_cons (pe_call G2 hr1 rfl m2 k2 b2 .nil pass0 (pa_cons (pe_lst (pa_cons (pv 1) pa_nil)) pa_nil)) (pa_cons (pe_fld (pv 1) rfl) pa_nil)))))), ?_⟩
  refine ⟨_, rfl, _, rfl, a, T.p, dx, [], rfl, ha, Z.z.cl (.opp c), Z.z.npp, by decide, ?_⟩
  refine ⟨_, rfl, _, rfl, small (by simp), fun r hr' => ?_⟩
  have nra : a ≠ r := fun e => by rw [← e, upd_same] at hr'; cases hr'
  have k1 : KeepB a H (upd (upd H a (.ins T.p dx (putF "part" v []))) r (.lst [v])) := KeepB.upd.trans (KeepB.of (same_new hr' _))
  have s1 := k1.same s0 h0
  have ha1 : (upd (upd H a (.ins T.p dx (putF "part" v []))) r (.lst [v])) a = some (.ins T.p dx (putF "part" v [])) := by rw [upd_ne nra, upd_same]
  have hL1 : IsL T (upd (upd H a (.ins T.p dx (putF "part" v []))) r (.lst [v])) [c] [v] := by
    simp only [CD.IsL]
    exact ⟨v, [], rfl, hC.kp (.of s1), rfl⟩
  have hC1 : cellsL [c] = cells c := by simp [cellsL]
  refine ⟨r, [v], [c], rfl, .inr (SqL.of upd_same), hL1, by rw [hC1]; exact hp, fun r2 H2 ks s2 h2 kl km => ?_⟩
  have k2' := k1.trans (KeepB.of s2)
  have s3 := k2'.same s0 h0
  have hC2 := hC.kp (.of s3)
  obtain ⟨av, dv, fv, rfl, hv, _, hB, _⟩ := isC_iff.mp hC2
  refine ⟨_, rfl, av, T.of c, dv, fv, _, rfl, hv, Z.z.cl c, Z.z.na c, hB.at_, ?_⟩
  obtain ⟨pool, p1, p2, p3⟩ := hp
  refine ⟨a, r2, H0, .opp c, dx, putF "part" (.ref av) [], ks, pool, by simp [atoms], s2 _ _ ha1, s3, h0, ⟨_, put_has, hC⟩, by simp only [depth]; omega, SqL.of h2, kl, (by rw [hC1] at km; simpa [cells] using km), p1, (by simpa only [cells] using p3), len1, no_meth1 nm5, fun H' fs' kb e1 e2 e3 e4 => ?_⟩
  have kb' := k2'.trans kb
  exact q H' kb' (made_isC (kb'.same s0 h0) e1 e2 e3 e4)
theorem scAI : FnScope ["self", "parts"] ["self", "parts"] (defScope sAInit) := ⟨rfl, rfl, rfl, by decide +kernel, rfl, by decide +kernel, by decide +kernel⟩
theorem ok_ainit {n : Nat} (F : Fun K "__init__" "AllOf.__init__" sAInit f fd) (Z : Tc K mg T CC) (B : CBase P w K mg base T CC n) (C4 : Cal P w K mg base "cells_within" 1 ["parts"] (spCellsW T K)) : FnOk P w K mg base CX0 (2 * n + 4) f fd ["self", "parts"] (spLI T K n T.a .all) := by
  obtain ⟨g1, d1, mc, cf, G1, b1, m1⟩ := B
  obtain ⟨g2, d2, G2, b2, k2, m2⟩ := C4
  refine F.ok scAI (fun vs H Q E h => ?_) (fun cdv A outer s H vs Q E hr h => ?_)
  · obtain ⟨a, dx, r, xs, l, H0, rfl, _⟩ := h
    rfl
  obtain ⟨a, dx, r, xs, l, H0, rfl, ha, s0, h0, hS, hL, hll, hd, hp, q⟩ := h
  have hr1 : Room 1 _ := hr.mono (by omega)
  refine ⟨_, pss_cons (ps_fld (pv 0) (pe_callTy call_tuple_of rfl Z.x.tuple PyProof.Rows.boot_tuple (pa_cons (pv 1) pa_nil)) rfl)
    (pss_one (ps_expr (pe_clsFn cf G1 hr rfl m1 b1 pass0 (pa_cons (pv 0) (pa_cons (pe_call G2 hr1 rfl m2 k2 b2 .nil pass0 (pa_cons (pe_fld (pv 0) rfl) pa_nil)) (pa_cons
      (pe_callB (call_sum_ints rfl) rfl Z.x.sum PyProof.Rows.boot_sum (pa_cons (pe_lcG (caps := []) ["part"] rfl (pi_tup (pe_fld (pv 0) rfl)) ⟨rfl, by decide +kernel, by decide +kernel, rfl, .nil, rfl, rfl, rfl⟩
        (fun s H ex => pg_name (X := cxLG _ _ _ _ s H ex) (i := 0) (nd1 _) rfl (Or.inl rfl) (.inr rfl)) (fun s H ex => pif_nil)
        (fun s H ex => pe_fldK (K := K) rfl (pe_var (X := cxLG _ _ _ _ s H ex) (i := 0) rfl (Or.inl rfl)) rfl)) pa_nil)) pa_nil)))))), ?_⟩
  refine ⟨_, rfl, r, xs, rfl, .inl ⟨hS, fun tp htp => ?_⟩⟩
  have nta : tp ≠ a := fun e => by rw [e, ha] at htp; cases htp
  have wt := same_new htp (.tup xs)
  refine ⟨_, rfl, a, T.a, dx, [], rfl, wt _ _ ha, Z.z.cl (.all l), Z.z.npa, by decide, ?_⟩
  have k1 : KeepB a H (upd (upd H tp (.tup xs)) a (.ins T.a dx (putF "parts" (.ref tp) []))) := (KeepB.of wt).trans KeepB.upd
  have ht1 : (upd (upd H tp (.tup xs)) a (.ins T.a dx (putF "parts" (.ref tp) []))) tp = some (.tup xs) := by rw [upd_ne nta, upd_same]
  have ha1 := upd_same (H := upd H tp (.tup xs)) (a := a) (o := .ins T.a dx (putF "parts" (.ref tp) []))
  generalize upd (upd H tp (.tup xs)) a (.ins T.a dx (putF "parts" (.ref tp) [])) = H1 at k1 ht1 ha1
  have s1 := k1.same s0 h0
  have pf : (putF "parts" (.ref tp) []).lookup ("parts" : Str) = some (.ref tp) := put_has
  refine ⟨_, rfl, _, rfl, a, T.a, dx, _, _, rfl, ha1, Z.z.cl (.all l), Z.z.npa, pf, tp, xs, l, rfl, .inl (SqT.of ht1), hL.kp (.of s1), hp, fun r2 H2 ks s2 h2 kl km => ?_⟩
  refine ⟨_, rfl, a, T.a, dx, _, _, rfl, s2 _ _ ha1, Z.z.cl (.all l), Z.z.npa, pf, tp, rfl, ⟨_, SqT.of (s2 _ _ ht1)⟩, fun D hD => ?_⟩
  have hL2 := hL.kp (.of (s1.trans s2))
  refine lcg_tupR (K := K) (a := tp) (xs := xs) (fun i σ H3 => ∃ u, σ = [u] ∧ Same H2 H3 ∧ H3 D = some (.lst ((l.take i).map fun c => V.int (atoms c))))
    ⟨none, rfl, same_new hD _, upd_same⟩ (fun i σ H3 _ ⟨_, _, s3, _⟩ => SqT.of (s3 _ _ (s2 _ _ ht1))) ?_ ?_
  · rintro i x σ H3 hi ⟨u, rfl, s3, h3⟩
    obtain ⟨c, hci, hC⟩ := isL_get hL2 hi
    obtain ⟨av, dv, fv, rfl, hv, _, hB, _⟩ := isC_iff.mp hC
    refine ⟨_, rfl, av, T.of c, dv, fv, _, rfl, s3 _ _ hv, Z.z.cl c, Z.z.na c, hB.at_, _, h3, ?_, _, rfl, same_upd s3 hD _, ?_⟩
    · rw [List.length_map]
      have : (l.take i).length ≤ l.length := by rw [List.length_take]; omega
      exact Nat.lt_of_le_of_lt (by omega : _ ≤ 4000) (by decide)
    · rw [upd_same, take_snoc hci, List.map_append]; rfl
  · rintro σ H3 ⟨u, rfl, s3, h3⟩
    rw [← isL_len hL, List.take_length] at h3
    have k3 := k1.trans ((KeepB.of s2).trans (KeepB.of s3))
    have e : (l.map fun c => V.int (atoms c)) = (l.map atoms).map V.int := by rw [List.map_map]; rfl
    refine ⟨D, l.map atoms, rfl, SqL.of (by rw [← e]; exact h3), ?_⟩
    rw [← atomsL_sum]
    obtain ⟨pool, p1, p2, p3⟩ := hp
    have h0t : (upd H0 tp (.tup xs)) a = none := by rw [upd_ne (Ne.symm nta)]; exact h0
    have s0t : Same (upd H0 tp (.tup xs)) H3 := by
      intro b o hb
      by_cases e : b = tp
      · subst e
        rw [upd_same] at hb
        cases hb
        exact s3 _ _ (s2 _ _ ht1)
      · rw [upd_ne e] at hb
        exact (k3.same s0 h0) _ _ hb
    have h0tp : H0 tp = none := by
      cases e : H0 tp with
      | none => rfl
      | some o => rw [s0 _ _ e] at htp; cases htp
    refine ⟨a, r2, upd H0 tp (.tup xs), .all l, dx, putF "parts" (.ref tp) [], ks, pool, by simp [atoms], s3 _ _ (s2 _ _ ha1), s0t, h0t, ⟨tp, xs, pf, upd_same, hL.kp (.of (same_new h0tp _))⟩, by simp only [depth]; omega, SqL.of (s3 _ _ h2), kl, (by simpa only [cells] using km), p1, (by simpa only [cells] using p3), len1, no_meth1 nm4, fun H' fs' kb e1 e2 e3 e4 => ?_⟩
    exact q H' (k3.trans kb) (made_isC (kb.same s0t h0t) e1 e2 e3 e4)
theorem scOI : FnScope ["self", "parts"] ["self", "parts"] (defScope sOInit) := ⟨rfl, rfl, rfl, by decide +kernel, rfl, by decide +kernel, by decide +kernel⟩
theorem ok_oinit {n : Nat} (F : Fun K "__init__" "OneOf.__init__" sOInit f fd) (Z : Tc K mg T CC) (B : CBase P w K mg base T CC n) (C4 : Cal P w K mg base "cells_within" 1 ["parts"] (spCellsW T K)) : FnOk P w K mg base CX0 (2 * n + 4) f fd ["self", "parts"] (spLI T K n T.o .one) := by
  obtain ⟨g1, d1, mc, cf, G1, b1, m1⟩ := B
  obtain ⟨g2, d2, G2, b2, k2, m2⟩ := C4
  refine F.ok scOI (fun vs H Q E h => ?_) (fun cdv A outer s H vs Q E hr h => ?_)
  · obtain ⟨a, dx, r, xs, l, H0, rfl, _⟩ := h
    rfl
  obtain ⟨a, dx, r, xs, l, H0, rfl, ha, s0, h0, hS, hL, hll, hd, hp, q⟩ := h
  have hr1 : Room 1 _ := hr.mono (by omega)
  refine ⟨_, pss_cons (ps_fld (pv 0) (pe_callTy call_tuple_of rfl Z.x.tuple PyProof.Rows.boot_tuple (pa_cons (pv 1) pa_nil)) rfl)
    (pss_one (ps_expr (pe_clsFn cf G1 hr rfl m1 b1 pass0 (pa_cons (pv 0) (pa_cons (pe_call G2 hr1 rfl m2 k2 b2 .nil pass0 (pa_cons (pe_fld (pv 0) rfl) pa_nil)) (pa_cons
      (pe_callB (call_sum_ints rfl) rfl Z.x.sum PyProof.Rows.boot_sum (pa_cons (pe_lcG (caps := []) ["part"] rfl (pi_tup (pe_fld (pv 0) rfl)) ⟨rfl, by decide +kernel, by decide +kernel, rfl, .nil, rfl, rfl, rfl⟩
        (fun s H ex => pg_name (X := cxLG _ _ _ _ s H ex) (i := 0) (nd1 _) rfl (Or.inl rfl) (.inr rfl)) (fun s H ex => pif_nil)
        (fun s H ex => pe_fldK (K := K) rfl (pe_var (X := cxLG _ _ _ _ s H ex) (i := 0) rfl (Or.inl rfl)) rfl)) pa_nil)) pa_nil)))))), ?_⟩
  refine ⟨_, rfl, r, xs, rfl, .inl ⟨hS, fun tp htp => ?_⟩⟩
  have nta : tp ≠ a := fun e => by rw [e, ha] at htp; cases htp
  have wt := same_new htp (.tup xs)
  refine ⟨_, rfl, a, T.o, dx, [], rfl, wt _ _ ha, Z.z.cl (.one l), Z.z.npo, by decide, ?_⟩
  have k1 : KeepB a H (upd (upd H tp (.tup xs)) a (.ins T.o dx (putF "parts" (.ref tp) []))) := (KeepB.of wt).trans KeepB.upd
  have ht1 : (upd (upd H tp (.tup xs)) a (.ins T.o dx (putF "parts" (.ref tp) []))) tp = some (.tup xs) := by rw [upd_ne nta, upd_same]
  have ha1 := upd_same (H := upd H tp (.tup xs)) (a := a) (o := .ins T.o dx (putF "parts" (.ref tp) []))
  generalize upd (upd H tp (.tup xs)) a (.ins T.o dx (putF "parts" (.ref tp) [])) = H1 at k1 ht1 ha1
  have s1 := k1.same s0 h0
  have pf : (putF "parts" (.ref tp) []).lookup ("parts" : Str) = some (.ref tp) := put_has
  refine ⟨_, rfl, _, rfl, a, T.o, dx, _, _, rfl, ha1, Z.z.cl (.one l), Z.z.npo, pf, tp, xs, l, rfl, .inl (SqT.of ht1), hL.kp (.of s1), hp, fun r2 H2 ks s2 h2 kl km => ?_⟩
  refine ⟨_, rfl, a, T.o, dx, _, _, rfl, s2 _ _ ha1, Z.z.cl (.one l), Z.z.npo, pf, tp, rfl, ⟨_, SqT.of (s2 _ _ ht1)⟩, fun D hD => ?_⟩
  have hL2 := hL.kp (.of (s1.trans s2))
  refine lcg_tupR (K := K) (a := tp) (xs := xs) (fun i σ H3 => ∃ u, σ = [u] ∧ Same H2 H3 ∧ H3 D = some (.lst ((l.take i).map fun c => V.int (atoms c))))
    ⟨none, rfl, same_new hD _, upd_same⟩ (fun i σ H3 _ ⟨_, _, s3, _⟩ => SqT.of (s3 _ _ (s2 _ _ ht1))) ?_ ?_
  · rintro i x σ H3 hi ⟨u, rfl, s3, h3⟩
    obtain ⟨c, hci, hC⟩ := isL_get hL2 hi
    obtain ⟨av, dv, fv, rfl, hv, _, hB, _⟩ := isC_iff.mp hC
    refine ⟨_, rfl, av, T.of c, dv, fv, _, rfl, s3 _ _ hv, Z.z.cl c, Z.z.na c, hB.at_, _, h3, ?_, _, rfl, same_upd s3 hD _, ?_⟩
    · rw [List.length_map]
      have : (l.take i).length ≤ l.length := by rw [List.length_take]; omega
      exact Nat.lt_of_le_of_lt (by omega : _ ≤ 4000) (by decide)
    · rw [upd_same, take_snoc hci, List.map_append]; rfl
  · rintro σ H3 ⟨u, rfl, s3, h3⟩
    rw [← isL_len hL, List.take_length] at h3
    have k3 := k1.trans ((KeepB.of s2).trans (KeepB.of s3))
    have e : (l.map fun c => V.int (atoms c)) = (l.map atoms).map V.int := by rw [List.map_map]; rfl
    refine ⟨D, l.map atoms, rfl, SqL.of (by rw [← e]; exact h3), ?_⟩
    rw [← atomsL_sum]
    obtain ⟨pool, p1, p2, p3⟩ := hp
    have h0t : (upd H0 tp (.tup xs)) a = none := by rw [upd_ne (Ne.symm nta)]; exact h0
    have s0t : Same (upd H0 tp (.tup xs)) H3 := by
      intro b o hb
      by_cases e : b = tp
      · subst e
        rw [upd_same] at hb
        cases hb
        exact s3 _ _ (s2 _ _ ht1)
      · rw [upd_ne e] at hb
        exact (k3.same s0 h0) _ _ hb
    have h0tp : H0 tp = none := by
      cases e : H0 tp with
      | none => rfl
      | some o => rw [s0 _ _ e] at htp; cases htp
    refine ⟨a, r2, upd H0 tp (.tup xs), .one l, dx, putF "parts" (.ref tp) [], ks, pool, by simp [atoms], s3 _ _ (s2 _ _ ha1), s0t, h0t, ⟨tp, xs, pf, upd_same, hL.kp (.of (same_new h0tp _))⟩, by simp only [depth]; omega, SqL.of (s3 _ _ h2), kl, (by simpa only [cells] using km), p1, (by simpa only [cells] using p3), len1, no_meth1 nm4, fun H' fs' kb e1 e2 e3 e4 => ?_⟩
    exact q H' (k3.trans kb) (made_isC (kb.same s0t h0t) e1 e2 e3 e4)
end
end K12
set_option maxHeartbeats 4000000
namespace K12
open PySem L2 CD
abbrev sAt : Stmt := top 17
abbrev sNames : Stmt := top 18
abbrev sValue : Stmt := top 19
abbrev sPool : Stmt := top 20
theorem cut_at (ns : List Int) (k : Int) (h0 : 0 ≤ k) : atI (cutV (ns.map V.int) (some k) (some (k + 1)) ++ [V.int 0]) 0 = some (V.int (ns.getD k.toNat 0)) := by
  obtain ⟨j, rfl⟩ := Int.eq_ofNat_of_zero_le h0
  have e : ((j : Int) + 1) = ((j + 1 : Nat) : Int) := by push_cast; rfl
  unfold cutV
  rw [e, HT.sIx_nat, HT.sIx_nat, List.length_map, Int.toNat_natCast]
  have z : (0 : Int) = ((0 : Nat) : Int) := rfl
  rw [z]
  refine atI_nat ?_
  rcases Nat.lt_or_ge j ns.length with hj | hj
  · have e1 : min j ns.length = j := by omega
    have e2 : min (j + 1) ns.length - j = 1 := by omega
    rw [e1, e2, ← List.map_drop, List.drop_eq_getElem_cons hj, List.getD_eq_getElem?_getD, List.getElem?_eq_getElem hj]
    rfl
  · have e1 : min j ns.length = ns.length := by omega
    have e2 : min (j + 1) ns.length - ns.length = 0 := by omega
    have e3 : ns[j]? = none := List.getElem?_eq_none hj
    rw [e1, e2, List.take_zero, List.getD_eq_getElem?_getD, e3]
    rfl
abbrev lets : Str := "zyxwvutsrqponmlkjihgfedcba"
theorem lets_len : lets.cps.toList.length = 26 := by decide +kernel
theorem lets_small : lets.length ≤ sizeLine := small (by decide +kernel)
theorem lets_inj : ∀ i : Nat, i < 26 → ∀ j : Nat, j < 26 → lets.cps.toList.getD i 0 = lets.cps.toList.getD j 0 → i = j := by decide +kernel
theorem at26 (z : Int) : atI lets.cps.toList (z % 26) = some (lets.cps.toList.getD (z % 26).toNat 0) := by
  have h0 : 0 ≤ z % 26 := Int.emod_nonneg _ (by decide)
  have h1 : z % 26 < 26 := Int.emod_lt_of_pos _ (by decide)
  obtain ⟨j, e⟩ := Int.eq_ofNat_of_zero_le h0
  rw [e, Int.toNat_natCast]
  have hj : j < lets.cps.toList.length := by rw [lets_len]; omega
  refine atI_nat ?_
  rw [List.getD_eq_getElem?_getD, List.getElem?_eq_getElem hj]
  rfl
def sgn (c : Int) (k : Nat) : Nat := lets.cps.toList.getD ((c / 98 + 9 * (0 + (k : Int))) % 26).toNat 0
def nmA (c : Int) (b : Str) (at' : Int) (k : Nat) : Str := (Txt.slice b none (some at') ++ (⟨#[sgn c k]⟩ : Str)) ++ Txt.slice b (some at') none
def nmB (b : Str) (k : Nat) : Str := Txt.slice b none (some 4) ++ Txt.slice ("aaaa" : Str) (some (0 + (k : Int))) none
def nm (c : Int) (b : Str) (at' : Int) (k : Nat) : Str := if c / 7 % 2 = 0 then nmA c b at' k else nmB b k
theorem app_cps (x y : Str) : (x ++ y).cps.toList = x.cps.toList ++ y.cps.toList := Array.toList_append
theorem len_app (x y : Str) : (x ++ y).length = x.length + y.length := by
  show (x ++ y).cps.size = x.cps.size + y.cps.size
  rw [← Array.length_toList, app_cps, List.length_append, Array.length_toList, Array.length_toList]
theorem dd_len : ∀ k : Nat, k < 4 → (Txt.slice ("aaaa" : Str) (some (0 + (k : Int))) none).length = 4 - k := by decide +kernel
theorem nm_inj (c : Int) (b : Str) (at' : Int) {i j : Nat} (hi : i < 4) (hj : j < 4) (h : nm c b at' i = nm c b at' j) : i = j := by
  unfold nm at h
  by_cases hc : c / 7 % 2 = 0
  · rw [if_pos hc, if_pos hc] at h
    unfold nmA at h
    have h' := congrArg (fun z : Str => z.cps.toList) h
    simp only [app_cps] at h'
    have h2 := List.append_cancel_right h'
    have h3 := List.append_cancel_left h2
    have h4 : sgn c i = sgn c j := by simpa using h3
    unfold sgn at h4
    have a1 : 0 ≤ (c / 98 + 9 * (0 + (i : Int))) % 26 := Int.emod_nonneg _ (by decide)
    have a2 : (c / 98 + 9 * (0 + (i : Int))) % 26 < 26 := Int.emod_lt_of_pos _ (by decide)
    have a3 : 0 ≤ (c / 98 + 9 * (0 + (j : Int))) % 26 := Int.emod_nonneg _ (by decide)
    have a4 : (c / 98 + 9 * (0 + (j : Int))) % 26 < 26 := Int.emod_lt_of_pos _ (by decide)
    have h5 := lets_inj _ (by omega) _ (by omega) h4
    omega
  · rw [if_neg hc, if_neg hc] at h
    unfold nmB at h
    have h' := congrArg Str.length h
    rw [len_app, len_app, dd_len i hi, dd_len j hj] at h'
    omega
theorem nodup_map {α β : Type} {g : α → β} : ∀ {l : List α}, l.Nodup → (∀ x ∈ l, ∀ y ∈ l, g x = g y → x = y) → (l.map g).Nodup
  | [], _, _ => List.nodup_nil
  | a :: r, h, hi => by
    obtain ⟨h1, h2⟩ := List.nodup_cons.mp h
    rw [List.map_cons]
    refine List.nodup_cons.mpr ⟨fun m => ?_, nodup_map h2 fun x hx y hy => hi x (List.mem_cons_of_mem _ hx) y (List.mem_cons_of_mem _ hy)⟩
    obtain ⟨b, hb, e⟩ := List.mem_map.mp m
    have := hi b (List.mem_cons_of_mem _ hb) a List.mem_cons_self e
    exact h1 (this ▸ hb)
theorem nm_nodup (c : Int) (b : Str) (at' : Int) : ((List.range 4).map (nm c b at')).Nodup :=
  nodup_map List.nodup_range fun x hx y hy e => nm_inj c b at' (List.mem_range.mp hx) (List.mem_range.mp hy) e
theorem at2 (c : Int) (x y : V) : atI [x, y] (c / 7 % 2) = some (if c / 7 % 2 = 0 then x else y) := by
  have h0 : c / 7 % 2 = 0 ∨ c / 7 % 2 = 1 := by omega
  rcases h0 with h | h
  · rw [h, if_pos rfl]; rfl
  · rw [h, if_neg (by decide)]; rfl
theorem nm_len (c : Int) (b : Str) (at' : Int) (hb : b.length ≤ 6) {k : Nat} (hk : k < 4) : (nm c b at' k).length ≤ 20 := by
  have s1 : (Txt.slice b none (some at')).length ≤ 6 := Nat.le_trans (Txt.slice_le _ _ _) hb
  have s2 : (Txt.slice b (some at') none).length ≤ 6 := Nat.le_trans (Txt.slice_le _ _ _) hb
  have s3 : (Txt.slice b none (some 4)).length ≤ 6 := Nat.le_trans (Txt.slice_le _ _ _) hb
  unfold nm nmA nmB
  split
  · rw [len_app, len_app]
    show _ + 1 + _ ≤ 20
    omega
  · rw [len_app, dd_len k hk]
    omega
def spAt (K : PySem.W.Frag) : Sp := fun args H Q _ => ∃ (a : Addr) (ns : List Int) (k : Int), args = [.ref a, .int k] ∧ 0 ≤ k ∧ SqL K H a (ns.map V.int) ∧ ∀ (z : Int) (H' : Hp), Same H H' → Q (.int z) H'
def spNames : Sp := fun args H Q _ => ∃ (c : Int), args = [.int c] ∧ ∀ (r : Addr) (H' : Hp) (names : List Str), Same H H' → H' r = some (.lst (names.map V.str)) → names.length = 4 → names.Nodup → (∀ z ∈ names, z.length ≤ 20) → Q (.ref r) H'
def spValue : Sp := fun args H Q _ => ∃ (c : Int), args = [.int c] ∧ ∀ z : Int, Q (.int z) H
/-- four names and four numbers -/
structure PoolOk (names : List Str) (vals : List Int) : Prop where
  nl : names.length = 4
  vl : vals.length = 4
  nd : names.Nodup
  sz : ∀ z ∈ names, z.length ≤ 20
def poolK (names : List Str) (vals : List Int) : List Key := names.map Sum.inr ++ vals.map Sum.inl
def spPool (K : PySem.W.Frag) : Sp := fun args H Q _ => ∃ (a : Addr) (ns : List Int), args = [.ref a] ∧ SqL K H a (ns.map V.int) ∧ ∀ (r : Addr) (H' : Hp) (names : List Str) (vals : List Int), Same H H' → H' r = some (.lst ((poolK names vals).map kV)) → PoolOk names vals → Q (.ref r) H'
section
variable {P : Program} {w : World} {K : PySem.W.Frag} {mg : Str → Option Value} {base : Heap} {f : Addr} {fd : FuncData}
theorem scAt : FnScope ["_law_script", "_law_k"] ["_law_script", "_law_k"] (defScope sAt) := ⟨rfl, rfl, rfl, by decide +kernel, rfl, by decide +kernel, by decide +kernel⟩
theorem ok_at (Fn : Fun K "_law_at" "_law_at" sAt f fd) : FnOk P w K mg base CX0 1 f fd ["_law_script", "_law_k"] (spAt K) := by
  refine Fn.ok scAt (fun vs H Q E h => ?_) (fun cdv A outer s H vs Q E hr h => ?_)
  · obtain ⟨a, ns, k, rfl, _⟩ := h
    rfl
  obtain ⟨a, ns, k, rfl, h0, hS, q⟩ := h
  refine ⟨_, pss_one (ps_ret (pe_ix ix_list (pe_op op_cat (pe_slice sl_list (pv 0) (po_some (pv 1)) (po_some (pe_op op_add (pv 1) pe_int))) (pe_lst (pa_cons pe_int pa_nil))) pe_int (fun _ _ => rfl))), ?_⟩
  refine ⟨_, rfl, _, rfl, _, rfl, _, rfl, _, _, rfl, rfl, _, rfl, a, _, rfl, hS, fun p hp => ?_⟩
  refine ⟨(by show 1 ≤ sizeLine; exact small (by decide)), fun l hl => ?_⟩
  have hpl : p ≠ l := ne_of_none upd_same hl
  have hz : (cutV (ns.map V.int) (some k) (some (k + 1))).length + 1 ≤ sizeLine := by
    obtain ⟨j, rfl⟩ := Int.eq_ofNat_of_zero_le h0
    have e : ((j : Int) + 1) = ((j + 1 : Nat) : Int) := by push_cast; rfl
    unfold cutV
    rw [e, HT.sIx_nat, HT.sIx_nat, List.length_take, List.length_drop]
    exact small (by omega)
  refine ⟨p, l, _, _, rfl, rfl, (by rw [upd_ne hpl, upd_same]), upd_same, hz, fun r hr' => ?_⟩
  refine ⟨r, _, _, _, rfl, rfl, SqL.of upd_same, cut_at ns k h0, ?_⟩
  exact q _ _ ((same_new hp _).trans ((same_new hl _).trans (same_new hr' _)))
theorem scV : FnScope ["_law_cell", "_law_number"] ["_law_cell"] (defScope sValue) := ⟨rfl, rfl, rfl, by decide +kernel, rfl, by decide +kernel, by decide +kernel⟩
theorem ten60 : (0 : Int) < 10 ^ (60 : Int).toNat := by decide +kernel
theorem ok_value (Fn : Fun K "_law_value" "_law_value" sValue f fd) : FnOk P w K mg base CX0 1 f fd ["_law_cell"] spValue := by
  refine Fn.ok scV (fun vs H Q E h => ?_) (fun cdv A outer s H vs Q E hr h => ?_)
  · obtain ⟨c, rfl, _⟩ := h
    rfl
  obtain ⟨c, rfl, q⟩ := h
  refine ⟨_, pss_cons (ps_if (pt_cmpR op_eq (pe_op op_mod (pv 0) pe_int) pe_int (nomark _)) (pss_one (ps_ret (pe_op op_sub (pe_op op_mod (pe_op op_fdiv (pv 0) pe_int) pe_int) pe_int))) pss_nil)
    (pss_cons (ps_set (i := 1) scV.nd rfl (Or.inl rfl) (pe_op op_mod (pe_op op_fdiv (pv 0) pe_int) (pe_op op_pow pe_int pe_int)))
    (pss_cons (ps_if (pt_cmpR op_eq (pe_op op_mod (pe_op op_fdiv (pv 0) pe_int) pe_int) pe_int (nomark _)) (pss_one (ps_set (i := 1) scV.nd rfl (Or.inl rfl) (pe_op op_sub (pe_op op_pow pe_int pe_int) pe_int))) pss_nil)
    (pss_cons (ps_if (pt_cmpR op_eq (pe_op op_mod (pe_op op_fdiv (pv 0) pe_int) pe_int) pe_int (nomark _)) (pss_one (ps_ret (pe_un un_neg (pv 1)))) pss_nil)
    (pss_one (ps_ret (pv 1)))))), ?_⟩
  refine ⟨_, rfl, _, _, rfl, rfl, (by show (0 : Int) < 2; decide), rfl, _, rfl, ?_⟩
  refine ite2 (fun _ => ?_) (fun _ => ?_)
  · exact ⟨_, rfl, _, _, rfl, rfl, ⟨by decide, by decide⟩, _, _, rfl, rfl, (by show (0 : Int) < 41; decide), _, _, rfl, rfl, q _⟩
  refine ⟨_, rfl, _, _, rfl, rfl, ⟨by decide, by decide⟩, _, _, rfl, rfl, ⟨by decide, by decide, by decide⟩, _, _, rfl, rfl, ten60, ?_⟩
  refine ⟨_, rfl, _, _, rfl, rfl, ⟨by decide, by decide⟩, _, _, rfl, rfl, (by show (0 : Int) < 5; decide), rfl, _, rfl, ?_⟩
  refine ite2 (fun _ => ?_) (fun _ => ?_)
  · refine ⟨_, _, rfl, rfl, ⟨by decide, by decide, by decide⟩, _, _, rfl, rfl, ?_⟩
    refine ⟨_, rfl, _, _, rfl, rfl, ⟨by decide, by decide⟩, _, _, rfl, rfl, (by show (0 : Int) < 2; decide), rfl, _, rfl, ?_⟩
    refine ite2 (fun _ => ?_) (fun _ => ?_)
    · exact ⟨_, rfl, _, rfl, q _⟩
    · exact ⟨_, rfl, q _⟩
  · refine ⟨_, rfl, _, _, rfl, rfl, ⟨by decide, by decide⟩, _, _, rfl, rfl, (by show (0 : Int) < 2; decide), rfl, _, rfl, ?_⟩
    refine ite2 (fun _ => ?_) (fun _ => ?_)
    · exact ⟨_, rfl, _, rfl, q _⟩
    · exact ⟨_, rfl, q _⟩
theorem scN : FnScope ["_law_cell", "_law_letters", "_law_base", "_law_k", "_law_at_here", "_law_names_here", "_law_sign", "_law_one"] ["_law_cell"] (defScope sNames) := ⟨rfl, rfl, rfl, by decide +kernel, rfl, by decide +kernel, by decide +kernel⟩
theorem ok_names (Fn : Fun K "_law_names" "_law_names" sNames f fd) (T : Txt mg) : FnOk P w K mg base CX0 1 f fd ["_law_cell"] spNames := by
  refine Fn.ok scN (fun vs H Q E h => ?_) (fun cdv A outer s H vs Q E hr h => ?_)
  · obtain ⟨c, rfl, _⟩ := h
    rfl
  obtain ⟨c, rfl, q⟩ := h
  refine ⟨_, pss_cons (ps_set (i := 1) scN.nd rfl (Or.inl rfl) pe_str)
    (pss_cons (ps_set (i := 2) scN.nd rfl (Or.inl rfl) pe_str)
    (pss_cons (ps_for PassesOwn.never rfl (pi_range1 rfl T.range (pa_cons (pe_op op_mod (pv 0) pe_int) pa_nil)) (pg_name (i := 3) scN.nd rfl (Or.inl rfl))
      (pss_one (ps_set (i := 2) scN.nd rfl (Or.inl rfl) (pe_op op_add_str (pv 2) (pe_ix ix_str (pv 1) (pe_op op_mod (pe_op op_fdiv (pv 0) (pe_op op_add (pe_op op_mul pe_int (pv 3)) pe_int)) pe_int) (fun _ _ => rfl))))))
    (pss_cons (ps_set (i := 4) scN.nd rfl (Or.inl rfl) (pe_op op_mod (pe_op op_fdiv (pv 0) pe_int) (pe_op op_add (pe_callB call_len_str rfl T.len PySem.boot_len (pa_cons (pv 2) pa_nil)) pe_int)))
    (pss_cons (ps_set (i := 5) scN.nd rfl (Or.inl rfl) (pe_lst pa_nil))
    (pss_cons (ps_for PassesOwn.never rfl (pi_range1 rfl T.range (pa_cons pe_int pa_nil)) (pg_name (i := 3) scN.nd rfl (Or.inl rfl))
      (pss_cons (ps_set (i := 6) scN.nd rfl (Or.inl rfl) (pe_ix ix_str (pv 1) (pe_op op_mod (pe_op op_add (pe_op op_fdiv (pv 0) pe_int) (pe_op op_mul pe_int (pv 3))) pe_int) (fun _ _ => rfl)))
      (pss_cons (ps_set (i := 7) scN.nd rfl (Or.inl rfl) (pe_op op_add_str (pe_op op_add_str (pe_slice sl_str (pv 2) po_none (po_some (pv 4))) (pv 6)) (pe_slice sl_str (pv 2) (po_some (pv 4)) po_none)))
      (pss_one (ps_expr (pe_bm PySem.F.plainAttrs_list PySem.F.slot_list_append PySem.F.type_list_append mt_append (pv 5)
        (pa_cons (pe_ix ix_list (pe_lst (pa_cons (pv 7) (pa_cons (pe_op op_add_str (pe_slice sl_str (pv 2) po_none (po_some pe_int)) (pe_slice sl_str pe_str (po_some (pv 3)) po_none)) pa_nil))) (pe_op op_mod (pe_op op_fdiv (pv 0) pe_int) pe_int) (fun _ _ => rfl)) pa_nil)))))))
    (pss_one (ps_ret (pv 5)))))))), ?_⟩
  have c0 : 0 ≤ c % 7 := Int.emod_nonneg _ (by decide)
  have c1 : c % 7 < 7 := Int.emod_lt_of_pos _ (by decide)
  refine ⟨_, rfl, _, _, rfl, rfl, (by show (0 : Int) < 7; decide), _, rfl, by omega, by omega, for_range (lo := 0) (n := (c % 7).toNat) (fun i σ H2 => H2 = H ∧ ∃ (b : Str) (u : Option V), σ = [some (.int c), some (.str lets), some (.str b), u, none, none, none, none] ∧ b.length = i)
    ⟨rfl, _, none, rfl, rfl⟩ ?_ ?_⟩
  · rintro i σ H2 hi ⟨rfl, b, u, rfl, hb⟩
    refine ⟨_, rfl, _, rfl, _, rfl, _, rfl, _, _, rfl, rfl, .inl ⟨by decide, by decide⟩, _, _, rfl, rfl, _, _, rfl, rfl, ⟨by omega, by omega⟩, _, _, rfl, rfl, (by show (0 : Int) < 26; decide), _, _, _, rfl, rfl, lets_small, at26 _, _, _, rfl, rfl, ?_, ?_⟩
    · show b.length + 1 ≤ sizeLine
      exact small (by omega)
    · refine ⟨rfl, _, _, rfl, ?_⟩
      rw [len_app, hb]
      rfl
  rintro σ H2 ⟨rfl, b, u, rfl, hb⟩
  have bz : b.length ≤ 6 := by omega
  refine ⟨_, rfl, _, _, rfl, rfl, ⟨by decide, by decide⟩, _, rfl, _, rfl, small (by omega), _, _, rfl, rfl, _, _, rfl, rfl, (by show (0 : Int) < (b.length : Int) + 1; omega), ?_⟩
  refine ⟨small (by decide), fun r hr' => ?_⟩
  obtain ⟨at', hat⟩ : ∃ z : Int, z = c / 14 % ((b.length : Int) + 1) := ⟨_, rfl⟩
  have sl1 : (Txt.slice b none (some at')).length ≤ 6 := Nat.le_trans (Txt.slice_le _ _ _) bz
  have sl2 : (Txt.slice b (some at') none).length ≤ 6 := Nat.le_trans (Txt.slice_le _ _ _) bz
  have sl3 : (Txt.slice b none (some 4)).length ≤ 6 := Nat.le_trans (Txt.slice_le _ _ _) bz
  refine ⟨_, rfl, by decide, by decide, for_range (lo := 0) (n := 4) (fun i σ H3 => ∃ (u v t : Option V), σ = [some (.int c), some (.str lets), some (.str b), u, some (.int at'), some (.ref r), v, t] ∧ Same H2 H3 ∧ H3 r = some (.lst (((List.range i).map (nm c b at')).map V.str)))
    ⟨u, none, none, (by rw [hat]; rfl), same_new hr' _, upd_same⟩ ?_ ?_⟩
  · rintro i σ H3 hi ⟨u, v, t, rfl, s3, h3⟩
    refine ⟨_, rfl, _, rfl, _, _, rfl, rfl, ⟨by decide, by decide⟩, _, rfl, _, _, rfl, rfl, .inl ⟨by decide, by decide⟩, _, _, rfl, rfl, _, _, rfl, rfl, (by show (0 : Int) < 26; decide), _, _, _, rfl, rfl, lets_small, at26 _, ?_⟩
    have dz : (Txt.slice ("aaaa" : Str) (some (0 + (i : Int))) none).length ≤ 4 := by rw [dd_len i hi]; omega
    refine ⟨_, rfl, _, rfl, _, rfl, _, rfl, small (by omega), _, rfl, _, _, rfl, rfl, ?_, _, rfl, _, rfl, _, rfl, _, rfl, small (by omega), _, _, rfl, rfl, ?_, ?_⟩
    · show _ + 1 ≤ sizeLine
      exact small (by omega)
    · rw [len_app]
      show _ + 1 + _ ≤ sizeLine
      exact small (by omega)
    refine ⟨_, rfl, .inl ⟨rfl, _, SqL.of h3⟩, _, rfl, _, rfl, _, rfl, _, rfl, small (by omega), _, rfl, _, rfl, _, rfl, small (by decide +kernel), _, _, rfl, rfl, small (by omega), (by show 2 ≤ sizeLine; exact small (by decide)), fun l2 hl2 => ?_⟩
    refine ⟨_, rfl, _, _, rfl, rfl, ⟨by decide, by decide⟩, _, _, rfl, rfl, (by show (0 : Int) < 2; decide), l2, _, _, _, rfl, rfl, SqL.of upd_same, at2 c _ _, ?_⟩
    have nrl : r ≠ l2 := ne_of_none h3 hl2
    refine ⟨r, _, _, rfl, rfl, (by rw [upd_ne nrl]; exact h3), ?_, _, _, _, rfl, same_upd ((s3.trans (same_new hl2 _))) hr' _, ?_⟩
    · rw [List.length_map, List.length_map, List.length_range]
      exact small1000 (by omega)
    · rw [upd_same, List.range_succ, List.map_append, List.map_append]
      show some (HO.lst (_ ++ [_])) = some (HO.lst (_ ++ [V.str (nm c b at' i)]))
      unfold nm
      split <;> rfl
  · rintro σ H3 ⟨u, v, t, rfl, s3, h3⟩
    refine ⟨_, rfl, q r H3 _ s3 h3 (by rw [List.length_map, List.length_range]) (nm_nodup c b at') (fun z hz => ?_)⟩
    obtain ⟨j, hj, rfl⟩ := List.mem_map.mp hz
    exact nm_len c b at' bz (List.mem_range.mp hj)
theorem scPo : FnScope ["_law_script"] ["_law_script"] (defScope sPool) := ⟨rfl, rfl, rfl, by decide +kernel, rfl, by decide +kernel, by decide +kernel⟩
theorem nd2 {x y : Str} (h : x ≠ y) : ([x, y] : List Str).Nodup := by simp [h]
theorem ok_pool (Fn : Fun K "_law_pool" "_law_pool" sPool f fd) (T : Txt mg) (C0 : Cal P w K mg base "_law_at" 1 ["_law_script", "_law_k"] (spAt K)) (C1 : Cal P w K mg base "_law_names" 1 ["_law_cell"] spNames) (C2 : Cal P w K mg base "_law_value" 1 ["_law_cell"] spValue) : FnOk P w K mg base CX0 2 f fd ["_law_script"] (spPool K) := by
  obtain ⟨f0, d0, G0, b0, k0, m0⟩ := C0
  obtain ⟨f1, d1, G1, b1, k1, m1⟩ := C1
  obtain ⟨f2, d2, G2, b2, k2, m2⟩ := C2
  refine Fn.ok scPo (fun vs H Q E h => ?_) (fun cdv A outer s H vs Q E hr h => ?_)
  · obtain ⟨a, ns, rfl, _⟩ := h
    rfl
  obtain ⟨a, ns, rfl, hS, q⟩ := h
  refine ⟨_, pss_one (ps_ret (pe_op op_cat (pe_call G1 hr rfl m1 k1 b1 .nil pass0 (pa_cons (pe_call G0 hr rfl m0 k0 b0 .nil pass0 (pa_cons (pv 0) (pa_cons pe_int pa_nil))) pa_nil))
    (pe_lcG (caps := [("_law_script", 0)]) ["_law_k"] rfl (pi_range1 rfl T.range (pa_cons pe_int pa_nil)) ⟨rfl, by decide +kernel, by decide +kernel, rfl, .cons rfl (.inl rfl) rfl .nil, rfl, rfl, rfl⟩
      (fun s H ex => pg_name (X := cxLG _ _ _ _ s H ex) (i := 0) (nd2 (by decide)) rfl (Or.inl rfl) (.inr rfl)) (fun s H ex => pif_nil)
      (fun s H ex => pe_call (X := cxLG _ _ _ _ s H ex) G2 hr rfl m2 k2 b2 .nil pass0 (pa_cons (pe_call (X := cxLG _ _ _ _ s H ex) G0 hr rfl m0 k0 b0 .nil pass0 (pa_cons (pe_var (X := cxLG _ _ _ _ s H ex) (i := 1) rfl (Or.inr (Or.inl rfl))) (pa_cons (pe_op op_add pe_int (pe_var (X := cxLG _ _ _ _ s H ex) (i := 0) rfl (Or.inl rfl))) pa_nil))) pa_nil))))), ?_⟩
  refine ⟨_, rfl, a, ns, 0, rfl, by decide, hS, fun z0 H1 s1 => ⟨z0, rfl, fun nr H2 names s2 h2 nl nn nz => ?_⟩⟩
  refine ⟨_, rfl, by decide, by decide, fun D hD => ?_⟩
  have s12 := s1.trans s2
  refine lcg_rangeR (lo := 0) (n := 4) (fun i σ H3 => ∃ (vs : List Int) (u : Option V), σ = [u, some (.ref a)] ∧ Same H2 H3 ∧ H3 D = some (.lst (vs.map V.int)) ∧ vs.length = i)
    ⟨[], none, rfl, same_new hD _, upd_same, rfl⟩ ?_ ?_
  · rintro i σ H3 hi ⟨vs, u, rfl, s3, h3, vl⟩
    refine ⟨_, rfl, _, rfl, _, _, rfl, rfl, a, ns, _, rfl, by omega, (s12.trans s3).seq hS, fun z H4 s4 => ⟨z, rfl, fun y => ⟨_, s4 _ _ h3, ?_, vs ++ [y], _, rfl, same_upd (s3.trans s4) hD _, ?_, ?_⟩⟩⟩
    · rw [List.length_map]; exact small1000 (by omega)
    · rw [upd_same, List.map_append]; rfl
    · rw [List.length_append, vl]; rfl
  · rintro σ H3 ⟨vs, u, rfl, s3, h3, vl⟩
    refine ⟨nr, D, _, _, rfl, rfl, s3 _ _ h2, h3, ?_, fun r hr' => ?_⟩
    · rw [List.length_map, List.length_map]; exact small (by omega)
    · refine q r _ names vs (s12.trans (s3.trans (same_new hr' _))) ?_ ⟨nl, vl, nn, nz⟩
      rw [upd_same, poolK, List.map_append, ← map_kVs, ← map_kVi]
end
end K12
set_option maxHeartbeats 4000000
namespace K12
open PySem L2 CD
/-! ### the law's own trees -/
inductive Tr where
  | truth (b : Bool)
  | same (x y : Key)
  | all (l : List Tr)
  | one (l : List Tr)
  | opp (t : Tr)
  | two (t : Tr)
mutual
def toC : Tr → Cd
  | .truth b => .truth b
  | .same x y => .same x y
  | .all l => .all (toL l)
  | .one l => .one (toL l)
  | .opp t => .opp (toC t)
  | .two t => .all [toC t, toC t]
def toL : List Tr → List Cd
  | [] => []
  | t :: r => toC t :: toL r
end
mutual
def nT : Tr → Nat
  | .truth _ => 1
  | .same _ _ => 1
  | .all l => nL l + 1
  | .one l => nL l + 1
  | .opp t => nT t + 1
  | .two t => nT t + 1
def nL : List Tr → Nat
  | [] => 0
  | t :: r => nT t + nL r
end
def dT (t : Tr) : Nat := depth (toC t)
def dL (l : List Tr) : Nat := depthL (toL l)
def cT (t : Tr) : List Key := cells (toC t)
def cL (l : List Tr) : List Key := cellsL (toL l)
theorem toL_map : ∀ l : List Tr, toL l = l.map toC
  | [] => by simp [toL]
  | t :: r => by simp [toL, toL_map r]
theorem toL_len (l : List Tr) : (toL l).length = l.length := by rw [toL_map, List.length_map]
theorem dT_pos (t : Tr) : 0 < dT t := depth_pos _
theorem dT_all (l : List Tr) : dT (.all l) = dL l + 1 := by simp [dT, dL, toC, depth]
theorem dT_one (l : List Tr) : dT (.one l) = dL l + 1 := by simp [dT, dL, toC, depth]
theorem dT_opp (t : Tr) : dT (.opp t) = dT t + 1 := by simp [dT, toC, depth]
theorem dT_two (t : Tr) : dT (.two t) = dT t + 1 := by simp [dT, toC, depth, depthL]
theorem cT_all (l : List Tr) : cT (.all l) = cL l := by simp [cT, cL, toC, cells]
theorem cT_one (l : List Tr) : cT (.one l) = cL l := by simp [cT, cL, toC, cells]
theorem cT_opp (t : Tr) : cT (.opp t) = cT t := by simp [cT, toC, cells]
theorem cT_two (t : Tr) : cT (.two t) = cT t ++ cT t := by simp [cT, toC, cells, cellsL]
theorem cL_cons (t : Tr) (r : List Tr) : cL (t :: r) = cT t ++ cL r := by simp [cL, cT, toL, cellsL]
theorem cL_nil : cL [] = [] := by simp [cL, toL, cellsL]
theorem cL_app : ∀ l m : List Tr, cL (l ++ m) = cL l ++ cL m
  | [], m => by rw [cL_nil]; rfl
  | t :: r, m => by rw [List.cons_append, cL_cons, cL_cons, cL_app r m, List.append_assoc]
theorem cL_mem {k : Key} {l : List Tr} : k ∈ cL l ↔ ∃ t ∈ l, k ∈ cT t := by
  unfold cL
  rw [cellsL_mem, toL_map]
  constructor
  · rintro ⟨c, hc, hk⟩
    obtain ⟨t, ht, rfl⟩ := List.mem_map.mp hc
    exact ⟨t, ht, hk⟩
  · rintro ⟨t, ht, hk⟩
    exact ⟨_, List.mem_map.mpr ⟨t, ht, rfl⟩, hk⟩
theorem dL_le {n : Nat} {l : List Tr} : dL l ≤ n ↔ ∀ t ∈ l, dT t ≤ n := by
  unfold dL
  rw [depthL_le, toL_map]
  constructor
  · intro h t ht
    exact h _ (List.mem_map.mpr ⟨t, ht, rfl⟩)
  · rintro h c hc
    obtain ⟨t, ht, rfl⟩ := List.mem_map.mp hc
    exact h t ht
theorem dL_ge {t : Tr} {l : List Tr} (h : t ∈ l) : dT t ≤ dL l := dL_le.mp (Nat.le_refl _) t h
theorem nT_pos : ∀ t : Tr, 0 < nT t
  | .truth _ => by simp [nT]
  | .same _ _ => by simp [nT]
  | .all _ => by simp [nT]
  | .one _ => by simp [nT]
  | .opp _ => by simp [nT]
  | .two _ => by simp [nT]
theorem nL_app : ∀ l m : List Tr, nL (l ++ m) = nL l + nL m
  | [], m => by simp [nL]
  | c :: r, m => by simp only [List.cons_append, nL, nL_app r m]; omega
theorem nL_len : ∀ l : List Tr, l.length ≤ nL l
  | [] => Nat.zero_le _
  | c :: r => by
    have := nT_pos c
    have := nL_len r
    simp only [List.length_cons, nL]; omega
theorem nL_mem {c : Tr} : ∀ {l : List Tr}, c ∈ l → nT c ≤ nL l
  | d :: r, h => by
    rcases List.mem_cons.mp h with rfl | h
    · simp only [nL]; omega
    · have := nL_mem h
      simp only [nL]; omega
theorem cL_len_mem {t : Tr} : ∀ {l : List Tr}, t ∈ l → (cT t).length ≤ (cL l).length
  | d :: r, h => by
    rw [cL_cons, List.length_append]
    rcases List.mem_cons.mp h with rfl | h
    · omega
    · have := cL_len_mem h
      omega
mutual
def IsT (H : Hp) : Tr → V → Prop
  | .truth b, v => ∃ a, v = .ref a ∧ H a = some (.tup [.int 1, .str "truth", .bl b])
  | .same x y, v => ∃ a, v = .ref a ∧ H a = some (.tup [.int 1, .str "same", kV x, kV y])
  | .all l, v => ∃ a p xs, v = .ref a ∧ H a = some (.tup [.int (dL l + 1 : Nat), .str "all", .ref p]) ∧ H p = some (.lst xs) ∧ IsTL H l xs
  | .one l, v => ∃ a p xs, v = .ref a ∧ H a = some (.tup [.int (dL l + 1 : Nat), .str "one", .ref p]) ∧ H p = some (.lst xs) ∧ IsTL H l xs
  | .opp c, v => ∃ a u, v = .ref a ∧ H a = some (.tup [.int (dT c + 1 : Nat), .str "not", u]) ∧ IsT H c u
  | .two c, v => ∃ a u, v = .ref a ∧ H a = some (.tup [.int (dT c + 1 : Nat), .str "twice", u]) ∧ IsT H c u
def IsTL (H : Hp) : List Tr → List V → Prop
  | [], xs => xs = []
  | c :: r, xs => ∃ x ys, xs = x :: ys ∧ IsT H c x ∧ IsTL H r ys
end
mutual
theorem IsT.keep {H H' : Hp} (s : Same H H') : ∀ {c : Tr} {v : V}, IsT H c v → IsT H' c v
  | .truth b, v, h => by
    simp only [IsT] at h ⊢
    obtain ⟨a, e1, e2⟩ := h
    exact ⟨a, e1, s _ _ e2⟩
  | .same x y, v, h => by
    simp only [IsT] at h ⊢
    obtain ⟨a, e1, e2⟩ := h
    exact ⟨a, e1, s _ _ e2⟩
  | .all l, v, h => by
    simp only [IsT] at h ⊢
    obtain ⟨a, p, xs, e1, e2, e3, e4⟩ := h
    exact ⟨a, p, xs, e1, s _ _ e2, s _ _ e3, IsTL.keep s e4⟩
  | .one l, v, h => by
    simp only [IsT] at h ⊢
    obtain ⟨a, p, xs, e1, e2, e3, e4⟩ := h
    exact ⟨a, p, xs, e1, s _ _ e2, s _ _ e3, IsTL.keep s e4⟩
  | .opp c, v, h => by
    simp only [IsT] at h ⊢
    obtain ⟨a, u, e1, e2, e3⟩ := h
    exact ⟨a, u, e1, s _ _ e2, IsT.keep s e3⟩
  | .two c, v, h => by
    simp only [IsT] at h ⊢
    obtain ⟨a, u, e1, e2, e3⟩ := h
    exact ⟨a, u, e1, s _ _ e2, IsT.keep s e3⟩
theorem IsTL.keep {H H' : Hp} (s : Same H H') : ∀ {l : List Tr} {xs : List V}, IsTL H l xs → IsTL H' l xs
  | [], xs, h => h
  | c :: r, xs, h => by
    simp only [IsTL] at h ⊢
    obtain ⟨x, ys, e, h1, h2⟩ := h
    exact ⟨x, ys, e, IsT.keep s h1, IsTL.keep s h2⟩
end
theorem isTL_len {H : Hp} : ∀ {l : List Tr} {xs : List V}, IsTL H l xs → l.length = xs.length
  | [], xs, h => by simp only [IsTL] at h; subst h; rfl
  | c :: r, xs, h => by
    simp only [IsTL] at h
    obtain ⟨y, ys, rfl, _, h2⟩ := h
    simp [isTL_len h2]
theorem isTL_get {H : Hp} : ∀ {l : List Tr} {xs : List V} {i : Nat} {x : V}, IsTL H l xs → xs[i]? = some x → ∃ c, l[i]? = some c ∧ IsT H c x
  | [], xs, i, x, h, e => by simp only [IsTL] at h; subst h; simp at e
  | c :: r, xs, 0, x, h, e => by
    simp only [IsTL] at h
    obtain ⟨y, ys, rfl, h1, h2⟩ := h
    simp at e; subst e
    exact ⟨c, rfl, h1⟩
  | c :: r, xs, i + 1, x, h, e => by
    simp only [IsTL] at h
    obtain ⟨y, ys, rfl, h1, h2⟩ := h
    obtain ⟨d, h3, h4⟩ := isTL_get h2 (i := i) (x := x) (by simpa using e)
    exact ⟨d, by simpa using h3, h4⟩
theorem isTL_snoc {H : Hp} {c : Tr} {x : V} : ∀ {l : List Tr} {xs : List V}, IsTL H l xs → IsT H c x → IsTL H (l ++ [c]) (xs ++ [x])
  | [], xs, h, h' => by simp only [IsTL] at h; subst h; simp only [List.nil_append, IsTL]; exact ⟨x, [], rfl, h', rfl⟩
  | d :: r, xs, h, h' => by
    simp only [IsTL] at h
    obtain ⟨y, ys, rfl, h1, h2⟩ := h
    simp only [List.cons_append, IsTL]
    exact ⟨y, ys ++ [x], rfl, h1, isTL_snoc h2 h'⟩
theorem isTL_take {H : Hp} : ∀ {l : List Tr} {xs : List V} (n : Nat), IsTL H l xs → IsTL H (l.take n) (xs.take n)
  | [], xs, n, h => by simp only [IsTL] at h; subst h; simp [IsTL]
  | c :: r, xs, 0, h => by simp [IsTL]
  | c :: r, xs, n + 1, h => by
    simp only [IsTL] at h
    obtain ⟨y, ys, rfl, h1, h2⟩ := h
    simp only [List.take_succ_cons, IsTL]
    exact ⟨y, ys.take n, rfl, h1, isTL_take n h2⟩
theorem isTL_drop {H : Hp} : ∀ {l : List Tr} {xs : List V} (n : Nat), IsTL H l xs → IsTL H (l.drop n) (xs.drop n)
  | [], xs, n, h => by simp only [IsTL] at h; subst h; simp [IsTL]
  | c :: r, xs, 0, h => by simpa using h
  | c :: r, xs, n + 1, h => by
    simp only [IsTL] at h
    obtain ⟨y, ys, rfl, h1, h2⟩ := h
    simp only [List.drop_succ_cons]
    exact isTL_drop n h2
theorem isT_dep {H : Hp} {c : Tr} {v : V} (h : IsT H c v) : ∃ a xs, v = .ref a ∧ H a = some (.tup (.int (dT c : Nat) :: xs)) := by
  cases c with
  | truth b => simp only [IsT] at h; obtain ⟨a, e1, e2⟩ := h; exact ⟨a, _, e1, e2⟩
  | same x y => simp only [IsT] at h; obtain ⟨a, e1, e2⟩ := h; exact ⟨a, _, e1, e2⟩
  | all l => simp only [IsT] at h; obtain ⟨a, p, xs, e1, e2, _⟩ := h; exact ⟨a, _, e1, by rw [dT_all]; exact e2⟩
  | one l => simp only [IsT] at h; obtain ⟨a, p, xs, e1, e2, _⟩ := h; exact ⟨a, _, e1, by rw [dT_one]; exact e2⟩
  | opp c => simp only [IsT] at h; obtain ⟨a, u, e1, e2, _⟩ := h; exact ⟨a, _, e1, by rw [dT_opp]; exact e2⟩
  | two c => simp only [IsT] at h; obtain ⟨a, u, e1, e2, _⟩ := h; exact ⟨a, _, e1, by rw [dT_two]; exact e2⟩
/-- what a stack of trees keeps to -/
structure Good (pool : List Key) (m : Nat) (cs : List Tr) : Prop where
  dp : ∀ c ∈ cs, dT c ≤ 18
  nd : nL cs ≤ m
  cl : ∀ k ∈ cL cs, k ∈ pool
  ln : (cL cs).length ≤ 10 * m
theorem Good.snoc {pool : List Key} {m : Nat} {cs : List Tr} {c : Tr} (g : Good pool m cs) (h1 : dT c ≤ 18) (h2 : nT c ≤ 1) (h3 : ∀ k ∈ cT c, k ∈ pool) (h4 : (cT c).length ≤ 10) : Good pool (m + 1) (cs ++ [c]) := by
  have e : cL (cs ++ [c]) = cL cs ++ cT c := by rw [cL_app, cL_cons, cL_nil, List.append_nil]
  refine ⟨fun d hd => ?_, ?_, fun k hk => ?_, ?_⟩
  · rcases List.mem_append.mp hd with h | h
    · exact g.dp d h
    · have : d = c := by simpa using h
      exact this ▸ h1
  · rw [nL_app]
    have := g.nd
    simp only [nL]; omega
  · rw [e] at hk
    rcases List.mem_append.mp hk with h | h
    · exact g.cl k h
    · exact h3 k h
  · rw [e, List.length_append]
    have := g.ln
    omega
/-- the last ones put together -/
theorem Good.join {pool : List Key} {m k : Nat} {cs : List Tr} {c : Tr} (g : Good pool m cs) (h1 : dT c ≤ 18) (h2 : nT c = nL (cs.drop k) + 1) (h3 : ∀ x ∈ cT c, x ∈ cL (cs.drop k)) (h4 : (cT c).length ≤ (cL (cs.drop k)).length + 10) : Good pool (m + 1) (cs.take k ++ [c]) := by
  have e1 := nL_app (cs.take k) (cs.drop k)
  have e2 := cL_app (cs.take k) (cs.drop k)
  rw [List.take_append_drop] at e1 e2
  have e : cL (cs.take k ++ [c]) = cL (cs.take k) ++ cT c := by rw [cL_app, cL_cons, cL_nil, List.append_nil]
  refine ⟨fun d hd => ?_, ?_, fun x hx => ?_, ?_⟩
  · rcases List.mem_append.mp hd with h | h
    · exact g.dp d (List.mem_of_mem_take h)
    · have : d = c := by simpa using h
      exact this ▸ h1
  · rw [nL_app]
    have := g.nd
    simp only [nL]; omega
  · rw [e] at hx
    refine g.cl x ?_
    rw [e2]
    rcases List.mem_append.mp hx with h | h
    · exact List.mem_append_left _ h
    · exact List.mem_append_right _ (h3 x h)
  · rw [e, List.length_append]
    have a := g.ln
    rw [e2, List.length_append] at a
    omega
theorem cut_from {xs : List V} {k : Nat} : cutV xs (some (k : Int)) none = xs.drop k := by
  unfold cutV
  rw [HT.sIx_nat, HT.sIx_none]
  rcases Nat.le_total k xs.length with h | h
  · rw [Nat.min_eq_left h, List.take_of_length_le (by rw [List.length_drop]; omega)]
  · rw [Nat.min_eq_right h, List.drop_of_length_le (Nat.le_refl _), List.drop_of_length_le h]; simp
theorem cut_to {xs : List V} {k : Nat} : cutV xs none (some (k : Int)) = xs.take k := by
  unfold cutV
  rw [HT.sIx_nat, HT.sIx_none, List.drop_zero, Nat.sub_zero, List.take_eq_take_iff]
  omega
theorem cut_most {xs : List V} (h : 0 < xs.length) : cutV xs none (some (-1)) = xs.take (xs.length - 1) := by
  unfold cutV
  have e : HT.sIx xs.length xs.length (some (-1)) = xs.length - 1 := by
    show (if (-1 : Int) < 0 then ((-1 : Int) + (xs.length : Int)).toNat else min (-1 : Int).toNat xs.length) = xs.length - 1
    rw [if_pos (by decide)]
    omega
  rw [e, HT.sIx_none, List.drop_zero, Nat.sub_zero]
end K12
set_option maxHeartbeats 4000000
namespace K12
open PySem L2 CD
abbrev sDeep : Stmt := top 21
abbrev sGrown : Stmt := top 22
abbrev sTree : Stmt := top 23
abbrev sMade : Stmt := top 24
abbrev sCells : Stmt := top 25
def spDeep : Sp := fun args H Q _ => ∃ (p : Addr) (xs : List V) (cs : List Tr), args = [.ref p] ∧ H p = some (.lst xs) ∧ IsTL H cs xs ∧ cs.length ≤ 900 ∧ ∀ H', Same H H' → Q (.int (dL cs + 1 : Nat)) H'
def spCells (d : Nat) : Sp := fun args H Q _ => ∃ (v : V) (t : Tr), args = [v] ∧ IsT H t v ∧ dT t ≤ d ∧ (cT t).length ≤ 2000 ∧ ∀ (r : Addr) (H' : Hp), Same H H' → H' r = some (.lst ((cT t).map kV)) → Q (.ref r) H'
theorem pool_len {names : List Str} {vals : List Int} (h : PoolOk names vals) : (poolK names vals).length = 8 := by
  unfold poolK
  rw [List.length_append, List.length_map, List.length_map, h.nl, h.vl]
theorem at8 {names : List Str} {vals : List Int} (h : PoolOk names vals) (z : Int) : ∃ x ∈ poolK names vals, atI ((poolK names vals).map kV) (z % 8) = some (kV x) := by
  have h0 : 0 ≤ z % 8 := Int.emod_nonneg _ (by decide)
  have h1 : z % 8 < 8 := Int.emod_lt_of_pos _ (by decide)
  obtain ⟨j, e⟩ := Int.eq_ofNat_of_zero_le h0
  have hj : j < (poolK names vals).length := by rw [pool_len h]; omega
  refine ⟨(poolK names vals)[j], List.getElem_mem hj, ?_⟩
  rw [e]
  refine atI_nat ?_
  rw [List.getElem?_map, List.getElem?_eq_getElem hj]
  rfl
theorem at0 {v : V} {xs : List V} : atI (v :: xs) 0 = some v := atI_nat (j := 0) rfl
theorem dL_max {l : List Tr} {m : Int} (h1 : ∀ n ∈ l.map (fun c => ((dT c : Nat) : Int)), n ≤ m) (h2 : m ∈ l.map (fun c => ((dT c : Nat) : Int)) ∨ (l.map (fun c => ((dT c : Nat) : Int)) = [] ∧ m = 0)) : m = (dL l : Nat) := by
  rcases h2 with h2 | ⟨h2, rfl⟩
  · obtain ⟨c, hc, rfl⟩ := List.mem_map.mp h2
    have a := dL_ge hc
    have b : dL l ≤ dT c := dL_le.mpr fun d hd => by
      have := h1 _ (List.mem_map.mpr ⟨d, hd, rfl⟩)
      omega
    omega
  · cases l with
    | nil => simp [dL, toL, depthL]
    | cons a r => simp at h2
theorem iteFd {b : Bool} {A B : Prop} (h : b = false) (hB : B) : if b = true then A else B := by rw [h]; exact iteF hB
theorem iteTd {b : Bool} {A B : Prop} (h : b = true) (hA : A) : if b = true then A else B := by rw [h]; exact iteT hA
theorem hu8_of {A : Around} {k : Nat} (hr : Room k A) : A.units + 8 < cLine := Nat.lt_of_le_of_lt (Nat.add_le_add_left (by decide : 8 ≤ 64) _) hr.units
section
variable {P : Program} {w : World} {K : PySem.W.Frag} {mg : Str → Option Value} {base : Heap} {f : Addr} {fd : FuncData}
theorem scDe : FnScope ["_law_parts"] ["_law_parts"] (defScope sDeep) := ⟨rfl, rfl, rfl, by decide +kernel, rfl, by decide +kernel, by decide +kernel⟩
theorem ok_deep (Fn : Fun K "_law_deep" "_law_deep" sDeep f fd) (T : Txt mg) : FnOk P w K mg base CX0 1 f fd ["_law_parts"] spDeep := by
  refine Fn.ok scDe (fun vs H Q E h => ?_) (fun cdv A outer s H vs Q E hr h => ?_)
  · obtain ⟨p, xs, cs, rfl, _⟩ := h
    rfl
  obtain ⟨p, xs, cs, rfl, hp, hT, hl, q⟩ := h
  refine ⟨_, pss_one (ps_ret (pe_op op_add pe_int (pe_callBK (call_max_dflt rfl) rfl T.max PyProof.Rows.boot_max (pa_cons
    (pe_lcG (caps := []) ["_law_part"] rfl (pi_list (pv 0)) ⟨rfl, by decide +kernel, by decide +kernel, rfl, .nil, rfl, rfl, rfl⟩
      (fun s H ex => pg_name (X := cxLG _ _ _ _ s H ex) (i := 0) (nd1 _) rfl (Or.inl rfl) (.inr rfl)) (fun s H ex => pif_nil)
      (fun s H ex => pe_ix (X := cxLG _ _ _ _ s H ex) (ix_tupK (K := K) rfl) (pe_var (X := cxLG _ _ _ _ s H ex) (i := 0) rfl (Or.inl rfl)) pe_int (fun _ _ => rfl))) pa_nil) (pk_cons pe_int pk_nil)))), ?_⟩
  refine ⟨_, rfl, p, rfl, ⟨_, SqL.of hp⟩, fun D hD => ?_⟩
  have len : cs.length = xs.length := isTL_len hT
  refine lcg_listR (K := K) (a := p) (xs := xs) (fun i σ H2 => ∃ u, σ = [u] ∧ Same H H2 ∧ H2 D = some (.lst (((cs.take i).map (fun c => ((dT c : Nat) : Int))).map V.int)))
    ⟨none, rfl, same_new hD _, upd_same⟩ (fun i σ H2 _ ⟨_, _, s2, _⟩ => SqL.of (s2 _ _ hp)) ?_ ?_
  · rintro i x σ H2 hi ⟨u, rfl, s2, h2⟩
    obtain ⟨c, hc, hC⟩ := isTL_get hT hi
    obtain ⟨a, ys, rfl, ha⟩ := isT_dep hC
    refine ⟨_, rfl, a, _, _, _, rfl, rfl, SqT.of (s2 _ _ ha), at0, _, h2, ?_, _, rfl, same_upd s2 hD _, ?_⟩
    · rw [List.length_map, List.length_map, List.length_take]
      exact small1000 (by omega)
    · rw [upd_same, take_snoc hc, List.map_append, List.map_append]; rfl
  · rintro σ H2 ⟨u, rfl, s2, h2⟩
    rw [← len, List.take_length] at h2
    refine ⟨D, _, _, rfl, rfl, SqL.of h2, fun m hm1 hm2 => ?_⟩
    have e := dL_max hm1 hm2
    refine ⟨_, _, rfl, rfl, ?_⟩
    have e2 : (1 : Int) + m = ((dL cs + 1 : Nat) : Int) := by omega
    show Q (.int (1 + m)) H2
    rw [e2]
    exact q H2 s2
theorem scCe : FnScope ["_law_tree_here", "_law_found", "_law_part"] ["_law_tree_here"] (defScope sCells) := ⟨rfl, rfl, rfl, by decide +kernel, rfl, by decide +kernel, by decide +kernel⟩
theorem cL_take {l : List Tr} (i : Nat) : (cL (l.take i)).length ≤ (cL l).length := by
  have := cL_app (l.take i) (l.drop i)
  rw [List.take_append_drop] at this
  rw [this, List.length_append]; omega
theorem ok_cells (Fn : Fun K "_law_cells" "_law_cells" sCells f fd) (bd : Binds K fd ["_law_tree_here"] []) (kp : PySem.W.keepIn K (.ref f) = true) (mm : mg "_law_cells" = some (.ref f)) : ∀ d, FnOk P w K mg base CX0 (1 + d) f fd ["_law_tree_here"] (spCells d)
  | 0 => by
    refine ⟨fun vs H Q E h => ?_, fun A outer s H args us vs Q E hr e0 hb r h => ?_⟩
    · obtain ⟨v, t, rfl, _⟩ := h
      rfl
    · obtain ⟨v, t, _, _, hd, _⟩ := h
      have := dT_pos t
      exact absurd hd (by omega)
  | d + 1 => by
    have ih := ok_cells Fn bd kp mm d
    refine Fn.ok (k := 1 + d) scCe (fun vs H Q E h => ?_) (fun cdv A outer s H vs Q E hr h => ?_)
    · obtain ⟨v, t, rfl, _⟩ := h
      rfl
    obtain ⟨v, t, rfl, hT, hd, hl, q⟩ := h
    refine ⟨_, pss_cons (ps_if (pt_cmpR op_eq (pe_ix ix_tup (pv 0) pe_int (fun _ _ => rfl)) pe_str (nomark _)) (pss_one (ps_ret (pe_lst pa_nil))) pss_nil)
      (pss_cons (ps_if (pt_cmpR op_eq (pe_ix ix_tup (pv 0) pe_int (fun _ _ => rfl)) pe_str (nomark _)) (pss_one (ps_ret (pe_lst (pa_cons (pe_ix ix_tup (pv 0) pe_int (fun _ _ => rfl)) (pa_cons (pe_ix ix_tup (pv 0) pe_int (fun _ _ => rfl)) pa_nil))))) pss_nil)
      (pss_cons (ps_if (pt_cmpR op_eq (pe_ix ix_tup (pv 0) pe_int (fun _ _ => rfl)) pe_str (nomark _)) (pss_one (ps_ret (pe_call ih hr rfl mm kp bd .nil pass0 (pa_cons (pe_ix ix_tup (pv 0) pe_int (fun _ _ => rfl)) pa_nil)))) pss_nil)
      (pss_cons (ps_if (pt_cmpR op_eq (pe_ix ix_tup (pv 0) pe_int (fun _ _ => rfl)) pe_str (nomark _)) (pss_one (ps_ret (pe_op op_cat (pe_call ih hr rfl mm kp bd .nil pass0 (pa_cons (pe_ix ix_tup (pv 0) pe_int (fun _ _ => rfl)) pa_nil)) (pe_call ih hr rfl mm kp bd .nil pass0 (pa_cons (pe_ix ix_tup (pv 0) pe_int (fun _ _ => rfl)) pa_nil))))) pss_nil)
      (pss_cons (ps_set (i := 1) scCe.nd rfl (Or.inl rfl) (pe_lst pa_nil))
      (pss_cons (ps_for PassesOwn.never rfl (pi_list (pe_ix ix_tup (pv 0) pe_int (fun _ _ => rfl))) (pg_name (i := 2) scCe.nd rfl (Or.inl rfl))
        (pss_one (ps_set (i := 1) scCe.nd rfl (Or.inl rfl) (pe_op op_cat (pv 1) (pe_call ih hr rfl mm kp bd .nil pass0 (pa_cons (pv 2) pa_nil))))))
      (pss_one (ps_ret (pv 1)))))))), ?_⟩
    cases t with
    | truth b =>
      simp only [IsT] at hT
      obtain ⟨a, rfl, ha⟩ := hT
      have ha' := SqT.of (K := K) ha
      refine ⟨_, rfl, a, _, _, _, rfl, rfl, ha', rfl, rfl, _, rfl, ?_⟩
      refine iteTd (by decide +kernel) ⟨small (by simp), fun r hr' => ?_⟩
      exact q r _ (same_new hr' _) upd_same
    | same k1 k2 =>
      simp only [IsT] at hT
      obtain ⟨a, rfl, ha⟩ := hT
      have ha' := SqT.of (K := K) ha
      refine ⟨_, rfl, a, _, _, _, rfl, rfl, ha', rfl, rfl, _, rfl, ?_⟩
      refine iteFd (by decide +kernel) ?_
      refine ⟨_, rfl, a, _, _, _, rfl, rfl, ha', rfl, rfl, _, rfl, ?_⟩
      refine iteTd (by decide +kernel) ?_
      refine ⟨_, rfl, a, _, _, _, rfl, rfl, ha', rfl, _, rfl, a, _, _, _, rfl, rfl, ha', rfl, small (by simp), fun r hr' => ?_⟩
      exact q r _ (same_new hr' _) upd_same
    | opp c =>
      simp only [IsT] at hT
      obtain ⟨a, u, rfl, ha, hu⟩ := hT
      have ha' := SqT.of (K := K) ha
      rw [dT_opp] at hd
      rw [cT_opp] at hl q
      refine ⟨_, rfl, a, _, _, _, rfl, rfl, ha', rfl, rfl, _, rfl, ?_⟩
      refine iteFd (by decide +kernel) ?_
      refine ⟨_, rfl, a, _, _, _, rfl, rfl, ha', rfl, rfl, _, rfl, ?_⟩
      refine iteFd (by decide +kernel) ?_
      refine ⟨_, rfl, a, _, _, _, rfl, rfl, ha', rfl, rfl, _, rfl, ?_⟩
      refine iteTd (by decide +kernel) ?_
      exact ⟨_, rfl, a, _, _, _, rfl, rfl, ha', rfl, u, c, rfl, hu, by omega, hl, fun r H' s' h' => q r H' s' h'⟩
    | two c =>
      simp only [IsT] at hT
      obtain ⟨a, u, rfl, ha, hu⟩ := hT
      have ha' := SqT.of (K := K) ha
      rw [dT_two] at hd
      rw [cT_two] at hl q
      rw [List.length_append] at hl
      refine ⟨_, rfl, a, _, _, _, rfl, rfl, ha', rfl, rfl, _, rfl, ?_⟩
      refine iteFd (by decide +kernel) ?_
      refine ⟨_, rfl, a, _, _, _, rfl, rfl, ha', rfl, rfl, _, rfl, ?_⟩
      refine iteFd (by decide +kernel) ?_
      refine ⟨_, rfl, a, _, _, _, rfl, rfl, ha', rfl, rfl, _, rfl, ?_⟩
      refine iteFd (by decide +kernel) ?_
      refine ⟨_, rfl, a, _, _, _, rfl, rfl, ha', rfl, rfl, _, rfl, ?_⟩
      refine iteTd (by decide +kernel) ?_
      refine ⟨_, rfl, a, _, _, _, rfl, rfl, ha', rfl, u, c, rfl, hu, by omega, by omega, fun r1 H1 s1 h1 => ?_⟩
      refine ⟨_, rfl, a, _, _, _, rfl, rfl, SqT.of (s1 _ _ ha), rfl, u, c, rfl, hu.keep s1, by omega, by omega, fun r2 H2 s2 h2 => ?_⟩
      refine ⟨r1, r2, _, _, rfl, rfl, s2 _ _ h1, h2, by rw [List.length_map]; exact small (by omega), fun r3 h3 => ?_⟩
      refine q r3 _ (s1.trans (s2.trans (same_new h3 _))) ?_
      rw [upd_same, List.map_append]
    | all l =>
      simp only [IsT] at hT
      obtain ⟨a, p, xs, rfl, ha, hp, hTL⟩ := hT
      have ha' := SqT.of (K := K) ha
      rw [dT_all] at hd
      rw [cT_all] at hl q
      refine ⟨_, rfl, a, _, _, _, rfl, rfl, ha', rfl, rfl, _, rfl, ?_⟩
      refine iteFd (by decide +kernel) ?_
      refine ⟨_, rfl, a, _, _, _, rfl, rfl, ha', rfl, rfl, _, rfl, ?_⟩
      refine iteFd (by decide +kernel) ?_
      refine ⟨_, rfl, a, _, _, _, rfl, rfl, ha', rfl, rfl, _, rfl, ?_⟩
      refine iteFd (by decide +kernel) ?_
      refine ⟨_, rfl, a, _, _, _, rfl, rfl, ha', rfl, rfl, _, rfl, ?_⟩
      refine iteFd (by decide +kernel) ?_
      refine ⟨small (by simp), fun fa hfa => ?_⟩
      have w0 := same_new hfa (.lst [])
      refine ⟨_, rfl, a, _, _, _, rfl, rfl, SqT.of (w0 _ _ ha), rfl, p, rfl, ⟨_, SqL.of (w0 _ _ hp)⟩, for_list (K := K) (a := p) (xs := xs) (fun i σ H2 => ∃ (f2 : Addr) (u : Option V), σ = [some (.ref a), some (.ref f2), u] ∧ Same H H2 ∧ H2 f2 = some (.lst ((cL (l.take i)).map kV)))
        ⟨fa, none, rfl, w0, by rw [upd_same, List.take_zero, cL_nil]; rfl⟩ (fun i σ H2 _ ⟨_, _, _, s2, _⟩ => SqL.of (s2 _ _ hp)) ?_ ?_⟩
      · rintro i x σ H2 hi ⟨f2, u, rfl, s2, h2⟩
        obtain ⟨c, hc, hC⟩ := isTL_get hTL hi
        have cm := List.mem_of_getElem? hc
        have l1 := cL_len_mem cm
        have l2 := cL_take (l := l) i
        refine ⟨_, rfl, _, rfl, x, c, rfl, hC.keep s2, Nat.le_trans (dL_ge cm) (by omega), by omega, fun r H3 s3 h3 => ?_⟩
        refine ⟨f2, r, _, _, rfl, rfl, s3 _ _ h2, h3, by rw [List.length_map, List.length_map]; exact small (by omega), fun r3 h3' => ?_⟩
        refine ⟨r3, _, rfl, s2.trans (s3.trans (same_new h3' _)), ?_⟩
        rw [upd_same, take_snoc hc, cL_app, cL_cons, cL_nil, List.append_nil, List.map_append]
      · rintro σ H2 ⟨f2, u, rfl, s2, h2⟩
        rw [← isTL_len hTL, List.take_length] at h2
        exact ⟨_, rfl, q f2 H2 s2 h2⟩
    | one l =>
      simp only [IsT] at hT
      obtain ⟨a, p, xs, rfl, ha, hp, hTL⟩ := hT
      have ha' := SqT.of (K := K) ha
      rw [dT_one] at hd
      rw [cT_one] at hl q
      refine ⟨_, rfl, a, _, _, _, rfl, rfl, ha', rfl, rfl, _, rfl, ?_⟩
      refine iteFd (by decide +kernel) ?_
      refine ⟨_, rfl, a, _, _, _, rfl, rfl, ha', rfl, rfl, _, rfl, ?_⟩
      refine iteFd (by decide +kernel) ?_
      refine ⟨_, rfl, a, _, _, _, rfl, rfl, ha', rfl, rfl, _, rfl, ?_⟩
      refine iteFd (by decide +kernel) ?_
      refine ⟨_, rfl, a, _, _, _, rfl, rfl, ha', rfl, rfl, _, rfl, ?_⟩
      refine iteFd (by decide +kernel) ?_
      refine ⟨small (by simp), fun fa hfa => ?_⟩
      have w0 := same_new hfa (.lst [])
      refine ⟨_, rfl, a, _, _, _, rfl, rfl, SqT.of (w0 _ _ ha), rfl, p, rfl, ⟨_, SqL.of (w0 _ _ hp)⟩, for_list (K := K) (a := p) (xs := xs) (fun i σ H2 => ∃ (f2 : Addr) (u : Option V), σ = [some (.ref a), some (.ref f2), u] ∧ Same H H2 ∧ H2 f2 = some (.lst ((cL (l.take i)).map kV)))
        ⟨fa, none, rfl, w0, by rw [upd_same, List.take_zero, cL_nil]; rfl⟩ (fun i σ H2 _ ⟨_, _, _, s2, _⟩ => SqL.of (s2 _ _ hp)) ?_ ?_⟩
      · rintro i x σ H2 hi ⟨f2, u, rfl, s2, h2⟩
        obtain ⟨c, hc, hC⟩ := isTL_get hTL hi
        have cm := List.mem_of_getElem? hc
        have l1 := cL_len_mem cm
        have l2 := cL_take (l := l) i
        refine ⟨_, rfl, _, rfl, x, c, rfl, hC.keep s2, Nat.le_trans (dL_ge cm) (by omega), by omega, fun r H3 s3 h3 => ?_⟩
        refine ⟨f2, r, _, _, rfl, rfl, s3 _ _ h2, h3, by rw [List.length_map, List.length_map]; exact small (by omega), fun r3 h3' => ?_⟩
        refine ⟨r3, _, rfl, s2.trans (s3.trans (same_new h3' _)), ?_⟩
        rw [upd_same, take_snoc hc, cL_app, cL_cons, cL_nil, List.append_nil, List.map_append]
      · rintro σ H2 ⟨f2, u, rfl, s2, h2⟩
        rw [← isTL_len hTL, List.take_length] at h2
        exact ⟨_, rfl, q f2 H2 s2 h2⟩
end
end K12
set_option maxHeartbeats 4000000
namespace K12
open PySem L2 CD
section
variable {P : Program} {w : World} {K : PySem.W.Frag} {mg : Str → Option Value} {base : Heap} {f : Addr} {fd : FuncData}
/-! the same rules behind a wrapping, for written lists of written tuples -/
structure PEw (X : Cx) (e : Expr) (t : TE) : Prop where
  h : PE X e t
structure PAw (X : Cx) (es : List Expr) (t : TA) : Prop where
  h : PA X es t
theorem paw_nil {X : Cx} : PAw X [] tNil := ⟨pa_nil⟩
theorem paw_cons {X : Cx} {e : Expr} {es : List Expr} {te : TE} {t : TA} (he : PEw X e te) (hr : PAw X es t) (hs : starEach (e :: es) X.env = (false, eval e X.env) :: starEach es X.env := by rfl) : PAw X (e :: es) (tCons te t) := ⟨pa_cons he.h hr.h hs⟩
theorem pew_tup {X : Cx} {es : List Expr} {t : TA} {k : Nat} {pos : Pos} (h : PAw X es t) : PEw X (.Tuple es k pos) (tTup t) := ⟨pe_tup h.h⟩
theorem pew_lst {X : Cx} {es : List Expr} {t : TA} {pos : Pos} (h : PAw X es t) : PEw X (.List es pos) (tLst t) := ⟨pe_lst h.h⟩
theorem pew_int {X : Cx} {i j pos} : PEw X (.Constant (.int i) j pos) (tC (.int i)) := ⟨pe_int⟩
theorem pew_str {X : Cx} {i j pos} : PEw X (.Constant (.str i) j pos) (tC (.str i)) := ⟨pe_str⟩
theorem pew_bl {X : Cx} {i j pos} : PEw X (.Constant (.bool i) j pos) (tC (.bl i)) := ⟨pe_bl⟩
structure PSsw (X : Cx) (ss : List Stmt) (t : TS) : Prop where
  h : PSs X ss t
theorem pssw_set {X : Cx} {i : Nat} {x : Str} {e : Expr} {te : TE} {pos' pos : Pos} {rest : List Stmt} {t : TS} (hN : X.N.Nodup) (hi : X.N[i]? = some x) (hx : Loc X.env.scope x) (he : PEw X e te) (hr : PSs X rest t) (hs : swapsWith e (some (.Name x pos')) pos.line X.env = pure false := by rfl) (hf : X.fn x = true ∨ X.env.scope.names.lookup x = some .local := by first | exact .inl rfl | exact .inr rfl | assumption) :
    PSsw X (.Assign [.Name x pos'] e pos :: rest) (tSeq (tAsg te (gName i)) t) := ⟨pss_cons (ps_set hN hi hx he.h hs hf) hr⟩
theorem ps_ifw {X : Cx} {test : Expr} {body els : List Stmt} {tt : TT} {tb te : TS} {pos : Pos} (ht : PT X test tt) (hb : PSsw X body tb) (he : PSs X els te) : PS X (.If test body els pos) (tIfS tt tb te) := ps_if ht hb.h he
theorem star_tup {es r : List Expr} {k : Nat} {pos : Pos} {env : Env} : starEach (.Tuple es k pos :: r) env = (false, eval (.Tuple es k pos) env) :: starEach r env := rfl
theorem scGr : FnScope ["_law_stack", "_law_cell", "_law_pool_here", "_law_way", "_law_many", "_law_parts", "_law_some"] ["_law_stack", "_law_cell", "_law_pool_here"] (defScope sGrown) := ⟨rfl, rfl, rfl, by decide +kernel, rfl, by decide +kernel, by decide +kernel⟩
theorem at4 (z : Int) (a b c d : V) : (z % 4 = 0 ∧ atI [a, b, c, d] (z % 4) = some a) ∨ (z % 4 = 1 ∧ atI [a, b, c, d] (z % 4) = some b) ∨ (z % 4 = 2 ∧ atI [a, b, c, d] (z % 4) = some c) ∨ (z % 4 = 3 ∧ atI [a, b, c, d] (z % 4) = some d) := by
  have h : z % 4 = 0 ∨ z % 4 = 1 ∨ z % 4 = 2 ∨ z % 4 = 3 := by omega
  rcases h with h | h | h | h
  · exact .inl ⟨h, by rw [h]; rfl⟩
  · exact .inr (.inl ⟨h, by rw [h]; rfl⟩)
  · exact .inr (.inr (.inl ⟨h, by rw [h]; rfl⟩))
  · exact .inr (.inr (.inr ⟨h, by rw [h]; rfl⟩))
def spGrown : Sp := fun args H Q _ => ∃ (st p : Addr) (c : Int) (xs : List V) (cs : List Tr) (m : Nat) (names : List Str) (vals : List Int), args = [.ref st, .int c, .ref p] ∧ H st = some (.lst xs) ∧ IsTL H cs xs ∧ Good (poolK names vals) m cs ∧ m ≤ 100 ∧ H p = some (.lst ((poolK names vals).map kV)) ∧ PoolOk names vals ∧
  ∀ (r : Addr) (H' : Hp) (xs' : List V) (cs' : List Tr), Same H H' → H' r = some (.lst xs') → IsTL H' cs' xs' → Good (poolK names vals) (m + 1) cs' → Q (.ref r) H'
theorem ok_grown (Fn : Fun K "_law_grown" "_law_grown" sGrown f fd) (T : Txt mg) (C0 : Cal P w K mg base "_law_deep" 1 ["_law_parts"] spDeep) (C1 : Cal P w K mg base "_law_cells" 19 ["_law_tree_here"] (spCells 18)) : FnOk P w K mg base CX0 20 f fd ["_law_stack", "_law_cell", "_law_pool_here"] spGrown := by
  obtain ⟨f0, d0, G0, b0, k0, m0⟩ := C0
  obtain ⟨f1, d1, G1, b1, k1, m1⟩ := C1
  refine Fn.ok scGr (fun vs H Q E h => ?_) (fun cdv A outer s H vs Q E hr h => ?_)
  · obtain ⟨st, p, c, xs, cs, m, names, vals, rfl, _⟩ := h
    rfl
  obtain ⟨st, p, c, xs, cs, m, names, vals, rfl, hst, hT, hG, hm, hp, hP, q⟩ := h
  have hu := hu8_of hr
  have hr1 : Room 1 _ := hr.mono (by decide)
  have len : cs.length = xs.length := isTL_len hT
  have csl : cs.length ≤ 800 := Nat.le_trans (nL_len cs) (Nat.le_trans hG.nd (Nat.le_trans hm (by decide)))
  refine ⟨_, pss_cons (ps_set (i := 3) scGr.nd rfl (Or.inl rfl) (pe_op op_mod (pv 1) pe_int))
    (pss_cons (ps_set (i := 4) scGr.nd rfl (Or.inl rfl) (pe_op op_add pe_int (pe_op op_mod (pe_op op_fdiv (pv 1) pe_int) pe_int)))
    (pss_cons (ps_set (i := 5) scGr.nd rfl (Or.inl rfl) (pe_slice sl_list (pv 0) (po_some (pe_callB (call_max2 rfl) rfl T.max PyProof.Rows.boot_max (pa_cons pe_int (pa_cons (pe_op op_sub (pe_callB call_len_seq rfl T.len PySem.boot_len (pa_cons (pv 0) pa_nil)) (pv 4)) pa_nil)))) po_none))
    (pss_cons (ps_ifw (pt_cmpR op_eq (pv 3) pe_int (nomark _))
      (pssw_set (i := 6) scGr.nd rfl (Or.inl rfl) (pew_lst (paw_cons (pew_tup (paw_cons pew_int (paw_cons pew_str (paw_cons pew_bl paw_nil)))) (paw_cons (pew_tup (paw_cons pew_int (paw_cons pew_str (paw_cons pew_bl paw_nil)))) (paw_cons (pew_tup (paw_cons pew_int (paw_cons pew_str (paw_cons (pew_lst paw_nil) paw_nil)))) (paw_cons (pew_tup (paw_cons pew_int (paw_cons pew_str (paw_cons (pew_lst paw_nil) paw_nil)))) paw_nil star_tup) star_tup) star_tup) star_tup))
      (pss_one (ps_ret (pe_op op_cat (pv 0) (pe_lst (pa_cons (pe_ix ix_list (pv 6) (pe_op op_mod (pe_op op_fdiv (pv 1) pe_int) pe_int) (fun _ _ => rfl)) pa_nil)))))) pss_nil)
    (pss_cons (ps_if (PW.pt (pw_or (pt_cmpR op_lt (pv 3) pe_int (nomark _)) (pw_or (pt_cmpR (op_eq_nil hu) (pv 5) (pe_lst pa_nil) (nomark _)) (pw_or1 (pt_cmpR op_gt (pe_call G0 hr1 rfl m0 k0 b0 .nil pass0 (pa_cons (pv 5) pa_nil)) pe_int (nomark _))))))
      (pss_one (ps_ret (pe_op op_cat (pv 0) (pe_lst (pa_cons (pe_tup (pa_cons pe_int (pa_cons pe_str (pa_cons (pe_ix ix_list (pv 2) (pe_op op_mod (pe_op op_fdiv (pv 1) pe_int) pe_int) (fun _ _ => rfl)) (pa_cons (pe_ix ix_list (pv 2) (pe_op op_mod (pe_op op_fdiv (pv 1) pe_int) pe_int) (fun _ _ => rfl)) pa_nil))))) pa_nil star_tup))))) pss_nil)
    (pss_cons (ps_if (PW.pt (pw_and (pt_cmpR op_eq (pv 3) pe_int (nomark _)) (pw_and (pt_cmpR op_eq (pe_op op_mod (pe_op op_fdiv (pv 1) pe_int) pe_int) pe_int (nomark _)) (pw_and (pt_cmpR op_lt (pe_ix ix_tup (pe_ix ix_list (pv 0) (pe_un un_neg pe_int) (fun _ _ => rfl)) pe_int (fun _ _ => rfl)) pe_int (nomark _)) (pw_and1 (pt_cmpR op_lt (pe_callB call_len_seq rfl T.len PySem.boot_len (pa_cons (pe_call G1 hr rfl m1 k1 b1 .nil pass0 (pa_cons (pe_ix ix_list (pv 0) (pe_un un_neg pe_int) (fun _ _ => rfl)) pa_nil)) pa_nil)) pe_int (nomark _)))))))
      (pss_one (ps_ret (pe_op op_cat (pe_slice sl_list (pv 0) po_none (po_some (pe_un un_neg pe_int))) (pe_lst (pa_cons (pe_tup (pa_cons (pe_op op_add pe_int (pe_ix ix_tup (pe_ix ix_list (pv 0) (pe_un un_neg pe_int) (fun _ _ => rfl)) pe_int (fun _ _ => rfl))) (pa_cons pe_str (pa_cons (pe_ix ix_list (pv 0) (pe_un un_neg pe_int) (fun _ _ => rfl)) pa_nil)))) pa_nil))))) pss_nil)
    (pss_cons (ps_if (pt_cmpR op_eq (pv 3) pe_int (nomark _))
      (pss_one (ps_ret (pe_op op_cat (pe_slice sl_list (pv 0) po_none (po_some (pe_un un_neg pe_int))) (pe_lst (pa_cons (pe_tup (pa_cons (pe_op op_add pe_int (pe_ix ix_tup (pe_ix ix_list (pv 0) (pe_un un_neg pe_int) (fun _ _ => rfl)) pe_int (fun _ _ => rfl))) (pa_cons pe_str (pa_cons (pe_ix ix_list (pv 0) (pe_un un_neg pe_int) (fun _ _ => rfl)) pa_nil)))) pa_nil))))) pss_nil)
    (pss_one (ps_ret (pe_op op_cat (pe_slice sl_list (pv 0) po_none (po_some (pe_op op_sub (pe_callB call_len_seq rfl T.len PySem.boot_len (pa_cons (pv 0) pa_nil)) (pe_callB call_len_seq rfl T.len PySem.boot_len (pa_cons (pv 5) pa_nil)))))
      (pe_lst (pa_cons (pe_tup (pa_cons (pe_call G0 hr1 rfl m0 k0 b0 .nil pass0 (pa_cons (pv 5) pa_nil)) (pa_cons (pe_ix ix_list (pe_lst (pa_cons pe_str (pa_cons pe_str pa_nil))) (pe_op op_sub (pv 3) pe_int) (fun _ _ => rfl)) (pa_cons (pv 5) pa_nil)))) pa_nil))))))))))), ?_⟩
  -- a tree more
  have fin : ∀ (b : Addr) (ys : List V) (ds : List Tr) (t : Tr) (v : V) (H5 : Hp), Same H H5 → H5 b = some (.lst ys) → IsTL H5 ds ys → IsT H5 t v → Good (poolK names vals) (m + 1) (ds ++ [t]) → ∀ l, H5 l = none → rCat (.ref b) (.ref l) (upd H5 l (.lst [v])) Q := by
    intro b ys ds t v H5 s5 hb hD ht g l hl
    have wl := same_new hl (.lst [v])
    refine ⟨b, l, ys, [v], rfl, rfl, wl _ _ hb, upd_same, ?_, fun r hr' => ?_⟩
    · have h1 := nL_len (ds ++ [t])
      have h2 := g.nd
      rw [List.length_append, List.length_singleton, isTL_len hD] at h1
      rw [List.length_singleton]
      exact small (by omega)
    · have wr := same_new hr' (.lst (ys ++ [v]))
      exact q r _ _ _ (s5.trans (wl.trans wr)) upd_same (isTL_snoc (hD.keep (wl.trans wr)) (ht.keep (wl.trans wr))) g
  have a0 : 0 ≤ c / 7 % 4 := Int.emod_nonneg _ (by decide)
  have a1 : c / 7 % 4 < 4 := Int.emod_lt_of_pos _ (by decide)
  have w0 : 0 ≤ c % 7 := Int.emod_nonneg _ (by decide)
  have w1 : c % 7 < 7 := Int.emod_lt_of_pos _ (by decide)
  refine ⟨_, rfl, _, _, rfl, rfl, (by show (0 : Int) < 7; decide), ?_⟩
  refine ⟨_, rfl, _, _, rfl, rfl, ⟨by decide, by decide⟩, _, _, rfl, rfl, (by show (0 : Int) < 4; decide), _, _, rfl, rfl, ?_⟩
  refine ⟨_, rfl, _, rfl, st, xs, rfl, .inl (SqL.of hst), _, rfl, _, _, rfl, rfl, _, _, rfl, _, rfl, st, xs, rfl, SqL.of hst, fun pr hpr => ?_⟩
  have ek : (if (xs.length : Int) - (1 + c / 7 % 4) > 0 then (xs.length : Int) - (1 + c / 7 % 4) else 0) = ((xs.length - (1 + c / 7 % 4).toNat : Nat) : Int) := by
    split <;> omega
  rw [ek, cut_from]
  have hmany : 1 ≤ (1 + c / 7 % 4).toNat := by omega
  generalize (1 + c / 7 % 4).toNat = many at hmany
  obtain ⟨k, hk⟩ : ∃ k, k = xs.length - many := ⟨_, rfl⟩
  rw [← hk]
  have wp := same_new hpr (.lst (xs.drop k))
  have hpr1 := upd_same (H := H) (a := pr) (o := .lst (xs.drop k))
  generalize upd H pr (.lst (xs.drop k)) = H1 at wp hpr1
  have hst1 := wp _ _ hst
  have hT1 := hT.keep wp
  have hp1 := wp _ _ hp
  have hD1 : IsTL H1 (cs.drop k) (xs.drop k) := isTL_drop k hT1
  refine ⟨_, rfl, rfl, _, rfl, ?_⟩
  rw [dec_int]
  have fin1 : ∀ (t : Tr) (v : V) (H5 : Hp), Same H1 H5 → IsT H5 t v → dT t ≤ 18 → nT t ≤ 1 → (∀ k ∈ cT t, k ∈ poolK names vals) → (cT t).length ≤ 10 → ∀ l, H5 l = none → rCat (.ref st) (.ref l) (upd H5 l (.lst [v])) Q := fun t v H5 s5 ht i1 i2 i3 i4 => fin st xs cs t v H5 (wp.trans s5) (s5 _ _ hst1) (hT1.keep s5) ht (hG.snoc i1 i2 i3 i4)
  refine ite2 (fun h7 => ?_) (fun h7 => ?_)
  · -- one of the four
    refine ⟨small (by simp), fun p1 h1 => ⟨small (by simp), fun p2 h2 => ⟨small (by simp), fun e3 h3 => ⟨small (by simp), fun p3 h4 => ⟨small (by simp), fun e4 h5 => ⟨small (by simp), fun p4 h6 => ⟨small (by simp), fun L h7 => ?_⟩⟩⟩⟩⟩⟩⟩
    have y1 := same_new h1 (.tup [.int 1, .str "truth", .bl true])
    have y2 := same_new h2 (.tup [.int 1, .str "truth", .bl false])
    have y3 := same_new h3 (.lst [])
    have y4 := same_new h4 (.tup [.int 1, .str "all", .ref e3])
    have y5 := same_new h5 (.lst [])
    have y6 := same_new h6 (.tup [.int 1, .str "one", .ref e4])
    have y7 := same_new h7 (.lst [.ref p1, .ref p2, .ref p3, .ref p4])
    have z6 := y6.trans y7
    have z5 := y5.trans z6
    have z4 := y4.trans z5
    have z3 := y3.trans z4
    have z2 := y2.trans z3
    have z1 := y1.trans z2
    have g1 := z2 _ _ (upd_same (H := H1) (a := p1) (o := .tup [.int 1, .str "truth", .bl true]))
    have g2 := z3 _ _ (upd_same (a := p2) (o := .tup [.int 1, .str "truth", .bl false]))
    have g3 := z4 _ _ (upd_same (a := e3) (o := .lst []))
    have g4 := z5 _ _ (upd_same (a := p3) (o := .tup [.int 1, .str "all", .ref e3]))
    have g5 := z6 _ _ (upd_same (a := e4) (o := .lst []))
    have g6 := y7 _ _ (upd_same (a := p4) (o := .tup [.int 1, .str "one", .ref e4]))
    have g7 := upd_same (H := upd (upd (upd (upd (upd (upd H1 p1 (.tup [.int 1, .str "truth", .bl true])) p2 (.tup [.int 1, .str "truth", .bl false])) e3 (.lst [])) p3 (.tup [.int 1, .str "all", .ref e3])) e4 (.lst [])) p4 (.tup [.int 1, .str "one", .ref e4])) (a := L) (o := .lst [.ref p1, .ref p2, .ref p3, .ref p4])
    generalize upd (upd (upd (upd (upd (upd (upd H1 p1 (.tup [.int 1, .str "truth", .bl true])) p2 (.tup [.int 1, .str "truth", .bl false])) e3 (.lst [])) p3 (.tup [.int 1, .str "all", .ref e3])) e4 (.lst [])) p4 (.tup [.int 1, .str "one", .ref e4])) L (.lst [.ref p1, .ref p2, .ref p3, .ref p4]) = H8 at z1 g1 g2 g3 g4 g5 g6 g7
    refine ⟨_, rfl, _, rfl, _, rfl, _, _, rfl, rfl, ⟨by decide, by decide⟩, _, _, rfl, rfl, (by show (0 : Int) < 4; decide), ?_⟩
    rcases at4 (c / 7) (.ref p1) (.ref p2) (.ref p3) (.ref p4) with ⟨_, e⟩ | ⟨_, e⟩ | ⟨_, e⟩ | ⟨_, e⟩
    · refine ⟨L, _, _, _, rfl, rfl, SqL.of g7, e, small (by simp), fun l hl => fin1 (.truth true) _ H8 z1 ?_ (by simp [dT, toC, depth, toL, depthL]) (by simp [nT, nL]) (by simp [cT, toC, cells, toL, cellsL]) (by simp [cT, toC, cells, toL, cellsL]) l hl⟩
      simp only [IsT]; exact ⟨p1, rfl, g1⟩
    · refine ⟨L, _, _, _, rfl, rfl, SqL.of g7, e, small (by simp), fun l hl => fin1 (.truth false) _ H8 z1 ?_ (by simp [dT, toC, depth, toL, depthL]) (by simp [nT, nL]) (by simp [cT, toC, cells, toL, cellsL]) (by simp [cT, toC, cells, toL, cellsL]) l hl⟩
      simp only [IsT]; exact ⟨p2, rfl, g2⟩
    · refine ⟨L, _, _, _, rfl, rfl, SqL.of g7, e, small (by simp), fun l hl => fin1 (.all []) _ H8 z1 ?_ (by simp [dT, toC, depth, toL, depthL]) (by simp [nT, nL]) (by simp [cT, toC, cells, toL, cellsL]) (by simp [cT, toC, cells, toL, cellsL]) l hl⟩
      simp only [IsT]; exact ⟨p3, e3, [], rfl, g4, g3, by simp only [IsTL]⟩
    · refine ⟨L, _, _, _, rfl, rfl, SqL.of g7, e, small (by simp), fun l hl => fin1 (.one []) _ H8 z1 ?_ (by simp [dT, toC, depth, toL, depthL]) (by simp [nT, nL]) (by simp [cT, toC, cells, toL, cellsL]) (by simp [cT, toC, cells, toL, cellsL]) l hl⟩
      simp only [IsT]; exact ⟨p4, e4, [], rfl, g6, g5, by simp only [IsTL]⟩
  -- an atom
  obtain ⟨ky1, hk1, ex⟩ := at8 hP (c / 7)
  obtain ⟨ky2, hk2, ey⟩ := at8 hP (c / 56)
  have atom : ∀ (H5 : Hp), Same H1 H5 → ∀ (r : Addr), H5 r = none → ∀ l, (upd H5 r (.tup [.int 1, .str "same", kV ky1, kV ky2])) l = none → rCat (.ref st) (.ref l) (upd (upd H5 r (.tup [.int 1, .str "same", kV ky1, kV ky2])) l (.lst [.ref r])) Q := by
    intro H5 s5 r hr' l hl
    refine fin1 (.same ky1 ky2) (.ref r) _ (s5.trans (same_new hr' _)) ?_ (by simp [dT, toC, depth]) (by simp [nT]) ?_ (by simp [cT, toC, cells]) l hl
    · simp only [IsT]; exact ⟨r, rfl, upd_same⟩
    · intro k hk
      simp only [cT, toC, cells, List.mem_cons, List.not_mem_nil, or_false] at hk
      rcases hk with rfl | rfl
      · exact hk1
      · exact hk2
  refine ⟨_, rfl, _, _, rfl, rfl, _, rfl, ?_⟩
  refine ite2 (fun h4 => ?_) (fun h4 => ?_)
  · refine iteT ?_
    exact ⟨_, rfl, _, rfl, _, rfl, _, _, rfl, rfl, ⟨by decide, by decide⟩, _, _, rfl, rfl, (by show (0 : Int) < 8; decide), p, _, _, _, rfl, rfl, SqL.of (hp1), ex, _, rfl, _, rfl, _, _, rfl, rfl, ⟨by decide, by decide⟩, _, _, rfl, rfl, (by show (0 : Int) < 8; decide), p, _, _, _, rfl, rfl, SqL.of (hp1), ey, small (by simp), fun r hr' => ⟨small (by simp), fun l hl => atom H1 (Same.refl _) r hr' l hl⟩⟩
  refine ⟨_, rfl, small (by simp), fun e0 he0 => ⟨pr, e0, _, rfl, rfl, SqL.of ((same_new he0 _) _ _ hpr1), SqL.of upd_same, _, rfl, ?_⟩⟩
  have we := same_new he0 (.lst [])
  generalize upd H1 e0 (.lst []) = H2 at we
  cases hem : (xs.drop k).isEmpty with
  | true =>
    refine iteT (iteT ?_)
    exact ⟨_, rfl, _, rfl, _, rfl, _, _, rfl, rfl, ⟨by decide, by decide⟩, _, _, rfl, rfl, (by show (0 : Int) < 8; decide), p, _, _, _, rfl, rfl, SqL.of (we _ _ hp1), ex, _, rfl, _, rfl, _, _, rfl, rfl, ⟨by decide, by decide⟩, _, _, rfl, rfl, (by show (0 : Int) < 8; decide), p, _, _, _, rfl, rfl, SqL.of (we _ _ hp1), ey, small (by simp), fun r hr' => ⟨small (by simp), fun l hl => atom H2 (we) r hr' l hl⟩⟩
  | false =>
  refine iteF ?_
  have dl : (cs.drop k).length ≤ 900 := by rw [List.length_drop]; omega
  refine ⟨_, rfl, pr, _, cs.drop k, rfl, we _ _ hpr1, hD1.keep we, dl, fun H3 s3 => ⟨_, _, rfl, rfl, _, rfl, ?_⟩⟩
  have w3 := we.trans s3
  refine ite2 (fun h18 => ?_) (fun h18 => ?_)
  · exact ⟨_, rfl, _, rfl, _, rfl, _, _, rfl, rfl, ⟨by decide, by decide⟩, _, _, rfl, rfl, (by show (0 : Int) < 8; decide), p, _, _, _, rfl, rfl, SqL.of (w3 _ _ hp1), ex, _, rfl, _, rfl, _, _, rfl, rfl, ⟨by decide, by decide⟩, _, _, rfl, rfl, (by show (0 : Int) < 8; decide), p, _, _, _, rfl, rfl, SqL.of (w3 _ _ hp1), ey, small (by simp), fun r hr' => ⟨small (by simp), fun l hl => atom H3 (w3) r hr' l hl⟩⟩
  have d18 : dL (cs.drop k) + 1 ≤ 18 := by
    have : ¬ (18 : Int) < ((dL (cs.drop k) + 1 : Nat) : Int) := fun z => h18 (decide_eq_true z)
    omega
  have kx : k < xs.length := by
    rcases Nat.lt_or_ge k xs.length with h | h
    · exact h
    · rw [List.drop_of_length_le h] at hem; cases hem
  obtain ⟨j, hj⟩ : ∃ j, xs.length = j + 1 := ⟨xs.length - 1, by omega⟩
  have hjl : j < xs.length := by omega
  have hxj : xs[j]? = some xs[j] := List.getElem?_eq_getElem hjl
  obtain ⟨t, htj, ht1⟩ := isTL_get hT1 hxj
  have exs : xs = xs.take j ++ [xs[j]] := by
    rw [← take_snoc hxj, List.take_of_length_le (by omega)]
  have lst : atI xs (-1) = some xs[j] := by
    have := atI_last (xs.take j) xs[j]
    rwa [← exs] at this
  have edr : cs.drop j = [t] := by
    have hjc : j < cs.length := by omega
    rw [List.drop_eq_getElem_cons hjc, List.drop_of_length_le (by omega)]
    have := List.getElem?_eq_getElem hjc
    rw [htj] at this
    rw [Option.some.inj this]
  obtain ⟨a, ys, ea, hta1⟩ := isT_dep ht1
  have tmem : t ∈ cs.drop k := by
    rw [List.mem_iff_getElem?]
    exact ⟨j - k, by rw [List.getElem?_drop, show k + (j - k) = j by omega]; exact htj⟩
  have td := dL_ge tmem
  have tlen := cL_len_mem (List.mem_of_getElem? htj)
  have gln := hG.ln
  -- twice
  refine ⟨_, rfl, rfl, _, rfl, ?_⟩
  rw [dec_int]
  refine ite2 (fun hw5 => ?_) (fun hw5 => ?_)
  · refine ⟨_, rfl, _, _, rfl, rfl, ⟨by decide, by decide⟩, _, _, rfl, rfl, (by show (0 : Int) < 2; decide), rfl, _, rfl, ?_⟩
    refine ite2 (fun _ => ?_) (fun _ => ?_)
    · refine ⟨_, rfl, _, rfl, st, _, _, _, rfl, rfl, SqL.of (w3 _ _ hst1), lst, a, _, _, _, ea, rfl, SqT.of (w3 _ _ hta1), at0, _, _, rfl, rfl, _, rfl, ?_⟩
      refine ite2 (fun h17 => ?_) (fun _ => ?_)
      · refine ⟨_, rfl, _, rfl, st, _, _, _, rfl, rfl, SqL.of (w3 _ _ hst1), lst, xs[j], t, rfl, ht1.keep w3, by omega, by omega, fun rc Hc sc hc => ⟨rc, _, rfl, .inl (SqL.of hc), _, _, rfl, rfl, _, rfl, ?_⟩⟩
        refine ite2 (fun h9 => ?_) (fun _ => ?_)
        · have h17' : ((dT t : Nat) : Int) < 17 := of_decide_eq_true h17
          have h9' : (((cT t).map kV).length : Int) < 9 := of_decide_eq_true h9
          rw [List.length_map] at h9'
          have w3 := w3.trans sc
          have hst3 := w3 _ _ hst1
          have hT3 := hT1.keep w3
          have s03 := wp.trans w3
          have hta := w3 _ _ hta1
          have ht := ht1.keep w3
          refine ⟨_, rfl, _, rfl, _, rfl, st, xs, rfl, SqL.of hst3, fun ps hps => ?_⟩
          rw [cut_most (by omega), show xs.length - 1 = j by omega]
          have wps := same_new hps (.lst (xs.take j))
          have hps1 := upd_same (H := Hc) (a := ps) (o := .lst (xs.take j))
          generalize upd Hc ps (.lst (xs.take j)) = H4 at wps hps1
          refine ⟨_, rfl, _, rfl, st, _, _, _, rfl, rfl, SqL.of (wps _ _ hst3), lst, a, _, _, _, ea, rfl, SqT.of (wps _ _ hta), at0, _, _, rfl, rfl, _, rfl, _, rfl, st, _, _, _, rfl, rfl, SqL.of (wps _ _ hst3), lst, small (by simp), fun pt hpt => ⟨small (by simp), fun l hl => ?_⟩⟩
          have wpt := wps.trans (same_new hpt (.tup [.int (1 + (dT t : Nat)), .str "twice", xs[j]]))
          refine fin ps (xs.take j) (cs.take j) (.two t) (.ref pt) _ (s03.trans wpt) ((same_new hpt _) _ _ hps1) ((isTL_take j hT3).keep wpt) ?_ (hG.join (by rw [dT_two]; omega) (by rw [edr]; simp [nT, nL]) (by rw [edr, cL_cons, cL_nil, cT_two]; simp) (by rw [edr, cL_cons, cL_nil, cT_two, List.length_append, List.append_nil]; omega)) l hl
          simp only [IsT]
          refine ⟨pt, xs[j], rfl, ?_, ht.keep wpt⟩
          rw [upd_same]
          have : (1 : Int) + (dT t : Nat) = ((dT t + 1 : Nat) : Int) := by omega
          rw [this]
        · have w3 := w3.trans sc
          have hst3 := w3 _ _ hst1
          have hT3 := hT1.keep w3
          have hD3 := hD1.keep w3
          have hpr3 := w3 _ _ hpr1
          have s03 := wp.trans w3
          have hta := w3 _ _ hta1
          have ht := ht1.keep w3
          refine ⟨_, rfl, rfl, _, rfl, ?_⟩
          rw [dec_int]
          refine ite2 (fun h6 => ?_) (fun h6 => ?_)
          · -- an opposite
            refine ⟨_, rfl, _, rfl, _, rfl, st, xs, rfl, SqL.of hst3, fun ps hps => ?_⟩
            rw [cut_most (by omega), show xs.length - 1 = j by omega]
            have wps := same_new hps (.lst (xs.take j))
            have hps1 := upd_same (H := Hc) (a := ps) (o := .lst (xs.take j))
            generalize upd Hc ps (.lst (xs.take j)) = H4 at wps hps1
            refine ⟨_, rfl, _, rfl, st, _, _, _, rfl, rfl, SqL.of (wps _ _ hst3), lst, a, _, _, _, ea, rfl, SqT.of (wps _ _ hta), at0, _, _, rfl, rfl, _, rfl, _, rfl, st, _, _, _, rfl, rfl, SqL.of (wps _ _ hst3), lst, small (by simp), fun pt hpt => ⟨small (by simp), fun l hl => ?_⟩⟩
            have wpt := wps.trans (same_new hpt (.tup [.int (1 + (dT t : Nat)), .str "not", xs[j]]))
            refine fin ps (xs.take j) (cs.take j) (.opp t) (.ref pt) _ (s03.trans wpt) ((same_new hpt _) _ _ hps1) ((isTL_take j hT3).keep wpt) ?_ (hG.join (by rw [dT_opp]; omega) (by rw [edr]; simp [nT, nL]) (by rw [edr, cL_cons, cL_nil, cT_opp]; simp) (by rw [edr, cL_cons, cL_nil, cT_opp]; simp)) l hl
            simp only [IsT]
            refine ⟨pt, xs[j], rfl, ?_, ht.keep wpt⟩
            rw [upd_same]
            have : (1 : Int) + (dT t : Nat) = ((dT t + 1 : Nat) : Int) := by omega
            rw [this]
          -- an all-of, a one-of
          have ek2 : (xs.length : Int) - ((xs.drop k).length : Int) = (k : Int) := by rw [List.length_drop]; omega
          refine ⟨_, rfl, _, rfl, st, xs, rfl, .inl (SqL.of hst3), _, rfl, pr, _, rfl, .inl (SqL.of hpr3), _, _, rfl, rfl, _, rfl, st, xs, rfl, SqL.of hst3, fun ps hps => ?_⟩
          rw [ek2, cut_to]
          have wps := same_new hps (.lst (xs.take k))
          have hps1 := upd_same (H := Hc) (a := ps) (o := .lst (xs.take k))
          generalize upd Hc ps (.lst (xs.take k)) = H4 at wps hps1
          refine ⟨_, rfl, pr, _, cs.drop k, rfl, wps _ _ hpr3, hD3.keep wps, dl, fun H5 s5 => ⟨small (by simp), fun lt hlt => ?_⟩⟩
          have w5 := wps.trans (s5.trans (same_new hlt (.lst [.str "all", .str "one"])))
          have hps5 := (s5.trans (same_new hlt (.lst [.str "all", .str "one"]))) _ _ hps1
          have hlt5 := upd_same (H := H5) (a := lt) (o := .lst [.str "all", .str "one"])
          generalize upd H5 lt (.lst [.str "all", .str "one"]) = H6 at w5 hps5 hlt5
          have cw : c % 7 = 3 ∨ c % 7 = 4 := by
            have n4 : ¬ c % 7 < 3 := fun z => h4 (decide_eq_true z)
            have n6 : ¬ c % 7 = 5 := fun z => h6 (by rw [z]; rfl)
            have n7 : ¬ c % 7 = 6 := fun z => h7 (by rw [z]; rfl)
            omega
          rcases cw with e | e
          · have ei : atI [V.str "all", V.str "one"] (c % 7 - 3) = some (V.str "all") := by rw [e]; rfl
            refine ⟨_, rfl, _, _, rfl, rfl, lt, _, _, _, rfl, rfl, SqL.of hlt5, ei, _, rfl, small (by simp), fun pt hpt => ⟨small (by simp), fun l hl => ?_⟩⟩
            have wpt := w5.trans (same_new hpt (.tup [.int (dL (cs.drop k) + 1 : Nat), .str "all", .ref pr]))
            refine fin ps (xs.take k) (cs.take k) (.all (cs.drop k)) (.ref pt) _ (s03.trans wpt) ((same_new hpt _) _ _ hps5) ((isTL_take k hT3).keep wpt) ?_ (hG.join (by rw [dT_all]; omega) (by simp only [nT]) (by rw [cT_all]; exact fun _ h => h) (by rw [cT_all]; omega)) l hl
            simp only [IsT]
            exact ⟨pt, pr, xs.drop k, rfl, upd_same, wpt _ _ hpr3, hD3.keep wpt⟩
          · have ei : atI [V.str "all", V.str "one"] (c % 7 - 3) = some (V.str "one") := by rw [e]; rfl
            refine ⟨_, rfl, _, _, rfl, rfl, lt, _, _, _, rfl, rfl, SqL.of hlt5, ei, _, rfl, small (by simp), fun pt hpt => ⟨small (by simp), fun l hl => ?_⟩⟩
            have wpt := w5.trans (same_new hpt (.tup [.int (dL (cs.drop k) + 1 : Nat), .str "one", .ref pr]))
            refine fin ps (xs.take k) (cs.take k) (.one (cs.drop k)) (.ref pt) _ (s03.trans wpt) ((same_new hpt _) _ _ hps5) ((isTL_take k hT3).keep wpt) ?_ (hG.join (by rw [dT_one]; omega) (by simp only [nT]) (by rw [cT_one]; exact fun _ h => h) (by rw [cT_one]; omega)) l hl
            simp only [IsT]
            exact ⟨pt, pr, xs.drop k, rfl, upd_same, wpt _ _ hpr3, hD3.keep wpt⟩
      · have hst3 := w3 _ _ hst1
        have hT3 := hT1.keep w3
        have hD3 := hD1.keep w3
        have hpr3 := w3 _ _ hpr1
        have s03 := wp.trans w3
        have hta := w3 _ _ hta1
        have ht := ht1.keep w3
        refine ⟨_, rfl, rfl, _, rfl, ?_⟩
        rw [dec_int]
        refine ite2 (fun h6 => ?_) (fun h6 => ?_)
        · -- an opposite
          refine ⟨_, rfl, _, rfl, _, rfl, st, xs, rfl, SqL.of hst3, fun ps hps => ?_⟩
          rw [cut_most (by omega), show xs.length - 1 = j by omega]
          have wps := same_new hps (.lst (xs.take j))
          have hps1 := upd_same (H := H3) (a := ps) (o := .lst (xs.take j))
          generalize upd H3 ps (.lst (xs.take j)) = H4 at wps hps1
          refine ⟨_, rfl, _, rfl, st, _, _, _, rfl, rfl, SqL.of (wps _ _ hst3), lst, a, _, _, _, ea, rfl, SqT.of (wps _ _ hta), at0, _, _, rfl, rfl, _, rfl, _, rfl, st, _, _, _, rfl, rfl, SqL.of (wps _ _ hst3), lst, small (by simp), fun pt hpt => ⟨small (by simp), fun l hl => ?_⟩⟩
          have wpt := wps.trans (same_new hpt (.tup [.int (1 + (dT t : Nat)), .str "not", xs[j]]))
          refine fin ps (xs.take j) (cs.take j) (.opp t) (.ref pt) _ (s03.trans wpt) ((same_new hpt _) _ _ hps1) ((isTL_take j hT3).keep wpt) ?_ (hG.join (by rw [dT_opp]; omega) (by rw [edr]; simp [nT, nL]) (by rw [edr, cL_cons, cL_nil, cT_opp]; simp) (by rw [edr, cL_cons, cL_nil, cT_opp]; simp)) l hl
          simp only [IsT]
          refine ⟨pt, xs[j], rfl, ?_, ht.keep wpt⟩
          rw [upd_same]
          have : (1 : Int) + (dT t : Nat) = ((dT t + 1 : Nat) : Int) := by omega
          rw [this]
        -- an all-of, a one-of
        have ek2 : (xs.length : Int) - ((xs.drop k).length : Int) = (k : Int) := by rw [List.length_drop]; omega
        refine ⟨_, rfl, _, rfl, st, xs, rfl, .inl (SqL.of hst3), _, rfl, pr, _, rfl, .inl (SqL.of hpr3), _, _, rfl, rfl, _, rfl, st, xs, rfl, SqL.of hst3, fun ps hps => ?_⟩
        rw [ek2, cut_to]
        have wps := same_new hps (.lst (xs.take k))
        have hps1 := upd_same (H := H3) (a := ps) (o := .lst (xs.take k))
        generalize upd H3 ps (.lst (xs.take k)) = H4 at wps hps1
        refine ⟨_, rfl, pr, _, cs.drop k, rfl, wps _ _ hpr3, hD3.keep wps, dl, fun H5 s5 => ⟨small (by simp), fun lt hlt => ?_⟩⟩
        have w5 := wps.trans (s5.trans (same_new hlt (.lst [.str "all", .str "one"])))
        have hps5 := (s5.trans (same_new hlt (.lst [.str "all", .str "one"]))) _ _ hps1
        have hlt5 := upd_same (H := H5) (a := lt) (o := .lst [.str "all", .str "one"])
        generalize upd H5 lt (.lst [.str "all", .str "one"]) = H6 at w5 hps5 hlt5
        have cw : c % 7 = 3 ∨ c % 7 = 4 := by
          have n4 : ¬ c % 7 < 3 := fun z => h4 (decide_eq_true z)
          have n6 : ¬ c % 7 = 5 := fun z => h6 (by rw [z]; rfl)
          have n7 : ¬ c % 7 = 6 := fun z => h7 (by rw [z]; rfl)
          omega
        rcases cw with e | e
        · have ei : atI [V.str "all", V.str "one"] (c % 7 - 3) = some (V.str "all") := by rw [e]; rfl
          refine ⟨_, rfl, _, _, rfl, rfl, lt, _, _, _, rfl, rfl, SqL.of hlt5, ei, _, rfl, small (by simp), fun pt hpt => ⟨small (by simp), fun l hl => ?_⟩⟩
          have wpt := w5.trans (same_new hpt (.tup [.int (dL (cs.drop k) + 1 : Nat), .str "all", .ref pr]))
          refine fin ps (xs.take k) (cs.take k) (.all (cs.drop k)) (.ref pt) _ (s03.trans wpt) ((same_new hpt _) _ _ hps5) ((isTL_take k hT3).keep wpt) ?_ (hG.join (by rw [dT_all]; omega) (by simp only [nT]) (by rw [cT_all]; exact fun _ h => h) (by rw [cT_all]; omega)) l hl
          simp only [IsT]
          exact ⟨pt, pr, xs.drop k, rfl, upd_same, wpt _ _ hpr3, hD3.keep wpt⟩
        · have ei : atI [V.str "all", V.str "one"] (c % 7 - 3) = some (V.str "one") := by rw [e]; rfl
          refine ⟨_, rfl, _, _, rfl, rfl, lt, _, _, _, rfl, rfl, SqL.of hlt5, ei, _, rfl, small (by simp), fun pt hpt => ⟨small (by simp), fun l hl => ?_⟩⟩
          have wpt := w5.trans (same_new hpt (.tup [.int (dL (cs.drop k) + 1 : Nat), .str "one", .ref pr]))
          refine fin ps (xs.take k) (cs.take k) (.one (cs.drop k)) (.ref pt) _ (s03.trans wpt) ((same_new hpt _) _ _ hps5) ((isTL_take k hT3).keep wpt) ?_ (hG.join (by rw [dT_one]; omega) (by simp only [nT]) (by rw [cT_one]; exact fun _ h => h) (by rw [cT_one]; omega)) l hl
          simp only [IsT]
          exact ⟨pt, pr, xs.drop k, rfl, upd_same, wpt _ _ hpr3, hD3.keep wpt⟩
    · have hst3 := w3 _ _ hst1
      have hT3 := hT1.keep w3
      have hD3 := hD1.keep w3
      have hpr3 := w3 _ _ hpr1
      have s03 := wp.trans w3
      have hta := w3 _ _ hta1
      have ht := ht1.keep w3
      refine ⟨_, rfl, rfl, _, rfl, ?_⟩
      rw [dec_int]
      refine ite2 (fun h6 => ?_) (fun h6 => ?_)
      · -- an opposite
        refine ⟨_, rfl, _, rfl, _, rfl, st, xs, rfl, SqL.of hst3, fun ps hps => ?_⟩
        rw [cut_most (by omega), show xs.length - 1 = j by omega]
        have wps := same_new hps (.lst (xs.take j))
        have hps1 := upd_same (H := H3) (a := ps) (o := .lst (xs.take j))
        generalize upd H3 ps (.lst (xs.take j)) = H4 at wps hps1
        refine ⟨_, rfl, _, rfl, st, _, _, _, rfl, rfl, SqL.of (wps _ _ hst3), lst, a, _, _, _, ea, rfl, SqT.of (wps _ _ hta), at0, _, _, rfl, rfl, _, rfl, _, rfl, st, _, _, _, rfl, rfl, SqL.of (wps _ _ hst3), lst, small (by simp), fun pt hpt => ⟨small (by simp), fun l hl => ?_⟩⟩
        have wpt := wps.trans (same_new hpt (.tup [.int (1 + (dT t : Nat)), .str "not", xs[j]]))
        refine fin ps (xs.take j) (cs.take j) (.opp t) (.ref pt) _ (s03.trans wpt) ((same_new hpt _) _ _ hps1) ((isTL_take j hT3).keep wpt) ?_ (hG.join (by rw [dT_opp]; omega) (by rw [edr]; simp [nT, nL]) (by rw [edr, cL_cons, cL_nil, cT_opp]; simp) (by rw [edr, cL_cons, cL_nil, cT_opp]; simp)) l hl
        simp only [IsT]
        refine ⟨pt, xs[j], rfl, ?_, ht.keep wpt⟩
        rw [upd_same]
        have : (1 : Int) + (dT t : Nat) = ((dT t + 1 : Nat) : Int) := by omega
        rw [this]
      -- an all-of, a one-of
      have ek2 : (xs.length : Int) - ((xs.drop k).length : Int) = (k : Int) := by rw [List.length_drop]; omega
      refine ⟨_, rfl, _, rfl, st, xs, rfl, .inl (SqL.of hst3), _, rfl, pr, _, rfl, .inl (SqL.of hpr3), _, _, rfl, rfl, _, rfl, st, xs, rfl, SqL.of hst3, fun ps hps => ?_⟩
      rw [ek2, cut_to]
      have wps := same_new hps (.lst (xs.take k))
      have hps1 := upd_same (H := H3) (a := ps) (o := .lst (xs.take k))
      generalize upd H3 ps (.lst (xs.take k)) = H4 at wps hps1
      refine ⟨_, rfl, pr, _, cs.drop k, rfl, wps _ _ hpr3, hD3.keep wps, dl, fun H5 s5 => ⟨small (by simp), fun lt hlt => ?_⟩⟩
      have w5 := wps.trans (s5.trans (same_new hlt (.lst [.str "all", .str "one"])))
      have hps5 := (s5.trans (same_new hlt (.lst [.str "all", .str "one"]))) _ _ hps1
      have hlt5 := upd_same (H := H5) (a := lt) (o := .lst [.str "all", .str "one"])
      generalize upd H5 lt (.lst [.str "all", .str "one"]) = H6 at w5 hps5 hlt5
      have cw : c % 7 = 3 ∨ c % 7 = 4 := by
        have n4 : ¬ c % 7 < 3 := fun z => h4 (decide_eq_true z)
        have n6 : ¬ c % 7 = 5 := fun z => h6 (by rw [z]; rfl)
        have n7 : ¬ c % 7 = 6 := fun z => h7 (by rw [z]; rfl)
        omega
      rcases cw with e | e
      · have ei : atI [V.str "all", V.str "one"] (c % 7 - 3) = some (V.str "all") := by rw [e]; rfl
        refine ⟨_, rfl, _, _, rfl, rfl, lt, _, _, _, rfl, rfl, SqL.of hlt5, ei, _, rfl, small (by simp), fun pt hpt => ⟨small (by simp), fun l hl => ?_⟩⟩
        have wpt := w5.trans (same_new hpt (.tup [.int (dL (cs.drop k) + 1 : Nat), .str "all", .ref pr]))
        refine fin ps (xs.take k) (cs.take k) (.all (cs.drop k)) (.ref pt) _ (s03.trans wpt) ((same_new hpt _) _ _ hps5) ((isTL_take k hT3).keep wpt) ?_ (hG.join (by rw [dT_all]; omega) (by simp only [nT]) (by rw [cT_all]; exact fun _ h => h) (by rw [cT_all]; omega)) l hl
        simp only [IsT]
        exact ⟨pt, pr, xs.drop k, rfl, upd_same, wpt _ _ hpr3, hD3.keep wpt⟩
      · have ei : atI [V.str "all", V.str "one"] (c % 7 - 3) = some (V.str "one") := by rw [e]; rfl
        refine ⟨_, rfl, _, _, rfl, rfl, lt, _, _, _, rfl, rfl, SqL.of hlt5, ei, _, rfl, small (by simp), fun pt hpt => ⟨small (by simp), fun l hl => ?_⟩⟩
        have wpt := w5.trans (same_new hpt (.tup [.int (dL (cs.drop k) + 1 : Nat), .str "one", .ref pr]))
        refine fin ps (xs.take k) (cs.take k) (.one (cs.drop k)) (.ref pt) _ (s03.trans wpt) ((same_new hpt _) _ _ hps5) ((isTL_take k hT3).keep wpt) ?_ (hG.join (by rw [dT_one]; omega) (by simp only [nT]) (by rw [cT_one]; exact fun _ h => h) (by rw [cT_one]; omega)) l hl
        simp only [IsT]
        exact ⟨pt, pr, xs.drop k, rfl, upd_same, wpt _ _ hpr3, hD3.keep wpt⟩
  · have hst3 := w3 _ _ hst1
    have hT3 := hT1.keep w3
    have hD3 := hD1.keep w3
    have hpr3 := w3 _ _ hpr1
    have s03 := wp.trans w3
    have hta := w3 _ _ hta1
    have ht := ht1.keep w3
    refine ⟨_, rfl, rfl, _, rfl, ?_⟩
    rw [dec_int]
    refine ite2 (fun h6 => ?_) (fun h6 => ?_)
    · -- an opposite
      refine ⟨_, rfl, _, rfl, _, rfl, st, xs, rfl, SqL.of hst3, fun ps hps => ?_⟩
      rw [cut_most (by omega), show xs.length - 1 = j by omega]
      have wps := same_new hps (.lst (xs.take j))
      have hps1 := upd_same (H := H3) (a := ps) (o := .lst (xs.take j))
      generalize upd H3 ps (.lst (xs.take j)) = H4 at wps hps1
      refine ⟨_, rfl, _, rfl, st, _, _, _, rfl, rfl, SqL.of (wps _ _ hst3), lst, a, _, _, _, ea, rfl, SqT.of (wps _ _ hta), at0, _, _, rfl, rfl, _, rfl, _, rfl, st, _, _, _, rfl, rfl, SqL.of (wps _ _ hst3), lst, small (by simp), fun pt hpt => ⟨small (by simp), fun l hl => ?_⟩⟩
      have wpt := wps.trans (same_new hpt (.tup [.int (1 + (dT t : Nat)), .str "not", xs[j]]))
      refine fin ps (xs.take j) (cs.take j) (.opp t) (.ref pt) _ (s03.trans wpt) ((same_new hpt _) _ _ hps1) ((isTL_take j hT3).keep wpt) ?_ (hG.join (by rw [dT_opp]; omega) (by rw [edr]; simp [nT, nL]) (by rw [edr, cL_cons, cL_nil, cT_opp]; simp) (by rw [edr, cL_cons, cL_nil, cT_opp]; simp)) l hl
      simp only [IsT]
      refine ⟨pt, xs[j], rfl, ?_, ht.keep wpt⟩
      rw [upd_same]
      have : (1 : Int) + (dT t : Nat) = ((dT t + 1 : Nat) : Int) := by omega
      rw [this]
    -- an all-of, a one-of
    have ek2 : (xs.length : Int) - ((xs.drop k).length : Int) = (k : Int) := by rw [List.length_drop]; omega
    refine ⟨_, rfl, _, rfl, st, xs, rfl, .inl (SqL.of hst3), _, rfl, pr, _, rfl, .inl (SqL.of hpr3), _, _, rfl, rfl, _, rfl, st, xs, rfl, SqL.of hst3, fun ps hps => ?_⟩
    rw [ek2, cut_to]
    have wps := same_new hps (.lst (xs.take k))
    have hps1 := upd_same (H := H3) (a := ps) (o := .lst (xs.take k))
    generalize upd H3 ps (.lst (xs.take k)) = H4 at wps hps1
    refine ⟨_, rfl, pr, _, cs.drop k, rfl, wps _ _ hpr3, hD3.keep wps, dl, fun H5 s5 => ⟨small (by simp), fun lt hlt => ?_⟩⟩
    have w5 := wps.trans (s5.trans (same_new hlt (.lst [.str "all", .str "one"])))
    have hps5 := (s5.trans (same_new hlt (.lst [.str "all", .str "one"]))) _ _ hps1
    have hlt5 := upd_same (H := H5) (a := lt) (o := .lst [.str "all", .str "one"])
    generalize upd H5 lt (.lst [.str "all", .str "one"]) = H6 at w5 hps5 hlt5
    have cw : c % 7 = 3 ∨ c % 7 = 4 := by
      have n4 : ¬ c % 7 < 3 := fun z => h4 (decide_eq_true z)
      have n6 : ¬ c % 7 = 5 := fun z => h6 (by rw [z]; rfl)
      have n7 : ¬ c % 7 = 6 := fun z => h7 (by rw [z]; rfl)
      omega
    rcases cw with e | e
    · have ei : atI [V.str "all", V.str "one"] (c % 7 - 3) = some (V.str "all") := by rw [e]; rfl
      refine ⟨_, rfl, _, _, rfl, rfl, lt, _, _, _, rfl, rfl, SqL.of hlt5, ei, _, rfl, small (by simp), fun pt hpt => ⟨small (by simp), fun l hl => ?_⟩⟩
      have wpt := w5.trans (same_new hpt (.tup [.int (dL (cs.drop k) + 1 : Nat), .str "all", .ref pr]))
      refine fin ps (xs.take k) (cs.take k) (.all (cs.drop k)) (.ref pt) _ (s03.trans wpt) ((same_new hpt _) _ _ hps5) ((isTL_take k hT3).keep wpt) ?_ (hG.join (by rw [dT_all]; omega) (by simp only [nT]) (by rw [cT_all]; exact fun _ h => h) (by rw [cT_all]; omega)) l hl
      simp only [IsT]
      exact ⟨pt, pr, xs.drop k, rfl, upd_same, wpt _ _ hpr3, hD3.keep wpt⟩
    · have ei : atI [V.str "all", V.str "one"] (c % 7 - 3) = some (V.str "one") := by rw [e]; rfl
      refine ⟨_, rfl, _, _, rfl, rfl, lt, _, _, _, rfl, rfl, SqL.of hlt5, ei, _, rfl, small (by simp), fun pt hpt => ⟨small (by simp), fun l hl => ?_⟩⟩
      have wpt := w5.trans (same_new hpt (.tup [.int (dL (cs.drop k) + 1 : Nat), .str "one", .ref pr]))
      refine fin ps (xs.take k) (cs.take k) (.one (cs.drop k)) (.ref pt) _ (s03.trans wpt) ((same_new hpt _) _ _ hps5) ((isTL_take k hT3).keep wpt) ?_ (hG.join (by rw [dT_one]; omega) (by simp only [nT]) (by rw [cT_one]; exact fun _ h => h) (by rw [cT_one]; omega)) l hl
      simp only [IsT]
      exact ⟨pt, pr, xs.drop k, rfl, upd_same, wpt _ _ hpr3, hD3.keep wpt⟩
end
end K12
set_option maxHeartbeats 4000000
namespace K12
open PySem L2 CD
def spTree (K : PySem.W.Frag) : Sp := fun args H Q _ => ∃ (a p : Addr) (ns : List Int) (names : List Str) (vals : List Int), args = [.ref a, .ref p] ∧ SqL K H a (ns.map V.int) ∧ H p = some (.lst ((poolK names vals).map kV)) ∧ PoolOk names vals ∧
  ∀ (v : V) (H' : Hp) (c : Tr), Same H H' → IsT H' c v → dT c ≤ 19 → nT c ≤ 41 → (∀ k ∈ cT c, k ∈ poolK names vals) → (cT c).length ≤ 400 → Q v H'
theorem cut_ints (ns : List Int) : ∃ ms : List Int, cutV (ns.map V.int) (some 6) (some 46) = ms.map V.int ∧ ms.length ≤ 40 := by
  refine ⟨(ns.drop (min 6 ns.length)).take (min 46 ns.length - min 6 ns.length), ?_, ?_⟩
  · unfold cutV
    have e1 := HT.sIx_nat (ns.map V.int).length 0 6
    have e2 := HT.sIx_nat (ns.map V.int).length (ns.map V.int).length 46
    rw [show (some (6 : Int)) = some ((6 : Nat) : Int) from rfl, show (some (46 : Int)) = some ((46 : Nat) : Int) from rfl, e1, e2, List.length_map, ← List.map_drop, ← List.map_take]
  · rw [List.length_take]
    omega
section
variable {P : Program} {w : World} {K : PySem.W.Frag} {mg : Str → Option Value} {base : Heap} {f : Addr} {fd : FuncData}
theorem scTree : FnScope ["_law_script", "_law_pool_here", "_law_stack", "_law_cell"] ["_law_script", "_law_pool_here"] (defScope sTree) := ⟨rfl, rfl, rfl, by decide +kernel, rfl, by decide +kernel, by decide +kernel⟩
theorem ok_tree (Fn : Fun K "_law_tree" "_law_tree" sTree f fd) (T : Txt mg) (C0 : Cal P w K mg base "_law_deep" 1 ["_law_parts"] spDeep) (C1 : Cal P w K mg base "_law_grown" 20 ["_law_stack", "_law_cell", "_law_pool_here"] spGrown) (C2 : Cal P w K mg base "_law_at" 1 ["_law_script", "_law_k"] (spAt K)) : FnOk P w K mg base CX0 21 f fd ["_law_script", "_law_pool_here"] (spTree K) := by
  obtain ⟨f0, d0, G0, b0, k0, m0⟩ := C0
  obtain ⟨f1, d1, G1, b1, k1, m1⟩ := C1
  obtain ⟨f2, d2, G2, b2, k2, m2⟩ := C2
  refine Fn.ok scTree (fun vs H Q E h => ?_) (fun cdv A outer s H vs Q E hr h => ?_)
  · obtain ⟨a, p, ns, names, vals, rfl, _⟩ := h
    rfl
  obtain ⟨a, p, ns, names, vals, rfl, hS, hp, hP, q⟩ := h
  have hr1 : Room 1 _ := hr.mono (by decide)
  refine ⟨_, pss_cons (ps_set (i := 2) scTree.nd rfl (Or.inl rfl) (pe_lst pa_nil))
    (pss_cons (ps_for PassesOwn.never rfl (pi_list (pe_slice sl_list (pv 0) (po_some pe_int) (po_some pe_int))) (pg_name (i := 3) scTree.nd rfl (Or.inl rfl))
      (pss_one (ps_set (i := 2) scTree.nd rfl (Or.inl rfl) (pe_call G1 hr rfl m1 k1 b1 .nil pass0 (pa_cons (pv 2) (pa_cons (pv 3) (pa_cons (pv 1) pa_nil)))))))
    (pss_cons (ps_if (pt_cmpR op_eq (pe_callB call_len_seq rfl T.len PySem.boot_len (pa_cons (pv 2) pa_nil)) pe_int (nomark _)) (pss_one (ps_ret (pe_ix ix_list (pv 2) pe_int (fun _ _ => rfl)))) pss_nil)
    (pss_one (ps_ret (pe_tup (pa_cons (pe_call G0 hr1 rfl m0 k0 b0 .nil pass0 (pa_cons (pv 2) pa_nil)) (pa_cons (pe_ix ix_list (pe_lst (pa_cons pe_str (pa_cons pe_str pa_nil))) (pe_op op_mod (pe_call G2 hr1 rfl m2 k2 b2 .nil pass0 (pa_cons (pv 0) (pa_cons pe_int pa_nil))) pe_int) (fun _ _ => rfl)) (pa_cons (pv 2) pa_nil)))))))), ?_⟩
  refine ⟨small (by simp), fun st0 hst0 => ?_⟩
  have w0 := same_new hst0 (.lst [])
  refine ⟨_, rfl, _, rfl, _, rfl, a, _, rfl, w0.seq hS, fun sl hsl => ?_⟩
  obtain ⟨ms, em, ml⟩ := cut_ints ns
  rw [em]
  have w1 := same_new hsl (.lst (ms.map V.int))
  have w01 := w0.trans w1
  have hst1 := w1 _ _ (upd_same (H := H) (a := st0) (o := .lst []))
  have hsl1 := upd_same (H := upd H st0 (.lst [])) (a := sl) (o := .lst (ms.map V.int))
  generalize upd (upd H st0 (.lst [])) sl (.lst (ms.map V.int)) = H1 at w01 hst1 hsl1
  refine ⟨sl, rfl, ⟨_, SqL.of hsl1⟩, for_list (K := K) (a := sl) (xs := ms.map V.int) (fun i σ H2 => ∃ (st : Addr) (xs : List V) (cs : List Tr) (u : Option V), σ = [some (.ref a), some (.ref p), some (.ref st), u] ∧ Same H1 H2 ∧ H2 st = some (.lst xs) ∧ IsTL H2 cs xs ∧ Good (poolK names vals) i cs)
    ⟨st0, [], [], none, rfl, Same.refl _, hst1, by simp only [IsTL], ⟨by simp, by simp [nL], by simp [cL_nil], by simp [cL_nil]⟩⟩ (fun i σ H2 _ ⟨_, _, _, _, _, s2, _⟩ => SqL.of (s2 _ _ hsl1)) ?_ ?_⟩
  · rintro i x σ H2 hi ⟨st, xs, cs, u, rfl, s2, hst, hT, hG⟩
    obtain ⟨z, rfl⟩ : ∃ z, x = V.int z := by
      rw [List.getElem?_map] at hi
      cases e : ms[i]? with
      | none => rw [e] at hi; cases hi
      | some z => rw [e] at hi; exact ⟨z, (Option.some.inj hi).symm⟩
    have hil : i < ms.length := by
      have := (List.getElem?_eq_some_iff.mp hi).1
      rwa [List.length_map] at this
    refine ⟨_, rfl, _, rfl, _, rfl, st, p, z, xs, cs, i, names, vals, rfl, hst, hT, hG, by omega, (w01.trans s2) _ _ hp, hP, fun r H3 xs' cs' s3 h3 hT3 hG3 => ?_⟩
    exact ⟨r, xs', cs', _, rfl, s2.trans s3, h3, hT3, hG3⟩
  · rintro σ H2 ⟨st, xs, cs, u, rfl, s2, hst, hT, hG⟩
    have s02 := w01.trans s2
    have hG' := hG
    rw [List.length_map] at hG'
    have len := isTL_len hT
    have nl := nL_len cs
    have nm := hG'.nd
    have dl : dL cs ≤ 18 := dL_le.mpr hG'.dp
    refine ⟨_, rfl, st, xs, rfl, .inl (SqL.of hst), rfl, _, rfl, ?_⟩
    rw [dec_int]
    refine ite2 (fun h1 => ?_) (fun _ => ?_)
    · have h1' : (xs.length : Int) = 1 := by simpa using h1
      have hx0 : 0 < xs.length := by omega
      have e0 : xs[0]? = some xs[0] := List.getElem?_eq_getElem hx0
      obtain ⟨c, hc, hC⟩ := isTL_get hT e0
      have cm := List.mem_of_getElem? hc
      refine ⟨_, rfl, st, xs, _, _, rfl, rfl, SqL.of hst, atI_nat (j := 0) e0, ?_⟩
      have n1 := nL_mem cm
      have n2 := cL_len_mem cm
      have n3 := hG'.ln
      exact q _ H2 c s02 hC (Nat.le_trans (hG'.dp c cm) (by decide)) (by omega) (fun k hk => hG'.cl k (cL_mem.mpr ⟨c, cm, hk⟩)) (by omega)
    · refine ⟨_, rfl, st, xs, cs, rfl, hst, hT, by omega, fun H3 s3 => ?_⟩
      refine ⟨small (by simp), fun lt hlt => ?_⟩
      have w3 := same_new hlt (.lst [.str "all", .str "one"])
      refine ⟨_, rfl, a, ns, 5, rfl, by decide, ((s02.trans s3).trans w3).seq hS, fun z H4 s4 => ?_⟩
      have hlt4 := s4 _ _ (upd_same (H := H3) (a := lt) (o := .lst [.str "all", .str "one"]))
      have s24 := s3.trans (w3.trans s4)
      have hz : z % 2 = 0 ∨ z % 2 = 1 := by omega
      rcases hz with e | e
      · have ei : atI [V.str "all", V.str "one"] (z % 2) = some (V.str "all") := by rw [e]; rfl
        refine ⟨_, _, rfl, rfl, (by show (0 : Int) < 2; decide), lt, _, _, _, rfl, rfl, SqL.of hlt4, ei, _, rfl, small (by simp), fun r hr' => ?_⟩
        have w5 := s24.trans (same_new hr' (.tup [.int (dL cs + 1 : Nat), .str "all", .ref st]))
        refine q _ _ (.all cs) (s02.trans w5) ?_ (by rw [dT_all]; omega) (by simp only [nT]; omega) (by rw [cT_all]; exact hG'.cl) (by rw [cT_all]; have := hG'.ln; omega)
        simp only [IsT]
        exact ⟨r, st, xs, rfl, upd_same, w5 _ _ hst, hT.keep w5⟩
      · have ei : atI [V.str "all", V.str "one"] (z % 2) = some (V.str "one") := by rw [e]; rfl
        refine ⟨_, _, rfl, rfl, (by show (0 : Int) < 2; decide), lt, _, _, _, rfl, rfl, SqL.of hlt4, ei, _, rfl, small (by simp), fun r hr' => ?_⟩
        have w5 := s24.trans (same_new hr' (.tup [.int (dL cs + 1 : Nat), .str "one", .ref st]))
        refine q _ _ (.one cs) (s02.trans w5) ?_ (by rw [dT_one]; omega) (by simp only [nT]; omega) (by rw [cT_one]; exact hG'.cl) (by rw [cT_one]; have := hG'.ln; omega)
        simp only [IsT]
        exact ⟨r, st, xs, rfl, upd_same, w5 _ _ hst, hT.keep w5⟩
end
end K12
set_option maxHeartbeats 4000000
namespace K12
open PySem L2 CD
theorem mk_same {H : Hp} {x dx C : Addr} (h1 : H x = none) (h2 : H dx = none) : Same H (upd (upd H dx (.own x)) x (.ins C dx [])) := same_upd (same_new h2 _) h1 _
/-- a class of the text that makes what it promises -/
def MkC (P : Program) (w : World) (K : PySem.W.Frag) (mg : Str → Option Value) (base : Heap) (x : Str) (C : Addr) (k : Nat) (ps : List Str) (sp : Sp) : Prop := ∃ f fd, Mk K C f ∧ FnOk P w K mg base CX0 k f fd ps sp ∧ Binds K fd ps [] ∧ mg x = some (.ref C)
def spMade (T : Cl) (d : Nat) : Sp := fun vs H Q _ => ∃ (v : V) (t : Tr) (pool : List Key), vs = [v] ∧ IsT H t v ∧ dT t ≤ d ∧ dT t ≤ 20 ∧ nT t ≤ 41 ∧ pool.length ≤ 8 ∧ (∀ k ∈ cT t, k ∈ pool) ∧ ∀ (v' : V) (H' : Hp), Same H H' → IsC T H' (toC t) v' → Q v' H'
section
variable {P : Program} {w : World} {K : PySem.W.Frag} {mg : Str → Option Value} {base : Heap} {f : Addr} {fd : FuncData} {T : Cl}
theorem scMa : FnScope ["_law_tree_here", "_law_part", "_law_parts"] ["_law_tree_here"] (defScope sMade) := ⟨rfl, rfl, rfl, by decide +kernel, rfl, by decide +kernel, by decide +kernel⟩
theorem isL_toL {T : Cl} {H : Hp} : ∀ {l : List Tr} {vs : List V}, IsL T H (l.map toC) vs → IsL T H (toL l) vs := fun h => by rw [toL_map]; exact h
theorem ok_made (Fn : Fun K "_law_made" "_law_made" sMade f fd) (bd : Binds K fd ["_law_tree_here"] []) (kp : PySem.W.keepIn K (.ref f) = true) (mm : mg "_law_made" = some (.ref f))
    (M1 : MkC P w K mg base "Truth" T.t 42 ["self", "said"] (spTI T)) (M2 : MkC P w K mg base "Same" T.s 42 ["self", "one", "other"] (spSI T)) (M3 : MkC P w K mg base "Opposite" T.p 42 ["self", "part"] (spPI T 19))
    (M4 : MkC P w K mg base "AllOf" T.a 42 ["self", "parts"] (spLI T K 19 T.a .all)) (M5 : MkC P w K mg base "OneOf" T.o 42 ["self", "parts"] (spLI T K 19 T.o .one)) : ∀ d, FnOk P w K mg base CX0 (44 + d) f fd ["_law_tree_here"] (spMade T d)
  | 0 => by
    refine ⟨fun vs H Q E h => ?_, fun A outer s H args us vs Q E hr e0 hb r h => ?_⟩
    · obtain ⟨v, t, pool, rfl, _⟩ := h
      rfl
    · obtain ⟨v, t, pool, _, _, hd, _⟩ := h
      have := dT_pos t
      exact absurd hd (by omega)
  | d + 1 => by
    have ih := ok_made Fn bd kp mm M1 M2 M3 M4 M5 d
    obtain ⟨f1, d1, mk1, G1, b1, m1⟩ := M1
    obtain ⟨f2, d2, mk2, G2, b2, m2⟩ := M2
    obtain ⟨f3, d3, mk3, G3, b3, m3⟩ := M3
    obtain ⟨f4, d4, mk4, G4, b4, m4⟩ := M4
    obtain ⟨f5, d5, mk5, G5, b5, m5⟩ := M5
    refine Fn.ok (k := 44 + d) scMa (fun vs H Q E h => ?_) (fun cdv A outer s H vs Q E hr h => ?_)
    · obtain ⟨v, t, pool, rfl, _⟩ := h
      rfl
    obtain ⟨v, t, pool, rfl, hT, hd, hd20, hn, hpl, hpc, q⟩ := h
    have hr43 : Room 43 _ := hr.mono (by omega)
    refine ⟨_, pss_cons (ps_if (pt_cmpR op_eq (pe_ix ix_tup (pv 0) pe_int (fun _ _ => rfl)) pe_str (nomark _)) (pss_one (ps_ret (pe_make mk1 G1 hr43 rfl m1 b1 .nil pass0 (pa_cons (pe_ix ix_tup (pv 0) pe_int (fun _ _ => rfl)) pa_nil)))) pss_nil)
      (pss_cons (ps_if (pt_cmpR op_eq (pe_ix ix_tup (pv 0) pe_int (fun _ _ => rfl)) pe_str (nomark _)) (pss_one (ps_ret (pe_make mk2 G2 hr43 rfl m2 b2 .nil pass0 (pa_cons (pe_ix ix_tup (pv 0) pe_int (fun _ _ => rfl)) (pa_cons (pe_ix ix_tup (pv 0) pe_int (fun _ _ => rfl)) pa_nil))))) pss_nil)
      (pss_cons (ps_if (pt_cmpR op_eq (pe_ix ix_tup (pv 0) pe_int (fun _ _ => rfl)) pe_str (nomark _)) (pss_one (ps_ret (pe_make mk3 G3 hr43 rfl m3 b3 .nil pass0 (pa_cons (pe_call ih hr rfl mm kp bd .nil pass0 (pa_cons (pe_ix ix_tup (pv 0) pe_int (fun _ _ => rfl)) pa_nil)) pa_nil)))) pss_nil)
      (pss_cons (ps_if (pt_cmpR op_eq (pe_ix ix_tup (pv 0) pe_int (fun _ _ => rfl)) pe_str (nomark _)) (pss_cons (ps_set (i := 1) scMa.nd rfl (Or.inl rfl) (pe_call ih hr rfl mm kp bd .nil pass0 (pa_cons (pe_ix ix_tup (pv 0) pe_int (fun _ _ => rfl)) pa_nil))) (pss_one (ps_ret (pe_make mk4 G4 hr43 rfl m4 b4 .nil pass0 (pa_cons (pe_lst (pa_cons (pv 1) (pa_cons (pv 1) pa_nil))) pa_nil))))) pss_nil)
      (pss_cons (ps_setLC (i := 2) ["_law_part"] (caps := []) rfl scMa.nd rfl rfl (pi_list (pe_ix ix_tup (pv 0) pe_int (fun _ _ => rfl))) ⟨rfl, by decide +kernel, by decide +kernel, rfl, .nil, rfl, rfl, rfl⟩
        (fun s H ex => pg_name (X := cxLG _ _ _ _ s H ex) (i := 0) (nd1 _) rfl (Or.inl rfl) (.inr rfl)) (fun s H ex => pif_nil)
        (fun s H ex => pe_call (X := cxLG _ _ _ _ s H ex) ih hr rfl mm kp bd .nil pass0 (pa_cons (pe_var (X := cxLG _ _ _ _ s H ex) (i := 0) rfl (Or.inl rfl)) pa_nil)) rfl)
      (pss_cons (ps_if (pt_cmpR op_eq (pe_ix ix_tup (pv 0) pe_int (fun _ _ => rfl)) pe_str (nomark _)) (pss_one (ps_ret (pe_make mk4 G4 hr43 rfl m4 b4 .nil pass0 (pa_cons (pv 2) pa_nil)))) pss_nil)
      (pss_one (ps_ret (pe_make mk5 G5 hr43 rfl m5 b5 .nil pass0 (pa_cons (pv 2) pa_nil))))))))), ?_⟩
    have many : ∀ (l : List Tr) (xs : List V) (p : Addr), H p = some (.lst xs) → IsTL H l xs → nL l ≤ 40 → dL l ≤ d → dL l ≤ 19 → (∀ k ∈ cL l, k ∈ pool) → ∀ (D : Addr), H D = none → ∀ (R : Hp → Prop),
        (∀ (H2 : Hp) (vs : List V), Same H H2 → H2 D = some (.lst vs) → IsL T H2 (toL l) vs → R H2) →
        ∃ W : Nat → Nat → St → Hp → Prop, (∃ m, W 0 m [none] (upd H D (.lst []))) ∧ ∀ i m σ' H', W i m σ' H' →
          ((Itl K p).stop i H' ∧ R H') ∨ ((Itl K p).go i H' ∧ ∃ N : St → Hp → Prop, (∀ σ2 H2, N σ2 H2 → ∃ m', m' < m ∧ W (i + 1) m' σ2 H2) ∧
            ∀ x H2, (Itl K p).yld i H' x H2 → (gName 0) x σ' H2 fun σ3 H3 => tYes σ3 H3 fun b H4 => if b = true then (tCall (spMade T d) [] E0 (tCons (tVar 0) tNil)) σ3 H4 fun y H5 => ∃ zs, H5 D = some (.lst zs) ∧ zs.length < sizeLine ∧ N σ3 (upd H5 D (.lst (zs ++ [y]))) else N σ3 H4) := by
      intro l xs p hp hTL nl dl dl19 hcl D hD R hR
      refine lcg_listR (K := K) (a := p) (xs := xs) (fun i σ H2 => ∃ (u : Option V) (vs : List V), σ = [u] ∧ Same H H2 ∧ H2 D = some (.lst vs) ∧ IsL T H2 ((l.take i).map toC) vs)
        ⟨none, [], rfl, same_new hD _, upd_same, by simp only [List.take_zero, List.map_nil, CD.IsL]⟩ (fun i σ H2 _ ⟨_, _, _, s2, _⟩ => SqL.of (s2 _ _ hp)) ?_ ?_
      · rintro i x σ H2 hi ⟨u, vs, rfl, s2, hD2, hL2⟩
        obtain ⟨c', hc', hC'⟩ := isTL_get hTL hi
        have cm := List.mem_of_getElem? hc'
        have dc := Nat.le_trans (dL_ge cm) dl
        have dc19 := Nat.le_trans (dL_ge cm) dl19
        have n1 := nL_mem cm
        refine ⟨_, rfl, x, c', pool, rfl, hC'.keep s2, dc, by omega, by omega, hpl, fun k hk => hcl k (cL_mem.mpr ⟨c', cm, hk⟩), fun v H3 s3 hCv => ?_⟩
        have hD3 : H3 D = some (.lst vs) := s3 _ _ hD2
        have kp4 : Kp H3 (upd H3 D (.lst (vs ++ [v]))) := ⟨fun b xs h => by rw [upd_ne (fun e => by rw [e, hD3] at h; cases h)]; exact h, fun b C dx fs h => by rw [upd_ne (fun e => by rw [e, hD3] at h; cases h)]; exact h⟩
        refine ⟨vs, hD3, ?_, _, vs ++ [v], rfl, same_upd (s2.trans s3) hD _, upd_same, ?_⟩
        · have a1 := isL_len hL2
          rw [List.length_map, List.length_take] at a1
          have := nL_len l
          exact small1000 (by omega)
        · rw [take_snoc hc', List.map_append]
          exact isL_snoc ((hL2.kp (.of s3)).kp kp4) (hCv.kp kp4)
      · rintro σ H2 ⟨u, vs, rfl, s2, hD2, hL2⟩
        rw [← isTL_len hTL, List.take_length] at hL2
        exact hR H2 vs s2 hD2 (isL_toL hL2)
    have pool1 : ∀ n, n ≤ 41 → n * pool.length ≤ 4000 := fun n hn => Nat.le_trans (Nat.mul_le_mul hn hpl) (by decide)
    cases t with
    | truth b =>
      simp only [IsT] at hT
      obtain ⟨a, rfl, ha⟩ := hT
      have ha' := SqT.of (K := K) ha
      refine ⟨_, rfl, a, _, _, _, rfl, rfl, ha', rfl, rfl, _, rfl, ?_⟩
      refine iteTd (by decide +kernel) ?_
      refine ⟨_, rfl, a, _, _, _, rfl, rfl, ha', rfl, fun x dx hx hdx ne => ?_⟩
      have ms := mk_same (C := T.t) hx hdx
      exact ⟨x, dx, b, H, rfl, upd_same, ms, hx, fun H' kb hC => ⟨rfl, q _ H' (kb.same ms hx) (by simp only [toC]; exact hC)⟩⟩
    | same k1 k2 =>
      simp only [IsT] at hT
      obtain ⟨a, rfl, ha⟩ := hT
      have ha' := SqT.of (K := K) ha
      refine ⟨_, rfl, a, _, _, _, rfl, rfl, ha', rfl, rfl, _, rfl, ?_⟩
      refine iteFd (by decide +kernel) ?_
      refine ⟨_, rfl, a, _, _, _, rfl, rfl, ha', rfl, rfl, _, rfl, ?_⟩
      refine iteTd (by decide +kernel) ?_
      refine ⟨_, rfl, a, _, _, _, rfl, rfl, ha', rfl, _, rfl, a, _, _, _, rfl, rfl, ha', rfl, fun x dx hx hdx ne => ?_⟩
      have ms := mk_same (C := T.s) hx hdx
      exact ⟨x, dx, k1, k2, H, rfl, upd_same, ms, hx, fun H' kb hC => ⟨rfl, q _ H' (kb.same ms hx) (by simp only [toC]; exact hC)⟩⟩
    | opp c =>
      simp only [IsT] at hT
      obtain ⟨a, u, rfl, ha, hu⟩ := hT
      have ha' := SqT.of (K := K) ha
      rw [dT_opp] at hd hd20
      simp only [nT] at hn
      rw [cT_opp] at hpc
      refine ⟨_, rfl, a, _, _, _, rfl, rfl, ha', rfl, rfl, _, rfl, ?_⟩
      refine iteFd (by decide +kernel) ?_
      refine ⟨_, rfl, a, _, _, _, rfl, rfl, ha', rfl, rfl, _, rfl, ?_⟩
      refine iteFd (by decide +kernel) ?_
      refine ⟨_, rfl, a, _, _, _, rfl, rfl, ha', rfl, rfl, _, rfl, ?_⟩
      refine iteTd (by decide +kernel) ?_
      refine ⟨_, rfl, a, _, _, _, rfl, rfl, ha', rfl, u, c, pool, rfl, hu, by omega, by omega, by omega, hpl, hpc, fun v H2 s2 hC2 => fun x dx hx hdx ne => ?_⟩
      have ms := mk_same (C := T.p) hx hdx
      refine ⟨x, dx, v, toC c, H2, rfl, upd_same, ms, hx, hC2, (by show dT c ≤ 19; omega), ⟨pool, by omega, pool1 1 (by decide), hpc⟩, fun H' kb hC => ⟨rfl, ?_⟩⟩
      exact q _ H' (s2.trans (kb.same ms hx)) (by simp only [toC]; exact hC)
    | two c =>
      simp only [IsT] at hT
      obtain ⟨a, u, rfl, ha, hu⟩ := hT
      have ha' := SqT.of (K := K) ha
      rw [dT_two] at hd hd20
      simp only [nT] at hn
      rw [cT_two] at hpc
      refine ⟨_, rfl, a, _, _, _, rfl, rfl, ha', rfl, rfl, _, rfl, ?_⟩
      refine iteFd (by decide +kernel) ?_
      refine ⟨_, rfl, a, _, _, _, rfl, rfl, ha', rfl, rfl, _, rfl, ?_⟩
      refine iteFd (by decide +kernel) ?_
      refine ⟨_, rfl, a, _, _, _, rfl, rfl, ha', rfl, rfl, _, rfl, ?_⟩
      refine iteFd (by decide +kernel) ?_
      refine ⟨_, rfl, a, _, _, _, rfl, rfl, ha', rfl, rfl, _, rfl, ?_⟩
      refine iteTd (by decide +kernel) ?_
      have hpc' : ∀ k ∈ cT c, k ∈ pool := fun k hk => hpc k (List.mem_append_left _ hk)
      refine ⟨_, rfl, a, _, _, _, rfl, rfl, ha', rfl, u, c, pool, rfl, hu, by omega, by omega, by omega, hpl, hpc', fun v H2 s2 hC2 => ?_⟩
      refine ⟨_, rfl, _, rfl, small (by simp), fun D hD => fun x dx hx hdx ne => ?_⟩
      have wD := same_new hD (.lst [v, v])
      have hD1 := upd_same (H := H2) (a := D) (o := .lst [v, v])
      have hC3 := hC2.kp (.of wD)
      generalize upd H2 D (.lst [v, v]) = H3 at wD hD1 hC3 hx hdx
      have ms := mk_same (C := T.a) hx hdx
      have hL3 : IsL T H3 [toC c, toC c] [v, v] := by
        simp only [CD.IsL]
        exact ⟨v, [v], rfl, hC3, v, [], rfl, hC3, rfl⟩
      have hd2 : depthL [toC c, toC c] ≤ 19 := depthL_le.mpr fun z hz => by
        have : z = toC c := by simpa using hz
        rw [this]; show dT c ≤ 19; omega
      refine ⟨x, dx, D, [v, v], [toC c, toC c], H3, rfl, upd_same, ms, hx, SqL.of (ms _ _ hD1), hL3, by simp, hd2, ⟨pool, by omega, pool1 2 (by decide), fun k hk => ?_⟩, fun H' kb hC => ⟨rfl, ?_⟩⟩
      · simp only [cellsL, List.append_nil, List.mem_append, or_self] at hk
        exact hpc' k hk
      · exact q _ H' (s2.trans (wD.trans (kb.same ms hx))) (by simp only [toC]; exact hC)
    | all l =>
      simp only [IsT] at hT
      obtain ⟨a, p, xs, rfl, ha, hp, hTL⟩ := hT
      have ha' := SqT.of (K := K) ha
      rw [dT_all] at hd hd20
      simp only [nT] at hn
      rw [cT_all] at hpc
      have ll := nL_len l
      refine ⟨_, rfl, a, _, _, _, rfl, rfl, ha', rfl, rfl, _, rfl, ?_⟩
      refine iteFd (by decide +kernel) ?_
      refine ⟨_, rfl, a, _, _, _, rfl, rfl, ha', rfl, rfl, _, rfl, ?_⟩
      refine iteFd (by decide +kernel) ?_
      refine ⟨_, rfl, a, _, _, _, rfl, rfl, ha', rfl, rfl, _, rfl, ?_⟩
      refine iteFd (by decide +kernel) ?_
      refine ⟨_, rfl, a, _, _, _, rfl, rfl, ha', rfl, rfl, _, rfl, ?_⟩
      refine iteFd (by decide +kernel) ?_
      refine ⟨_, rfl, a, _, _, _, rfl, rfl, ha', rfl, p, rfl, ⟨_, SqL.of hp⟩, fun D hD => many l xs p hp hTL (by omega) (by omega) (by omega) hpc D hD _ (fun H2 vs s2 hD2 hL2 => ?_)⟩
      refine ⟨_, rfl, a, _, _, _, rfl, rfl, SqT.of (s2 _ _ ha), rfl, rfl, _, rfl, ?_⟩
      refine iteTd (by decide +kernel) ?_
      refine ⟨_, rfl, fun x dx hx hdx ne => ?_⟩
      have ms := mk_same (C := T.a) hx hdx
      have tl := toL_len l
      exact ⟨x, dx, D, vs, toL l, H2, rfl, upd_same, ms, hx, SqL.of (ms _ _ hD2), hL2, by omega, (by show dL l ≤ 19; omega), ⟨pool, by omega, pool1 _ (by omega), hpc⟩, fun H' kb hC => ⟨rfl, q _ H' (s2.trans (kb.same ms hx)) (by simp only [toC]; exact hC)⟩⟩
    | one l =>
      simp only [IsT] at hT
      obtain ⟨a, p, xs, rfl, ha, hp, hTL⟩ := hT
      have ha' := SqT.of (K := K) ha
      rw [dT_one] at hd hd20
      simp only [nT] at hn
      rw [cT_one] at hpc
      have ll := nL_len l
      refine ⟨_, rfl, a, _, _, _, rfl, rfl, ha', rfl, rfl, _, rfl, ?_⟩
      refine iteFd (by decide +kernel) ?_
      refine ⟨_, rfl, a, _, _, _, rfl, rfl, ha', rfl, rfl, _, rfl, ?_⟩
      refine iteFd (by decide +kernel) ?_
      refine ⟨_, rfl, a, _, _, _, rfl, rfl, ha', rfl, rfl, _, rfl, ?_⟩
      refine iteFd (by decide +kernel) ?_
      refine ⟨_, rfl, a, _, _, _, rfl, rfl, ha', rfl, rfl, _, rfl, ?_⟩
      refine iteFd (by decide +kernel) ?_
      refine ⟨_, rfl, a, _, _, _, rfl, rfl, ha', rfl, p, rfl, ⟨_, SqL.of hp⟩, fun D hD => many l xs p hp hTL (by omega) (by omega) (by omega) hpc D hD _ (fun H2 vs s2 hD2 hL2 => ?_)⟩
      refine ⟨_, rfl, a, _, _, _, rfl, rfl, SqT.of (s2 _ _ ha), rfl, rfl, _, rfl, ?_⟩
      refine iteFd (by decide +kernel) ?_
      refine ⟨_, rfl, fun x dx hx hdx ne => ?_⟩
      have ms := mk_same (C := T.o) hx hdx
      have tl := toL_len l
      exact ⟨x, dx, D, vs, toL l, H2, rfl, upd_same, ms, hx, SqL.of (ms _ _ hD2), hL2, by omega, (by show dL l ≤ 19; omega), ⟨pool, by omega, pool1 _ (by omega), hpc⟩, fun H' kb hC => ⟨rfl, q _ H' (s2.trans (kb.same ms hx)) (by simp only [toC]; exact hC)⟩⟩
end
end K12
set_option maxHeartbeats 4000000
namespace L2
open PySem PySem.Spec PyProof.Rows
section
variable {X : Cx}
theorem pg_tupK {K : PySem.W.Frag} {es : List Expr} {k : Nat} {t : TGs} {n : Nat} {pos : Pos} (hK : X.K = K) (hc : X.calm = true) (h : PGs X es t) (hn : (assignEach es X.env).length = n := by rfl) (hst : (assignEach es X.env).findIdx? (·.1) = none := by rfl) : PG X (.Tuple es k pos) (gTup K n t) := by
  subst hK; exact pg_tup hc h hn hst
theorem lcg_zipR {K : PySem.W.Frag} {a b D : Addr} {xs ys : List V} {g : TG} {tt : TT} {te : TE} {R : Hp → Prop} {σ0 : St} {H1 : Hp} (hlen : xs.length = ys.length) (Pv : Nat → St → Hp → Prop) (h0 : Pv 0 σ0 (upd H1 D (.lst []))) (hl : ∀ i σ H, i ≤ xs.length → Pv i σ H → SqT K H a xs ∧ SqL K H b ys)
    (hs : ∀ i x y T σ H, xs[i]? = some x → ys[i]? = some y → H T = none → Pv i σ H → g (.ref T) σ (upd H T (.tup [x, y])) fun σ3 H3 => tt σ3 H3 fun b H4 => if b = true then te σ3 H4 fun y H5 => ∃ zs, H5 D = some (.lst zs) ∧ zs.length < sizeLine ∧ Pv (i + 1) σ3 (upd H5 D (.lst (zs ++ [y]))) else Pv (i + 1) σ3 H4) (hd : ∀ σ H, Pv xs.length σ H → R H) :
    ∃ W : Nat → Nat → St → Hp → Prop, (∃ m, W 0 m σ0 (upd H1 D (.lst []))) ∧ ∀ i m σ' H', W i m σ' H' →
      ((Itz K a b).stop i H' ∧ R H') ∨ ((Itz K a b).go i H' ∧ ∃ N : St → Hp → Prop, (∀ σ2 H2, N σ2 H2 → ∃ m', m' < m ∧ W (i + 1) m' σ2 H2) ∧
        ∀ x H2, (Itz K a b).yld i H' x H2 → g x σ' H2 fun σ3 H3 => tt σ3 H3 fun b H4 => if b = true then te σ3 H4 fun y H5 => ∃ zs, H5 D = some (.lst zs) ∧ zs.length < sizeLine ∧ N σ3 (upd H5 D (.lst (zs ++ [y]))) else N σ3 H4) := by
  refine ⟨fun i m σ H => m = xs.length - i ∧ i ≤ xs.length ∧ Pv i σ H, ⟨xs.length, rfl, Nat.zero_le _, h0⟩, ?_⟩
  rintro i m σ H ⟨rfl, hi, p⟩
  obtain ⟨q1, q2⟩ := hl i σ H hi p
  rcases Nat.lt_or_ge i xs.length with hlt | hge
  · have hlt2 : i < ys.length := by omega
    refine .inr ⟨⟨xs, ys, xs[i], ys[i], q1, q2, List.getElem?_eq_getElem hlt, List.getElem?_eq_getElem hlt2⟩, Pv (i + 1), fun σ' H' p' => ⟨xs.length - (i + 1), by omega, rfl, hlt, p'⟩, fun x H' y => ?_⟩
    obtain ⟨T, e1, e2, e3⟩ := y
    have e := e3 xs ys _ _ q1 q2 (List.getElem?_eq_getElem hlt) (List.getElem?_eq_getElem hlt2)
    subst e e1
    exact hs i _ _ T σ H (List.getElem?_eq_getElem hlt) (List.getElem?_eq_getElem hlt2) e2 p
  · have e : i = xs.length := Nat.le_antisymm hi hge
    subst e
    exact .inl ⟨⟨xs, ys, q1, q2, .inl (Nat.le_refl _)⟩, hd σ H p⟩
end
end L2
namespace K12
open PySem L2 CD
abbrev sSorts : Stmt := top 26
abbrev sCellIs : Stmt := top 27
abbrev sIs : Stmt := top 28
def tg : Cd → Nat
  | .truth _ => 0
  | .same _ _ => 1
  | .all _ => 2
  | .one _ => 3
  | .opp _ => 4
structure Txt2 (mg : Str → Option Value) : Prop where
  zip : mg "zip" = none
  all : mg "all" = none
  int : mg "int" = none
/-- what isinstance asks of the classes -/
structure Isb (K : PySem.W.Frag) (mg : Str → Option Value) (T : Cl) (CC : Addr) : Prop where
  isc : ∀ c : Cd, PySem.W.kitOne K (.ref (T.of c)) (.ref CC) = some true
  ist : ∀ c : Cd, PySem.W.kitOne K (.ref (T.of c)) (.ref T.t) = some (tg c == 0)
  iss : ∀ c : Cd, PySem.W.kitOne K (.ref (T.of c)) (.ref T.s) = some (tg c == 1)
  isa : ∀ c : Cd, PySem.W.kitOne K (.ref (T.of c)) (.ref T.a) = some (tg c == 2)
  iso : ∀ c : Cd, PySem.W.kitOne K (.ref (T.of c)) (.ref T.o) = some (tg c == 3)
  isp : ∀ c : Cd, PySem.W.kitOne K (.ref (T.of c)) (.ref T.p) = some (tg c == 4)
  cls : ∀ c : Cd, PySem.W.findIn K (.ref (T.of c)) "__class__" = some (some (.builtin "object.__class__"))
  get : PySem.W.specialIn K (.builtin "object.__class__") "__get__" = some (some (.builtin "getset_descriptor.__get__"))
  tks : PySem.W.takesIn K (.builtin "object.__class__") = some true
  mro : ∀ c : Cd, PySem.W.mroIn K (T.of c) (.type "object") = some true
  mc : mg "Cond" = some (.ref CC)
  mt : mg "Truth" = some (.ref T.t)
  ms : mg "Same" = some (.ref T.s)
  ma : mg "AllOf" = some (.ref T.a)
  mo : mg "OneOf" = some (.ref T.o)
  mp : mg "Opposite" = some (.ref T.p)
def sortsB (c : Cd) : List Bool := [tg c == 0, tg c == 1, tg c == 2, tg c == 3, tg c == 4]
def spSorts (T : Cl) : Sp := fun vs H Q _ => ∃ (v : V) (c : Cd), vs = [v] ∧ IsC T H c v ∧ ∀ (r : Addr) (H' : Hp), Same H H' → H' r = some (.lst ((sortsB c).map V.bl)) → Q (.ref r) H'
def spCellIs : Sp := fun vs H Q _ => ∃ (k : Key), vs = [kV k, kV k] ∧ Q (.bl true) H
section
variable {P : Program} {w : World} {K : PySem.W.Frag} {mg : Str → Option Value} {base : Heap} {f : Addr} {fd : FuncData} {T : Cl} {CC : Addr}
theorem ty_c {H : Hp} {c : Cd} {v : V} (Z : Tc K mg T CC) (I : Isb K mg T CC) (h : IsC T H c v) : TyOf K H v (.ref (T.of c)) := by
  obtain ⟨a, dx, fs, rfl, ha, _⟩ := isC_iff.mp h
  exact TyOf.ins ha (Z.z.cl c) (I.cls c) I.get I.tks (I.mro c)
theorem rel_ref {a : Addr} : ∀ u, RelV (.ref a) u → u = .ref a := fun u r => r
theorem scSo : FnScope ["_law_cond", "_law_told_here"] ["_law_cond"] (defScope sSorts) := ⟨rfl, rfl, rfl, by decide +kernel, rfl, by decide +kernel, by decide +kernel⟩
theorem ok_sorts (Fn : Fun K "_law_sorts" "_law_sorts" sSorts f fd) (Z : Tc K mg T CC) (I : Isb K mg T CC) : FnOk P w K mg base CX0 1 f fd ["_law_cond"] (spSorts T) := by
  refine Fn.ok scSo (fun vs H Q E h => ?_) (fun cdv A outer s H vs Q E hr h => ?_)
  · obtain ⟨v, c, rfl, _⟩ := h
    rfl
  obtain ⟨v, c, rfl, hC, q⟩ := h
  refine ⟨_, pss_cons (ps_set (i := 1) scSo.nd rfl (Or.inl rfl) (pe_lst (pa_cons (pe_callB call_isi rfl Z.x.isi PyProof.Rows.boot_isinstance (pa_cons (pv 0) (pa_cons (pe_glob (v := .ref T.t) rfl I.mt rfl) pa_nil))) (pa_cons (pe_callB call_isi rfl Z.x.isi PyProof.Rows.boot_isinstance (pa_cons (pv 0) (pa_cons (pe_glob (v := .ref T.s) rfl I.ms rfl) pa_nil)))
      (pa_cons (pe_callB call_isi rfl Z.x.isi PyProof.Rows.boot_isinstance (pa_cons (pv 0) (pa_cons (pe_glob (v := .ref T.a) rfl I.ma rfl) pa_nil))) (pa_cons (pe_callB call_isi rfl Z.x.isi PyProof.Rows.boot_isinstance (pa_cons (pv 0) (pa_cons (pe_glob (v := .ref T.o) rfl I.mo rfl) pa_nil))) pa_nil))))))
    (pss_one (ps_ret (pe_op op_cat (pv 1) (pe_lst (pa_cons (pe_callB call_isi rfl Z.x.isi PyProof.Rows.boot_isinstance (pa_cons (pv 0) (pa_cons (pe_glob (v := .ref T.p) rfl I.mp rfl) pa_nil))) pa_nil))))), ?_⟩
  have ty := ty_c Z I hC
  refine ⟨_, rfl, _, _, _, _, _, rfl, rel_ref, ty, I.ist c, _, rfl, _, _, _, _, _, rfl, rel_ref, ty, I.iss c, _, rfl, _, _, _, _, _, rfl, rel_ref, ty, I.isa c, _, rfl, _, _, _, _, _, rfl, rel_ref, ty, I.iso c, small (by simp), fun r1 h1 => ?_⟩
  have w1 := same_new h1 (.lst [.bl (tg c == 0), .bl (tg c == 1), .bl (tg c == 2), .bl (tg c == 3)])
  refine ⟨_, rfl, _, rfl, _, _, _, _, _, rfl, rel_ref, ty_c Z I (hC.kp (.of w1)), I.isp c, small (by simp), fun r2 h2 => ?_⟩
  have w2 := same_new h2 (.lst [.bl (tg c == 4)])
  refine ⟨r1, r2, _, _, rfl, rfl, w2 _ _ upd_same, upd_same, small (by simp), fun r h => ?_⟩
  exact q r _ (w1.trans (w2.trans (same_new h _))) upd_same
theorem kit_ib (K : PySem.W.Frag) : PySem.W.kitOne K (.type "int") (.type "bool") = some false := by kernel_rfl
theorem scCI2 : FnScope ["_law_found", "_law_due"] ["_law_found", "_law_due"] (defScope sCellIs) := ⟨rfl, rfl, rfl, by decide +kernel, rfl, by decide +kernel, by decide +kernel⟩
theorem ok_cellis (Fn : Fun K "_law_cell_is" "_law_cell_is" sCellIs f fd) (X : Txt mg) (X2 : Txt2 mg) : FnOk P w K mg base CX0 1 f fd ["_law_found", "_law_due"] spCellIs := by
  refine Fn.ok scCI2 (fun vs H Q E h => ?_) (fun cdv A outer s H vs Q E hr h => ?_)
  · obtain ⟨k, rfl, _⟩ := h
    rfl
  obtain ⟨k, rfl, q⟩ := h
  refine ⟨_, pss_cons (ps_if (pt_val (pe_callB call_isi rfl X.isi PyProof.Rows.boot_isinstance (pa_cons (pv 1) (pa_cons (pe_bltn (v := .ty "str") rfl X.str PyProof.Rows.boot_str rfl) pa_nil))))
      (pss_one (ps_ret (pe_and (pe_callB call_isi rfl X.isi PyProof.Rows.boot_isinstance (pa_cons (pv 0) (pa_cons (pe_bltn (v := .ty "str") rfl X.str PyProof.Rows.boot_str rfl) pa_nil))) (pe_one (pe_cmpR op_eq (pv 0) (pv 1) (nomark _)))))) pss_nil)
    (pss_one (ps_ret (pe_and (pe_callB call_isi rfl X.isi PyProof.Rows.boot_isinstance (pa_cons (pv 0) (pa_cons (pe_bltn (v := .ty "int") rfl X2.int PyProof.Rows.boot_int rfl) pa_nil))) (pe_and (pe_not (pe_callB call_isi rfl X.isi PyProof.Rows.boot_isinstance (pa_cons (pv 0) (pa_cons (pe_bltn (v := .ty "bool") rfl X.bool PyProof.Rows.boot_bool rfl) pa_nil)))) (pe_one (pe_cmpR op_eq (pv 0) (pv 1) (nomark _))))))), ?_⟩
  cases k with
  | inr x =>
    refine ⟨_, rfl, _, _, _, _, _, rfl, rel_ty, .str x, kit_ss K "str", _, rfl, ?_⟩
    refine iteT ⟨_, rfl, _, _, _, _, _, rfl, rel_ty, .str x, kit_ss K "str", _, rfl, ?_⟩
    refine iteT ⟨_, rfl, _, rfl, rfl, ?_⟩
    rw [decide_eq_true rfl]
    exact q
  | inl i =>
    refine ⟨_, rfl, _, _, _, _, _, rfl, rel_ty, .int i, kit_is K, _, rfl, ?_⟩
    refine iteF ⟨_, rfl, _, _, _, _, _, rfl, rel_ty, .int i, kit_ss K "int", _, rfl, ?_⟩
    refine iteT ⟨_, rfl, _, _, _, _, _, rfl, rel_ty, .int i, kit_ib K, _, rfl, _, rfl, ?_⟩
    refine iteT ⟨_, rfl, _, rfl, rfl, ?_⟩
    rw [decide_eq_true rfl]
    exact q
end
end K12
set_option maxHeartbeats 4000000
namespace K12
open PySem L2 CD
def rk (t : Tr) : Nat := 2 * dT t + (match t with | .two _ => 1 | _ => 0)
theorem rk_pos (t : Tr) : 0 < rk t := by
  have := dT_pos t
  unfold rk; omega
theorem rk_le (t : Tr) : rk t ≤ 2 * dT t + 1 := by
  unfold rk
  split <;> omega
mutual
def wT : Tr → Nat
  | .truth _ => 0
  | .same _ _ => 0
  | .all l => max l.length (wL l)
  | .one l => max l.length (wL l)
  | .opp t => wT t
  | .two t => max 2 (wT t)
def wL : List Tr → Nat
  | [] => 0
  | t :: r => max (wT t) (wL r)
end
mutual
theorem wT_le : ∀ t : Tr, wT t ≤ nT t + 2
  | .truth _ => by simp [wT]
  | .same _ _ => by simp [wT]
  | .all l => by
    have := wL_le l
    have := nL_len l
    simp only [wT, nT]; omega
  | .one l => by
    have := wL_le l
    have := nL_len l
    simp only [wT, nT]; omega
  | .opp t => by
    have := wT_le t
    simp only [wT, nT]; omega
  | .two t => by
    have := wT_le t
    simp only [wT, nT]; omega
theorem wL_le : ∀ l : List Tr, wL l ≤ nL l + 2
  | [] => by simp [wL]
  | t :: r => by
    have := wT_le t
    have := wL_le r
    simp only [wL, nL]; omega
end
theorem wL_mem {t : Tr} : ∀ {l : List Tr}, t ∈ l → wT t ≤ wL l
  | d :: r, h => by
    rcases List.mem_cons.mp h with rfl | h
    · simp only [wL]; omega
    · have := wL_mem h
      simp only [wL]; omega
def spIs (T : Cl) (d : Nat) : Sp := fun vs H Q _ => ∃ (v tv : V) (t : Tr), vs = [v, tv] ∧ IsC T H (toC t) v ∧ IsT H t tv ∧ rk t ≤ d ∧ wT t ≤ 900 ∧ ∀ H', Same H H' → Q (.bl true) H'
def wordsV : List V := [.str "truth", .str "same", .str "all", .str "one", .str "not"]
theorem paired_self {K : PySem.W.Frag} {H : Hp} : ∀ {xs : List V}, (∀ x ∈ xs, flatV x = true) → Paired (EqT K H) xs xs
  | [], _ => .nil
  | x :: r, h => .cons (.flat (h x List.mem_cons_self)) (paired_self fun y hy => h y (List.mem_cons_of_mem _ hy))
theorem all_id_true (n : Nat) : (List.replicate n true).all id = true := by
  rw [List.all_eq_true]
  intro x hx
  rw [(List.mem_replicate.mp hx).2]
  rfl
section
variable {P : Program} {w : World} {K : PySem.W.Frag} {mg : Str → Option Value} {base : Heap} {f : Addr} {fd : FuncData} {T : Cl} {CC : Addr}
theorem scIs : FnScope ["_law_cond", "_law_tree_here"] ["_law_cond", "_law_tree_here"] (defScope sIs) := ⟨rfl, rfl, rfl, by decide +kernel, rfl, by decide +kernel, by decide +kernel⟩
theorem ok_is (Fn : Fun K "_law_is" "_law_is" sIs f fd) (bd : Binds K fd ["_law_cond", "_law_tree_here"] []) (kp : PySem.W.keepIn K (.ref f) = true) (mm : mg "_law_is" = some (.ref f)) (Z : Tc K mg T CC) (I : Isb K mg T CC) (X2 : Txt2 mg)
    (C1 : Cal P w K mg base "_law_sorts" 1 ["_law_cond"] (spSorts T)) (C2 : Cal P w K mg base "_law_cell_is" 1 ["_law_found", "_law_due"] spCellIs) : ∀ d, FnOk P w K mg base CX0 (2 + d) f fd ["_law_cond", "_law_tree_here"] (spIs T d)
  | 0 => by
    refine ⟨fun vs H Q E h => ?_, fun A outer s H args us vs Q E hr e0 hb r h => ?_⟩
    · obtain ⟨v, tv, t, rfl, _⟩ := h
      rfl
    · obtain ⟨v, tv, t, _, _, _, hd, _⟩ := h
      have := rk_pos t
      exact absurd hd (by omega)
  | d + 1 => by
    have ih := ok_is Fn bd kp mm Z I X2 C1 C2 d
    obtain ⟨f1, d1, G1, b1, k1, m1⟩ := C1
    obtain ⟨f2, d2, G2, b2, k2, m2⟩ := C2
    refine Fn.ok (k := 2 + d) scIs (fun vs H Q E h => ?_) (fun cdv A outer s H vs Q E hr h => ?_)
    · obtain ⟨v, tv, t, rfl, _⟩ := h
      rfl
    obtain ⟨v, tv, t, rfl, hC, hT, hd, hn, q⟩ := h
    have hu8 := hu8_of hr
    have hr1 : Room 1 _ := hr.mono (by omega)
    refine ⟨_, pss_cons (ps_if (pt_not (pt_val (pe_callB call_isi rfl Z.x.isi PyProof.Rows.boot_isinstance (pa_cons (pv 0) (pa_cons (pe_glob (v := .ref CC) rfl I.mc rfl) pa_nil))))) pss_never pss_nil)
      (pss_cons (ps_if (pt_cmpR op_eq (pe_ix ix_tup (pv 1) pe_int (fun _ _ => rfl)) pe_str (nomark _)) (pss_one (ps_ret (pe_call ih hr rfl mm kp bd .nil pass0 (pa_cons (pv 0) (pa_cons (pe_tup (pa_cons (pe_ix ix_tup (pv 1) pe_int (fun _ _ => rfl)) (pa_cons pe_str (pa_cons (pe_lst (pa_cons (pe_ix ix_tup (pv 1) pe_int (fun _ _ => rfl)) (pa_cons (pe_ix ix_tup (pv 1) pe_int (fun _ _ => rfl)) pa_nil))) pa_nil)))) pa_nil))))) pss_nil)
      (pss_cons (ps_if (pt_cmpR (op_ne_deep hu8) (pe_call G1 hr1 rfl m1 k1 b1 .nil pass0 (pa_cons (pv 0) pa_nil))
          (pe_lcG (caps := [("_law_tree_here", 1)]) ["_law_word"] rfl (pi_list (pe_lst (pa_cons pe_str (pa_cons pe_str (pa_cons pe_str (pa_cons pe_str (pa_cons pe_str pa_nil))))))) ⟨rfl, by decide +kernel, by decide +kernel, rfl, .cons rfl (.inl rfl) rfl .nil, rfl, rfl, rfl⟩
            (fun s H ex => pg_name (X := cxLG _ _ _ _ s H ex) (i := 0) (nd2 (by decide)) rfl (Or.inl rfl) (.inr rfl)) (fun s H ex => pif_nil)
            (fun s H ex => pe_cmpR op_eq (pe_ix (X := cxLG _ _ _ _ s H ex) (ix_tupK (K := K) rfl) (pe_var (X := cxLG _ _ _ _ s H ex) (i := 1) rfl (Or.inr (Or.inl rfl))) pe_int (fun _ _ => rfl)) (pe_var (X := cxLG _ _ _ _ s H ex) (i := 0) rfl (Or.inl rfl)) (nomark _))) (nomark _)) pss_never pss_nil)
      (pss_cons (ps_if (pt_cmpR op_eq (pe_ix ix_tup (pv 1) pe_int (fun _ _ => rfl)) pe_str (nomark _)) (pss_one (ps_ret (pe_and (pe_callB call_isi_bool rfl Z.x.isi PyProof.Rows.boot_isinstance (pa_cons (pe_fld (pv 0) rfl) (pa_cons (pe_bltn (v := .ty "bool") rfl Z.x.bool PyProof.Rows.boot_bool rfl) pa_nil))) (pe_one (pe_cmpR op_eq (pe_fld (pv 0) rfl) (pe_ix ix_tup (pv 1) pe_int (fun _ _ => rfl)) (nomark _)))))) pss_nil)
      (pss_cons (ps_if (pt_cmpR op_eq (pe_ix ix_tup (pv 1) pe_int (fun _ _ => rfl)) pe_str (nomark _)) (pss_one (ps_ret (pe_and (pe_call G2 hr1 rfl m2 k2 b2 .nil pass0 (pa_cons (pe_fld (pv 0) rfl) (pa_cons (pe_ix ix_tup (pv 1) pe_int (fun _ _ => rfl)) pa_nil))) (pe_one (pe_call G2 hr1 rfl m2 k2 b2 .nil pass0 (pa_cons (pe_fld (pv 0) rfl) (pa_cons (pe_ix ix_tup (pv 1) pe_int (fun _ _ => rfl)) pa_nil))))))) pss_nil)
      (pss_cons (ps_if (pt_cmpR op_eq (pe_ix ix_tup (pv 1) pe_int (fun _ _ => rfl)) pe_str (nomark _)) (pss_one (ps_ret (pe_call ih hr rfl mm kp bd .nil pass0 (pa_cons (pe_fld (pv 0) rfl) (pa_cons (pe_ix ix_tup (pv 1) pe_int (fun _ _ => rfl)) pa_nil))))) pss_nil)
      (pss_cons (ps_if (PW.pt (pw_or (pt_not (pt_val (pe_callB call_isi rfl Z.x.isi PyProof.Rows.boot_isinstance (pa_cons (pe_fld (pv 0) rfl) (pa_cons (pe_bltn (v := .ty "tuple") rfl Z.x.tuple PyProof.Rows.boot_tuple rfl) pa_nil))))) (pw_or1 (pt_cmpR op_ne (pe_callB call_len_seq rfl Z.x.len PySem.boot_len (pa_cons (pe_fld (pv 0) rfl) pa_nil)) (pe_callB call_len_seq rfl Z.x.len PySem.boot_len (pa_cons (pe_ix ix_tup (pv 1) pe_int (fun _ _ => rfl)) pa_nil)) (nomark _))))) pss_never pss_nil)
      (pss_one (ps_ret (pe_callB (call_all_bls rfl) rfl X2.all PyProof.Rows.boot_all (pa_cons
        (pe_lcG (caps := []) ["_law_part", "_law_due"] rfl (pi_zip rfl X2.zip (pa_cons (pe_fld (pv 0) rfl) (pa_cons (pe_ix ix_tup (pv 1) pe_int (fun _ _ => rfl)) pa_nil))) ⟨rfl, by decide +kernel, by decide +kernel, rfl, .nil, rfl, rfl, rfl⟩
          (fun s H ex => pg_tupK (K := K) (n := 2) rfl rfl (pgs_cons (pg_name (X := cxLG _ _ _ _ s H ex) (i := 0) (nd2 (by decide)) rfl (Or.inl rfl) (.inr rfl)) (pgs_cons (pg_name (X := cxLG _ _ _ _ s H ex) (i := 1) (nd2 (by decide)) rfl (Or.inl rfl) (.inr rfl)) pgs_nil))) (fun s H ex => pif_nil)
          (fun s H ex => pe_call (X := cxLG _ _ _ _ s H ex) ih hr rfl mm kp bd .nil pass0 (pa_cons (pe_var (X := cxLG _ _ _ _ s H ex) (i := 0) rfl (Or.inl rfl)) (pa_cons (pe_var (X := cxLG _ _ _ _ s H ex) (i := 1) rfl (Or.inl rfl)) pa_nil)))) pa_nil)))))))))), ?_⟩
    refine ⟨_, rfl, _, _, _, _, _, rfl, rel_ref, ty_c Z I hC, I.isc _, _, rfl, ?_⟩
    refine iteF ?_
    have many : ∀ (l : List Tr) (tp p : Addr) (cs xs : List V) (H2 : Hp), Same H H2 → H2 tp = some (.tup cs) → H2 p = some (.lst xs) → IsL T H2 (toL l) cs → IsTL H2 l xs → (∀ t ∈ l, rk t ≤ d) → l.length ≤ 900 → wL l ≤ 900 → ∀ (D : Addr), H2 D = none → ∀ (R : Hp → Prop),
        (∀ (H3 : Hp), Same H H3 → H3 D = some (.lst ((List.replicate l.length true).map V.bl)) → R H3) →
        ∃ W : Nat → Nat → St → Hp → Prop, (∃ m, W 0 m [none, none] (upd H2 D (.lst []))) ∧ ∀ i m σ' H', W i m σ' H' →
          ((Itz K tp p).stop i H' ∧ R H') ∨ ((Itz K tp p).go i H' ∧ ∃ N : St → Hp → Prop, (∀ σ2 H2, N σ2 H2 → ∃ m', m' < m ∧ W (i + 1) m' σ2 H2) ∧
            ∀ x H2, (Itz K tp p).yld i H' x H2 → (gTup K 2 (gCons (gName 0) (gCons (gName 1) gNil))) x σ' H2 fun σ3 H3 => tYes σ3 H3 fun b H4 => if b = true then (tCall (spIs T d) [] E0 (tCons (tVar 0) (tCons (tVar 1) tNil))) σ3 H4 fun y H5 => ∃ zs, H5 D = some (.lst zs) ∧ zs.length < sizeLine ∧ N σ3 (upd H5 D (.lst (zs ++ [y]))) else N σ3 H4) := by
      intro l tp p cs xs H2 s2 htp hp hL hTL hrk ll hnl D hD R hR
      have e1 := isL_len hL
      have e2 := isTL_len hTL
      rw [toL_len] at e1
      refine lcg_zipR (K := K) (a := tp) (b := p) (xs := cs) (ys := xs) (by omega) (fun i σ H3 => ∃ (u u' : Option V), σ = [u, u'] ∧ Same H2 H3 ∧ H3 D = some (.lst ((List.replicate i true).map V.bl)))
        ⟨none, none, rfl, same_new hD _, upd_same⟩ (fun i σ H3 _ ⟨_, _, _, s3, _⟩ => ⟨SqT.of (s3 _ _ htp), SqL.of (s3 _ _ hp)⟩) ?_ ?_
      · rintro i x y Tt σ H3 hi hj hTt ⟨u, u', rfl, s3, h3⟩
        obtain ⟨c', hc', hC'⟩ := isL_get hL hi
        obtain ⟨t', ht', hT'⟩ := isTL_get hTL hj
        have ec : c' = toC t' := by
          rw [toL_map, List.getElem?_map, ht'] at hc'
          exact (Option.some.inj hc').symm
        subst ec
        have tm := List.mem_of_getElem? ht'
        have nm := wL_mem tm
        have wT := same_new hTt (.tup [x, y])
        have s4 := s3.trans wT
        refine ⟨Tt, [x, y], rfl, SqT.of upd_same, rfl, _, _, rfl, _, _, rfl, rfl, ?_⟩
        refine ⟨_, rfl, _, rfl, x, y, t', rfl, hC'.kp (.of s4), hT'.keep s4, hrk t' tm, by omega, fun H5 s5 => ⟨_, s5 _ _ (wT _ _ h3), ?_, _, _, rfl, same_upd (s4.trans s5) hD _, ?_⟩⟩
        · rw [List.length_map, List.length_replicate]
          have : i < cs.length := (List.getElem?_eq_some_iff.mp hi).1
          exact small1000 (by omega)
        · rw [upd_same, List.replicate_succ', List.map_append]; rfl
      · rintro σ H3 ⟨u, u', rfl, s3, h3⟩
        rw [← e1] at h3
        exact hR H3 (s2.trans s3) h3
    cases t with
    | two c =>
      simp only [IsT] at hT
      obtain ⟨a, u, rfl, ha, hu⟩ := hT
      have ha' := SqT.of (K := K) ha
      refine ⟨_, rfl, a, _, _, _, rfl, rfl, ha', rfl, rfl, _, rfl, ?_⟩
      refine iteTd (by decide +kernel) ?_
      refine ⟨_, rfl, _, rfl, a, _, _, _, rfl, rfl, ha', rfl, _, rfl, a, _, _, _, rfl, rfl, ha', rfl, _, rfl, a, _, _, _, rfl, rfl, ha', rfl, small (by simp), fun l1 h1 => ⟨small (by simp), fun t1 h2 => ?_⟩⟩
      have w1 := same_new h1 (.lst [u, u])
      have w2 := w1.trans (same_new h2 (.tup [.int (dT c + 1 : Nat), .str "all", .ref l1]))
      have edL : dL [c, c] = dT c := by simp [dL, dT, toL, depthL]
      refine ⟨v, .ref t1, .all [c, c], rfl, hC.kp (.of w2), ?_, ?_, ?_, fun H' s' => q H' (w2.trans s')⟩
      · simp only [IsT]
        refine ⟨t1, l1, [u, u], rfl, ?_, (same_new h2 _) _ _ upd_same, ?_⟩
        · rw [upd_same, edL]
        · simp only [IsTL]
          exact ⟨u, [u], rfl, hu.keep w2, u, [], rfl, hu.keep w2, rfl⟩
      · have h0 : rk (.two c) = 2 * dT (.two c) + 1 := rfl
        have h1' : rk (.all [c, c]) = 2 * dT (.all [c, c]) := rfl
        have h2' : dT (.all [c, c]) = dT (.two c) := by rw [dT_all, dT_two, edL]
        omega
      · simp only [wT] at hn
        simp only [wT, wL, List.length_cons, List.length_nil]
        omega
    | truth b =>
      simp only [IsT] at hT
      obtain ⟨a, rfl, ha⟩ := hT
      have ha' := SqT.of (K := K) ha
      refine ⟨_, rfl, a, _, _, _, rfl, rfl, ha', rfl, rfl, _, rfl, ?_⟩
      refine iteFd (by decide +kernel) ?_
      refine ⟨_, rfl, v, toC (.truth b), rfl, hC, fun r1 H1 s1 h1 => ?_⟩
      refine ⟨small (by simp), fun lw hlw => ⟨lw, rfl, ⟨_, SqL.of upd_same⟩, fun D hD => ?_⟩⟩
      have w1 := s1.trans (same_new hlw (.lst wordsV))
      have h1' := (same_new hlw (.lst wordsV)) _ _ h1
      have hlw' : (upd H1 lw (.lst wordsV)) lw = some (.lst wordsV) := upd_same
      refine lcg_listR (K := K) (a := lw) (xs := wordsV) (fun i σ H3 => ∃ u, σ = [u, some (.ref a)] ∧ Same (upd H1 lw (.lst wordsV)) H3 ∧ H3 D = some (.lst ((wordsV.take i).map fun x => V.bl (decide (V.str "truth" = x)))))
        ⟨none, rfl, same_new hD _, upd_same⟩ (fun i σ H3 _ ⟨_, _, s3, _⟩ => SqL.of (s3 _ _ hlw')) ?_ ?_
      · rintro i x σ H3 hi ⟨u, rfl, s3, h3⟩
        have hs : ∃ z, x = V.str z := by
          have := List.mem_of_getElem? hi
          unfold wordsV at this
          simp only [List.mem_cons, List.not_mem_nil, or_false] at this
          rcases this with rfl | rfl | rfl | rfl | rfl <;> exact ⟨_, rfl⟩
        obtain ⟨z, rfl⟩ := hs
        refine ⟨_, rfl, a, _, _, _, rfl, rfl, SqT.of ((w1.trans s3) _ _ ha), rfl, _, rfl, rfl, _, h3, ?_, _, rfl, same_upd s3 hD _, ?_⟩
        · rw [List.length_map, List.length_take]
          exact small1000 (by unfold wordsV; simp; omega)
        · rw [upd_same, take_snoc hi, List.map_append]; rfl
      rintro σ H3 ⟨u, rfl, s3, h3⟩
      have w3 := w1.trans s3
      have e3 : (wordsV.take wordsV.length).map (fun x => V.bl (decide (V.str "truth" = x))) = (sortsB (toC (.truth b))).map V.bl := by simp only [toC]; show _ = ([(0 : Nat) == 0, (0 : Nat) == 1, (0 : Nat) == 2, (0 : Nat) == 3, (0 : Nat) == 4] : List Bool).map V.bl; unfold wordsV; decide +kernel
      rw [e3] at h3
      refine ⟨r1, D, _, _, rfl, rfl, SqL.of (s3 _ _ h1'), SqL.of h3, paired_self (fun x hx => by obtain ⟨b, _, rfl⟩ := List.mem_map.mp hx; rfl), _, rfl, ?_⟩
      refine iteF ?_
      have ha3 := SqT.of (K := K) (w3 _ _ ha)
      refine ⟨_, rfl, a, _, _, _, rfl, rfl, ha3, rfl, rfl, _, rfl, ?_⟩
      refine iteTd (by decide +kernel) ?_
      have hC3 := hC.kp (.of w3)
      simp only [toC] at hC3
      obtain ⟨av, dx, fs, rfl, hav, _, _, hO⟩ := isC_iff.mp hC3
      refine ⟨_, rfl, av, T.t, dx, fs, _, rfl, hav, Z.z.cl (.truth b), Z.z.nsd, hO, _, rfl, _, rfl, ?_⟩
      refine iteT ⟨_, rfl, av, T.t, dx, fs, _, rfl, hav, Z.z.cl (.truth b), Z.z.nsd, hO, _, rfl, a, _, _, _, rfl, rfl, ha3, rfl, rfl, ?_⟩
      rw [decide_eq_true rfl]
      exact q H3 w3
    | same x y =>
      simp only [IsT] at hT
      obtain ⟨a, rfl, ha⟩ := hT
      have ha' := SqT.of (K := K) ha
      refine ⟨_, rfl, a, _, _, _, rfl, rfl, ha', rfl, rfl, _, rfl, ?_⟩
      refine iteFd (by decide +kernel) ?_
      refine ⟨_, rfl, v, toC (.same x y), rfl, hC, fun r1 H1 s1 h1 => ?_⟩
      refine ⟨small (by simp), fun lw hlw => ⟨lw, rfl, ⟨_, SqL.of upd_same⟩, fun D hD => ?_⟩⟩
      have w1 := s1.trans (same_new hlw (.lst wordsV))
      have h1' := (same_new hlw (.lst wordsV)) _ _ h1
      have hlw' : (upd H1 lw (.lst wordsV)) lw = some (.lst wordsV) := upd_same
      refine lcg_listR (K := K) (a := lw) (xs := wordsV) (fun i σ H3 => ∃ u, σ = [u, some (.ref a)] ∧ Same (upd H1 lw (.lst wordsV)) H3 ∧ H3 D = some (.lst ((wordsV.take i).map fun x => V.bl (decide (V.str "same" = x)))))
        ⟨none, rfl, same_new hD _, upd_same⟩ (fun i σ H3 _ ⟨_, _, s3, _⟩ => SqL.of (s3 _ _ hlw')) ?_ ?_
      · rintro i x σ H3 hi ⟨u, rfl, s3, h3⟩
        have hs : ∃ z, x = V.str z := by
          have := List.mem_of_getElem? hi
          unfold wordsV at this
          simp only [List.mem_cons, List.not_mem_nil, or_false] at this
          rcases this with rfl | rfl | rfl | rfl | rfl <;> exact ⟨_, rfl⟩
        obtain ⟨z, rfl⟩ := hs
        refine ⟨_, rfl, a, _, _, _, rfl, rfl, SqT.of ((w1.trans s3) _ _ ha), rfl, _, rfl, rfl, _, h3, ?_, _, rfl, same_upd s3 hD _, ?_⟩
        · rw [List.length_map, List.length_take]
          exact small1000 (by unfold wordsV; simp; omega)
        · rw [upd_same, take_snoc hi, List.map_append]; rfl
      rintro σ H3 ⟨u, rfl, s3, h3⟩
      have w3 := w1.trans s3
      have e3 : (wordsV.take wordsV.length).map (fun x => V.bl (decide (V.str "same" = x))) = (sortsB (toC (.same x y))).map V.bl := by simp only [toC]; show _ = ([(1 : Nat) == 0, (1 : Nat) == 1, (1 : Nat) == 2, (1 : Nat) == 3, (1 : Nat) == 4] : List Bool).map V.bl; unfold wordsV; decide +kernel
      rw [e3] at h3
      refine ⟨r1, D, _, _, rfl, rfl, SqL.of (s3 _ _ h1'), SqL.of h3, paired_self (fun x hx => by obtain ⟨b, _, rfl⟩ := List.mem_map.mp hx; rfl), _, rfl, ?_⟩
      refine iteF ?_
      have ha3 := SqT.of (K := K) (w3 _ _ ha)
      refine ⟨_, rfl, a, _, _, _, rfl, rfl, ha3, rfl, rfl, _, rfl, ?_⟩
      refine iteFd (by decide +kernel) ?_
      refine ⟨_, rfl, a, _, _, _, rfl, rfl, ha3, rfl, rfl, _, rfl, ?_⟩
      refine iteTd (by decide +kernel) ?_
      have hC3 := hC.kp (.of w3)
      simp only [toC] at hC3
      obtain ⟨av, dx, fs, rfl, hav, _, _, hO1, hO2⟩ := isC_iff.mp hC3
      refine ⟨_, rfl, av, T.s, dx, fs, _, rfl, hav, Z.z.cl (.same x y), Z.z.no1, hO1, _, rfl, a, _, _, _, rfl, rfl, ha3, rfl, x, rfl, _, rfl, ?_⟩
      refine iteT ⟨_, rfl, av, T.s, dx, fs, _, rfl, hav, Z.z.cl (.same x y), Z.z.no2, hO2, _, rfl, a, _, _, _, rfl, rfl, ha3, rfl, y, rfl, ?_⟩
      exact q H3 w3
    | opp c =>
      simp only [IsT] at hT
      obtain ⟨a, u0, rfl, ha, hu⟩ := hT
      have ha' := SqT.of (K := K) ha
      refine ⟨_, rfl, a, _, _, _, rfl, rfl, ha', rfl, rfl, _, rfl, ?_⟩
      refine iteFd (by decide +kernel) ?_
      refine ⟨_, rfl, v, toC (.opp c), rfl, hC, fun r1 H1 s1 h1 => ?_⟩
      refine ⟨small (by simp), fun lw hlw => ⟨lw, rfl, ⟨_, SqL.of upd_same⟩, fun D hD => ?_⟩⟩
      have w1 := s1.trans (same_new hlw (.lst wordsV))
      have h1' := (same_new hlw (.lst wordsV)) _ _ h1
      have hlw' : (upd H1 lw (.lst wordsV)) lw = some (.lst wordsV) := upd_same
      refine lcg_listR (K := K) (a := lw) (xs := wordsV) (fun i σ H3 => ∃ u, σ = [u, some (.ref a)] ∧ Same (upd H1 lw (.lst wordsV)) H3 ∧ H3 D = some (.lst ((wordsV.take i).map fun x => V.bl (decide (V.str "not" = x)))))
        ⟨none, rfl, same_new hD _, upd_same⟩ (fun i σ H3 _ ⟨_, _, s3, _⟩ => SqL.of (s3 _ _ hlw')) ?_ ?_
      · rintro i x σ H3 hi ⟨u, rfl, s3, h3⟩
        have hs : ∃ z, x = V.str z := by
          have := List.mem_of_getElem? hi
          unfold wordsV at this
          simp only [List.mem_cons, List.not_mem_nil, or_false] at this
          rcases this with rfl | rfl | rfl | rfl | rfl <;> exact ⟨_, rfl⟩
        obtain ⟨z, rfl⟩ := hs
        refine ⟨_, rfl, a, _, _, _, rfl, rfl, SqT.of ((w1.trans s3) _ _ ha), rfl, _, rfl, rfl, _, h3, ?_, _, rfl, same_upd s3 hD _, ?_⟩
        · rw [List.length_map, List.length_take]
          exact small1000 (by unfold wordsV; simp; omega)
        · rw [upd_same, take_snoc hi, List.map_append]; rfl
      rintro σ H3 ⟨u, rfl, s3, h3⟩
      have w3 := w1.trans s3
      have e3 : (wordsV.take wordsV.length).map (fun x => V.bl (decide (V.str "not" = x))) = (sortsB (toC (.opp c))).map V.bl := by simp only [toC]; show _ = ([(4 : Nat) == 0, (4 : Nat) == 1, (4 : Nat) == 2, (4 : Nat) == 3, (4 : Nat) == 4] : List Bool).map V.bl; unfold wordsV; decide +kernel
      rw [e3] at h3
      refine ⟨r1, D, _, _, rfl, rfl, SqL.of (s3 _ _ h1'), SqL.of h3, paired_self (fun x hx => by obtain ⟨b, _, rfl⟩ := List.mem_map.mp hx; rfl), _, rfl, ?_⟩
      refine iteF ?_
      have ha3 := SqT.of (K := K) (w3 _ _ ha)
      refine ⟨_, rfl, a, _, _, _, rfl, rfl, ha3, rfl, rfl, _, rfl, ?_⟩
      refine iteFd (by decide +kernel) ?_
      refine ⟨_, rfl, a, _, _, _, rfl, rfl, ha3, rfl, rfl, _, rfl, ?_⟩
      refine iteFd (by decide +kernel) ?_
      refine ⟨_, rfl, a, _, _, _, rfl, rfl, ha3, rfl, rfl, _, rfl, ?_⟩
      refine iteTd (by decide +kernel) ?_
      have hC3 := hC.kp (.of w3)
      simp only [toC] at hC3
      obtain ⟨av, dx, fs, rfl, hav, _, _, w0, hO1, hO2⟩ := isC_iff.mp hC3
      have r1' := rk_le c
      have r2' : rk (.opp c) = 2 * dT (.opp c) := rfl
      rw [dT_opp] at r2'
      simp only [wT] at hn
      exact ⟨_, rfl, av, T.p, dx, fs, _, rfl, hav, Z.z.cl (.opp (toC c)), Z.z.npp, hO1, _, rfl, a, _, _, _, rfl, rfl, ha3, rfl, w0, u0, c, rfl, hO2, hu.keep w3, by omega, by omega, fun H' s' => q H' (w3.trans s')⟩
    | all l =>
      simp only [IsT] at hT
      obtain ⟨a, p, xs, rfl, ha, hp, hTL⟩ := hT
      have ha' := SqT.of (K := K) ha
      refine ⟨_, rfl, a, _, _, _, rfl, rfl, ha', rfl, rfl, _, rfl, ?_⟩
      refine iteFd (by decide +kernel) ?_
      refine ⟨_, rfl, v, toC (.all l), rfl, hC, fun r1 H1 s1 h1 => ?_⟩
      refine ⟨small (by simp), fun lw hlw => ⟨lw, rfl, ⟨_, SqL.of upd_same⟩, fun D hD => ?_⟩⟩
      have w1 := s1.trans (same_new hlw (.lst wordsV))
      have h1' := (same_new hlw (.lst wordsV)) _ _ h1
      have hlw' : (upd H1 lw (.lst wordsV)) lw = some (.lst wordsV) := upd_same
      refine lcg_listR (K := K) (a := lw) (xs := wordsV) (fun i σ H3 => ∃ u, σ = [u, some (.ref a)] ∧ Same (upd H1 lw (.lst wordsV)) H3 ∧ H3 D = some (.lst ((wordsV.take i).map fun x => V.bl (decide (V.str "all" = x)))))
        ⟨none, rfl, same_new hD _, upd_same⟩ (fun i σ H3 _ ⟨_, _, s3, _⟩ => SqL.of (s3 _ _ hlw')) ?_ ?_
      · rintro i x σ H3 hi ⟨u, rfl, s3, h3⟩
        have hs : ∃ z, x = V.str z := by
          have := List.mem_of_getElem? hi
          unfold wordsV at this
          simp only [List.mem_cons, List.not_mem_nil, or_false] at this
          rcases this with rfl | rfl | rfl | rfl | rfl <;> exact ⟨_, rfl⟩
        obtain ⟨z, rfl⟩ := hs
        refine ⟨_, rfl, a, _, _, _, rfl, rfl, SqT.of ((w1.trans s3) _ _ ha), rfl, _, rfl, rfl, _, h3, ?_, _, rfl, same_upd s3 hD _, ?_⟩
        · rw [List.length_map, List.length_take]
          exact small1000 (by unfold wordsV; simp; omega)
        · rw [upd_same, take_snoc hi, List.map_append]; rfl
      rintro σ H3 ⟨u, rfl, s3, h3⟩
      have w3 := w1.trans s3
      have e3 : (wordsV.take wordsV.length).map (fun x => V.bl (decide (V.str "all" = x))) = (sortsB (toC (.all l))).map V.bl := by simp only [toC]; show _ = ([(2 : Nat) == 0, (2 : Nat) == 1, (2 : Nat) == 2, (2 : Nat) == 3, (2 : Nat) == 4] : List Bool).map V.bl; unfold wordsV; decide +kernel
      rw [e3] at h3
      refine ⟨r1, D, _, _, rfl, rfl, SqL.of (s3 _ _ h1'), SqL.of h3, paired_self (fun x hx => by obtain ⟨b, _, rfl⟩ := List.mem_map.mp hx; rfl), _, rfl, ?_⟩
      refine iteF ?_
      have ha3 := SqT.of (K := K) (w3 _ _ ha)
      refine ⟨_, rfl, a, _, _, _, rfl, rfl, ha3, rfl, rfl, _, rfl, ?_⟩
      refine iteFd (by decide +kernel) ?_
      refine ⟨_, rfl, a, _, _, _, rfl, rfl, ha3, rfl, rfl, _, rfl, ?_⟩
      refine iteFd (by decide +kernel) ?_
      refine ⟨_, rfl, a, _, _, _, rfl, rfl, ha3, rfl, rfl, _, rfl, ?_⟩
      refine iteFd (by decide +kernel) ?_
      have hC3 := hC.kp (.of w3)
      simp only [toC] at hC3
      obtain ⟨av, dx, fs, rfl, hav, _, _, tp, cs, hO1, hO2, hO3⟩ := isC_iff.mp hC3
      have hTL3 := hTL.keep w3
      have hp3 := w3 _ _ hp
      have e1 := isL_len hO3
      have e2 := isTL_len hTL3
      rw [toL_len] at e1
      refine ⟨_, rfl, av, T.a, dx, fs, _, rfl, hav, Z.z.cl (.all (toL l)), Z.z.npa, hO1, _, _, _, _, _, rfl, rel_ty, .tup hO2, kit_ss K "tuple", _, rfl, ?_⟩
      refine iteF ?_
      refine ⟨_, rfl, av, T.a, dx, fs, _, rfl, hav, Z.z.cl (.all (toL l)), Z.z.npa, hO1, tp, _, rfl, .inr (SqT.of hO2), _, rfl, a, _, _, _, rfl, rfl, ha3, rfl, p, _, rfl, .inl (SqL.of hp3), rfl, _, rfl, ?_⟩
      refine iteFd (by rw [← e1, ← e2]; simp) ?_
      have r2' : rk (.all l) = 2 * dT (.all l) := rfl
      rw [dT_all] at r2'
      simp only [wT] at hn
      refine ⟨_, rfl, av, T.a, dx, fs, _, rfl, hav, Z.z.cl (.all (toL l)), Z.z.npa, hO1, _, rfl, a, _, _, _, rfl, rfl, ha3, rfl, tp, p, cs, xs, rfl, SqT.of hO2, SqL.of hp3, fun D2 hD2 => many l tp p cs xs H3 w3 hO2 hp3 hO3 hTL3 (fun t ht => ?_) (by omega) (by omega) D2 hD2 _ (fun H4 s4 h4 => ?_)⟩
      · have a1 := rk_le t
        have a2 := dL_ge ht
        omega
      · refine ⟨D2, _, rfl, SqL.of h4, ?_⟩
        rw [all_id_true]
        exact q H4 s4
    | one l =>
      simp only [IsT] at hT
      obtain ⟨a, p, xs, rfl, ha, hp, hTL⟩ := hT
      have ha' := SqT.of (K := K) ha
      refine ⟨_, rfl, a, _, _, _, rfl, rfl, ha', rfl, rfl, _, rfl, ?_⟩
      refine iteFd (by decide +kernel) ?_
      refine ⟨_, rfl, v, toC (.one l), rfl, hC, fun r1 H1 s1 h1 => ?_⟩
      refine ⟨small (by simp), fun lw hlw => ⟨lw, rfl, ⟨_, SqL.of upd_same⟩, fun D hD => ?_⟩⟩
      have w1 := s1.trans (same_new hlw (.lst wordsV))
      have h1' := (same_new hlw (.lst wordsV)) _ _ h1
      have hlw' : (upd H1 lw (.lst wordsV)) lw = some (.lst wordsV) := upd_same
      refine lcg_listR (K := K) (a := lw) (xs := wordsV) (fun i σ H3 => ∃ u, σ = [u, some (.ref a)] ∧ Same (upd H1 lw (.lst wordsV)) H3 ∧ H3 D = some (.lst ((wordsV.take i).map fun x => V.bl (decide (V.str "one" = x)))))
        ⟨none, rfl, same_new hD _, upd_same⟩ (fun i σ H3 _ ⟨_, _, s3, _⟩ => SqL.of (s3 _ _ hlw')) ?_ ?_
      · rintro i x σ H3 hi ⟨u, rfl, s3, h3⟩
        have hs : ∃ z, x = V.str z := by
          have := List.mem_of_getElem? hi
          unfold wordsV at this
          simp only [List.mem_cons, List.not_mem_nil, or_false] at this
          rcases this with rfl | rfl | rfl | rfl | rfl <;> exact ⟨_, rfl⟩
        obtain ⟨z, rfl⟩ := hs
        refine ⟨_, rfl, a, _, _, _, rfl, rfl, SqT.of ((w1.trans s3) _ _ ha), rfl, _, rfl, rfl, _, h3, ?_, _, rfl, same_upd s3 hD _, ?_⟩
        · rw [List.length_map, List.length_take]
          exact small1000 (by unfold wordsV; simp; omega)
        · rw [upd_same, take_snoc hi, List.map_append]; rfl
      rintro σ H3 ⟨u, rfl, s3, h3⟩
      have w3 := w1.trans s3
      have e3 : (wordsV.take wordsV.length).map (fun x => V.bl (decide (V.str "one" = x))) = (sortsB (toC (.one l))).map V.bl := by simp only [toC]; show _ = ([(3 : Nat) == 0, (3 : Nat) == 1, (3 : Nat) == 2, (3 : Nat) == 3, (3 : Nat) == 4] : List Bool).map V.bl; unfold wordsV; decide +kernel
      rw [e3] at h3
      refine ⟨r1, D, _, _, rfl, rfl, SqL.of (s3 _ _ h1'), SqL.of h3, paired_self (fun x hx => by obtain ⟨b, _, rfl⟩ := List.mem_map.mp hx; rfl), _, rfl, ?_⟩
      refine iteF ?_
      have ha3 := SqT.of (K := K) (w3 _ _ ha)
      refine ⟨_, rfl, a, _, _, _, rfl, rfl, ha3, rfl, rfl, _, rfl, ?_⟩
      refine iteFd (by decide +kernel) ?_
      refine ⟨_, rfl, a, _, _, _, rfl, rfl, ha3, rfl, rfl, _, rfl, ?_⟩
      refine iteFd (by decide +kernel) ?_
      refine ⟨_, rfl, a, _, _, _, rfl, rfl, ha3, rfl, rfl, _, rfl, ?_⟩
      refine iteFd (by decide +kernel) ?_
      have hC3 := hC.kp (.of w3)
      simp only [toC] at hC3
      obtain ⟨av, dx, fs, rfl, hav, _, _, tp, cs, hO1, hO2, hO3⟩ := isC_iff.mp hC3
      have hTL3 := hTL.keep w3
      have hp3 := w3 _ _ hp
      have e1 := isL_len hO3
      have e2 := isTL_len hTL3
      rw [toL_len] at e1
      refine ⟨_, rfl, av, T.o, dx, fs, _, rfl, hav, Z.z.cl (.one (toL l)), Z.z.npo, hO1, _, _, _, _, _, rfl, rel_ty, .tup hO2, kit_ss K "tuple", _, rfl, ?_⟩
      refine iteF ?_
      refine ⟨_, rfl, av, T.o, dx, fs, _, rfl, hav, Z.z.cl (.one (toL l)), Z.z.npo, hO1, tp, _, rfl, .inr (SqT.of hO2), _, rfl, a, _, _, _, rfl, rfl, ha3, rfl, p, _, rfl, .inl (SqL.of hp3), rfl, _, rfl, ?_⟩
      refine iteFd (by rw [← e1, ← e2]; simp) ?_
      have r2' : rk (.one l) = 2 * dT (.one l) := rfl
      rw [dT_one] at r2'
      simp only [wT] at hn
      refine ⟨_, rfl, av, T.o, dx, fs, _, rfl, hav, Z.z.cl (.one (toL l)), Z.z.npo, hO1, _, rfl, a, _, _, _, rfl, rfl, ha3, rfl, tp, p, cs, xs, rfl, SqT.of hO2, SqL.of hp3, fun D2 hD2 => many l tp p cs xs H3 w3 hO2 hp3 hO3 hTL3 (fun t ht => ?_) (by omega) (by omega) D2 hD2 _ (fun H4 s4 h4 => ?_)⟩
      · have a1 := rk_le t
        have a2 := dL_ge ht
        omega
      · refine ⟨D2, _, rfl, SqL.of h4, ?_⟩
        rw [all_id_true]
        exact q H4 s4
end
end K12
set_option maxHeartbeats 4000000
namespace K12
open PySem L2 CD
abbrev sCGaps : Stmt := inClass (top 10) 3
abbrev sCStand : Stmt := inClass (top 10) 4
abbrev sCAtoms : Stmt := inClass (top 10) 5
abbrev sTold : Stmt := top 29
abbrev sLaw : Stmt := top 30
/-! ### one order, one list -/
theorem uniq {α : Type} {le : α → α → Prop} (anti : ∀ a b, le a b → le b a → a = b) : ∀ {xs ys : List α}, xs.Pairwise le → ys.Pairwise le → xs.Nodup → ys.Nodup → (∀ a, a ∈ xs ↔ a ∈ ys) → xs = ys
  | [], [], _, _, _, _, _ => rfl
  | [], y :: t, _, _, _, _, h => absurd ((h y).mpr List.mem_cons_self) (by simp)
  | x :: r, [], _, _, _, _, h => absurd ((h x).mp List.mem_cons_self) (by simp)
  | x :: r, y :: t, p1, p2, n1, n2, h => by
    obtain ⟨a1, b1⟩ := List.pairwise_cons.mp p1
    obtain ⟨a2, b2⟩ := List.pairwise_cons.mp p2
    obtain ⟨c1, d1⟩ := List.nodup_cons.mp n1
    obtain ⟨c2, d2⟩ := List.nodup_cons.mp n2
    have e : x = y := by
      rcases List.mem_cons.mp ((h x).mp List.mem_cons_self) with e | hx
      · exact e
      · rcases List.mem_cons.mp ((h y).mpr List.mem_cons_self) with e | hy
        · exact e.symm
        · exact anti x y (a1 y hy) (a2 x hx)
    subst e
    rw [uniq anti b1 b2 d1 d2 fun a => ?_]
    constructor
    · intro ha
      rcases List.mem_cons.mp ((h a).mp (List.mem_cons_of_mem _ ha)) with e | h'
      · exact absurd (e ▸ ha) c1
      · exact h'
    · intro ha
      rcases List.mem_cons.mp ((h a).mpr (List.mem_cons_of_mem _ ha)) with e | h'
      · exact absurd (e ▸ ha) c2
      · exact h'
def leS (a b : Str) : Prop := a.cps.toList ≤ b.cps.toList
theorem leS_anti (a b : Str) (h1 : leS a b) (h2 : leS b a) : a = b := by
  have e := List.le_antisymm h1 h2
  cases a
  cases b
  simp at e
  rw [e]
theorem rising_pw : ∀ {p : Str} {l : List Str}, PyProof.Rows.risingS p l = true → (p :: l).Pairwise leS
  | p, [], _ => by simp
  | p, x :: r, h => by
    have h' : (!PySem.Spec.ltCps x.cps.toList p.cps.toList && PyProof.Rows.risingS x r) = true := h
    rw [Bool.and_eq_true] at h'
    have ih := rising_pw h'.2
    have hx : leS p x := by
      have := h'.1
      rw [PyProof.Rows.ltCps_eq] at this
      have n : ¬ x.cps.toList < p.cps.toList := by simpa using this
      exact n
    refine List.pairwise_cons.mpr ⟨fun y hy => ?_, ih⟩
    rcases List.mem_cons.mp hy with rfl | hy
    · exact hx
    · exact List.le_trans hx ((List.pairwise_cons.mp ih).1 y hy)
theorem sorted_pw : ∀ {l : List Str}, PyProof.Rows.sortedS l = true → l.Pairwise leS
  | [], _ => by simp
  | x :: r, h => rising_pw h
mutual
theorem cells_atoms : ∀ c : Cd, ((cells c).length : Int) = 2 * atoms c
  | .truth _ => by simp [cells, atoms]
  | .same _ _ => by simp [cells, atoms]
  | .all l => by simp only [cells, atoms]; exact cellsL_atoms l
  | .one l => by simp only [cells, atoms]; exact cellsL_atoms l
  | .opp c => by simp only [cells, atoms]; exact cells_atoms c
theorem cellsL_atoms : ∀ l : List Cd, ((cellsL l).length : Int) = 2 * atomsL l
  | [] => by simp [cellsL, atomsL]
  | c :: r => by
    have h1 := cells_atoms c
    have h2 := cellsL_atoms r
    simp only [cellsL, atomsL, List.length_append]
    omega
end
def spGaps (T : Cl) : Sp := fun vs H Q _ => ∃ (v : V) (c : Cd), vs = [v] ∧ IsC T H c v ∧ ∀ (r : Addr) (gs : List Str), H r = none → gs.Nodup → PyProof.Rows.sortedS gs = true → (∀ x, x ∈ gs ↔ Sum.inr x ∈ cells c) → Q (.ref r) (upd H r (.lst (gs.map V.str)))
def spStand (T : Cl) : Sp := fun vs H Q _ => ∃ (v : V) (c : Cd), vs = [v] ∧ IsC T H c v ∧ ∀ (r : Addr) (ns : List Int), H r = none → ns.Nodup → ns.Pairwise (· ≤ ·) → (∀ x, x ∈ ns ↔ Sum.inl x ∈ cells c) → Q (.ref r) (upd H r (.lst (ns.map V.int)))
def spAtoms (T : Cl) : Sp := fun vs H Q _ => ∃ (v : V) (c : Cd), vs = [v] ∧ IsC T H c v ∧ Q (.int (atoms c)) H
def spTold (T : Cl) : Sp := fun vs H Q _ => ∃ (v : V) (r : Addr) (c : Cd) (pool : List Key), vs = [v, .ref r] ∧ IsC T H c v ∧ H r = some (.lst ((cells c).map kV)) ∧ (cells c).length ≤ 900 ∧ pool.length < 64 ∧ (∀ k ∈ cells c, k ∈ pool) ∧ ∀ H', Same H H' → Q (.bl true) H'
def spLaw (K : PySem.W.Frag) : Sp := fun args H Q _ => ∃ (a : Addr) (ns : List Int), args = [.ref a] ∧ SqL K H a (ns.map V.int) ∧ ns.length ≤ 63 ∧ ∀ H', Q (.bl true) H'
section
variable {P : Program} {w : World} {K : PySem.W.Frag} {mg : Str → Option Value} {base : Heap} {f : Addr} {fd : FuncData} {T : Cl} {CC : Addr}
theorem scMG : FnScope ["self"] ["self"] (defScope sCGaps) := ⟨rfl, rfl, rfl, by decide +kernel, rfl, by decide +kernel, by decide +kernel⟩
theorem ok_gaps (F : Fun K "gaps" "Cond.gaps" sCGaps f fd) (Z : Tc K mg T CC) : FnOk P w K mg base CX0 1 f fd ["self"] (spGaps T) := by
  refine F.ok scMG (fun vs H Q E h => ?_) (fun cdv A outer s H vs Q E hr h => ?_)
  · obtain ⟨v, c, rfl, _⟩ := h
    rfl
  obtain ⟨v, c, rfl, hC, q⟩ := h
  obtain ⟨a, dx, fs, rfl, ha, _, hB, _⟩ := isC_iff.mp hC
  obtain ⟨tg, gs, g1, g2, g3, g4, g5⟩ := hB.gp
  refine ⟨_, pss_one (ps_ret (pe_callTy call_list_of rfl Z.x.list PyProof.Rows.boot_list (pa_cons (pe_fld (pv 0) rfl) pa_nil))), ?_⟩
  exact ⟨_, rfl, a, T.of c, dx, fs, _, rfl, ha, Z.z.cl c, Z.z.ng c, g1, tg, _, rfl, .inr (SqT.of g2), fun r hr' => q r gs hr' g3 g4 g5⟩
theorem scMS : FnScope ["self"] ["self"] (defScope sCStand) := ⟨rfl, rfl, rfl, by decide +kernel, rfl, by decide +kernel, by decide +kernel⟩
theorem ok_stand (F : Fun K "standing" "Cond.standing" sCStand f fd) (Z : Tc K mg T CC) : FnOk P w K mg base CX0 1 f fd ["self"] (spStand T) := by
  refine F.ok scMS (fun vs H Q E h => ?_) (fun cdv A outer s H vs Q E hr h => ?_)
  · obtain ⟨v, c, rfl, _⟩ := h
    rfl
  obtain ⟨v, c, rfl, hC, q⟩ := h
  obtain ⟨a, dx, fs, rfl, ha, _, hB, _⟩ := isC_iff.mp hC
  obtain ⟨tg, gs, g1, g2, g3, g4, g5⟩ := hB.vp
  refine ⟨_, pss_one (ps_ret (pe_callTy call_list_of rfl Z.x.list PyProof.Rows.boot_list (pa_cons (pe_fld (pv 0) rfl) pa_nil))), ?_⟩
  exact ⟨_, rfl, a, T.of c, dx, fs, _, rfl, ha, Z.z.cl c, Z.z.nv c, g1, tg, _, rfl, .inr (SqT.of g2), fun r hr' => q r gs hr' g3 g4 g5⟩
theorem scMA : FnScope ["self"] ["self"] (defScope sCAtoms) := ⟨rfl, rfl, rfl, by decide +kernel, rfl, by decide +kernel, by decide +kernel⟩
theorem ok_atoms (F : Fun K "atoms" "Cond.atoms" sCAtoms f fd) (Z : Tc K mg T CC) : FnOk P w K mg base CX0 1 f fd ["self"] (spAtoms T) := by
  refine F.ok scMA (fun vs H Q E h => ?_) (fun cdv A outer s H vs Q E hr h => ?_)
  · obtain ⟨v, c, rfl, _⟩ := h
    rfl
  obtain ⟨v, c, rfl, hC, q⟩ := h
  obtain ⟨a, dx, fs, rfl, ha, _, hB, _⟩ := isC_iff.mp hC
  refine ⟨_, pss_one (ps_ret (pe_fld (pv 0) rfl)), ?_⟩
  exact ⟨_, rfl, a, T.of c, dx, fs, _, rfl, ha, Z.z.cl c, Z.z.na c, hB.at_, q⟩
theorem scTo : FnScope ["_law_cond", "_law_cells_here", "_law_gaps", "_law_standing", "_law_many"] ["_law_cond", "_law_cells_here"] (defScope sTold) := ⟨rfl, rfl, rfl, by decide +kernel, rfl, by decide +kernel, by decide +kernel⟩
theorem mem_g : ("gaps" : Str) ∈ meths := by unfold meths; simp
theorem mem_s : ("standing" : Str) ∈ meths := by unfold meths; simp
theorem mem_a : ("atoms" : Str) ∈ meths := by unfold meths; simp
theorem ok_told (Fn : Fun K "_law_told" "_law_told" sTold f fd) (Z : Tc K mg T CC) (X2 : Txt2 mg) (FG : Fam P w K mg base CX0 1 (dom T) "gaps" ["self"] (fun _ => spGaps T)) (FS : Fam P w K mg base CX0 1 (dom T) "standing" ["self"] (fun _ => spStand T)) (FA : Fam P w K mg base CX0 1 (dom T) "atoms" ["self"] (fun _ => spAtoms T))
    (C2 : Cal P w K mg base "_law_cell_is" 1 ["_law_found", "_law_due"] spCellIs) : FnOk P w K mg base CX0 2 f fd ["_law_cond", "_law_cells_here"] (spTold T) := by
  obtain ⟨f2, d2, G2, b2, k2, m2⟩ := C2
  refine Fn.ok scTo (fun vs H Q E h => ?_) (fun cdv A outer s H vs Q E hr h => ?_)
  · obtain ⟨v, r, c, pool, rfl, _⟩ := h
    rfl
  obtain ⟨v, rc, c, pool, rfl, hC, hrc, hlen, hpl, hpc, q⟩ := h
  have hu8 := hu8_of hr
  refine ⟨_, pss_cons (ps_set (i := 2) scTo.nd rfl (Or.inl rfl) (pe_methF0 (pv 0) FG hr pass0))
    (pss_cons (ps_set (i := 3) scTo.nd rfl (Or.inl rfl) (pe_methF0 (pv 0) FS hr pass0))
    (pss_cons (ps_set (i := 4) scTo.nd rfl (Or.inl rfl) (pe_methF0 (pv 0) FA hr pass0))
    (pss_cons (ps_if (PW.pt (pw_or (pt_not (pt_val (pe_callB call_isi rfl Z.x.isi PyProof.Rows.boot_isinstance (pa_cons (pv 2) (pa_cons (pe_bltn (v := .ty "list") rfl Z.x.list PyProof.Rows.boot_list rfl) pa_nil)))))
      (pw_or1 (pt_cmpR (op_ne_deep hu8) (pv 2) (pe_callB (call_sorted_setS rfl) rfl Z.x.sorted PyProof.Rows.boot_sorted (pa_cons (pe_callTy (call_set_of rfl) rfl Z.x.set PyProof.Rows.boot_set (pa_cons
        (pe_lcG (caps := []) ["_law_cell"] rfl (pi_list (pv 1)) ⟨rfl, by decide +kernel, by decide +kernel, rfl, .nil, rfl, rfl, rfl⟩
          (fun s H ex => pg_name (X := cxLG _ _ _ _ s H ex) (i := 0) (nd1 _) rfl (Or.inl rfl) (.inr rfl))
          (fun s H ex => pif_one (pt_val (pe_callB (call_isiK (K := K) rfl) rfl Z.x.isi PyProof.Rows.boot_isinstance (pa_cons (pe_var (X := cxLG _ _ _ _ s H ex) (i := 0) rfl (Or.inl rfl)) (pa_cons (pe_bltn (v := .ty "str") rfl Z.x.str PyProof.Rows.boot_str rfl) pa_nil)))))
          (fun s H ex => pe_var (X := cxLG _ _ _ _ s H ex) (i := 0) rfl (Or.inl rfl))) pa_nil)) pa_nil)) (nomark _))))) pss_never pss_nil)
    (pss_cons (ps_if (PW.pt (pw_or (pt_not (pt_val (pe_callB call_isi rfl Z.x.isi PyProof.Rows.boot_isinstance (pa_cons (pv 3) (pa_cons (pe_bltn (v := .ty "list") rfl Z.x.list PyProof.Rows.boot_list rfl) pa_nil)))))
      (pw_or1 (pt_not (pt_val (pe_callB (call_all_bls rfl) rfl X2.all PyProof.Rows.boot_all (pa_cons
        (pe_lcG (caps := []) ["_law_found"] rfl (pi_list (pv 3)) ⟨rfl, by decide +kernel, by decide +kernel, rfl, .nil, rfl, rfl, rfl⟩
          (fun s H ex => pg_name (X := cxLG _ _ _ _ s H ex) (i := 0) (nd1 _) rfl (Or.inl rfl) (.inr rfl)) (fun s H ex => pif_nil)
          (fun s H ex => pe_call (X := cxLG _ _ _ _ s H ex) G2 hr rfl m2 k2 b2 .nil pass0 (pa_cons (pe_var (X := cxLG _ _ _ _ s H ex) (i := 0) rfl (Or.inl rfl)) (pa_cons (pe_var (X := cxLG _ _ _ _ s H ex) (i := 0) rfl (Or.inl rfl)) pa_nil)))) pa_nil))))))) pss_never pss_nil)
    (pss_cons (ps_if (pt_cmpR (op_ne_deep hu8) (pv 3) (pe_callB (call_sorted_setI rfl) rfl Z.x.sorted PyProof.Rows.boot_sorted (pa_cons (pe_callTy (call_set_of rfl) rfl Z.x.set PyProof.Rows.boot_set (pa_cons
        (pe_lcG (caps := []) ["_law_cell"] rfl (pi_list (pv 1)) ⟨rfl, by decide +kernel, by decide +kernel, rfl, .nil, rfl, rfl, rfl⟩
          (fun s H ex => pg_name (X := cxLG _ _ _ _ s H ex) (i := 0) (nd1 _) rfl (Or.inl rfl) (.inr rfl))
          (fun s H ex => pif_one (pt_not (pt_val (pe_callB (call_isiK (K := K) rfl) rfl Z.x.isi PyProof.Rows.boot_isinstance (pa_cons (pe_var (X := cxLG _ _ _ _ s H ex) (i := 0) rfl (Or.inl rfl)) (pa_cons (pe_bltn (v := .ty "str") rfl Z.x.str PyProof.Rows.boot_str rfl) pa_nil))))))
          (fun s H ex => pe_var (X := cxLG _ _ _ _ s H ex) (i := 0) rfl (Or.inl rfl))) pa_nil)) pa_nil)) (nomark _)) pss_never pss_nil)
    (pss_cons (ps_expr (pe_bm PySem.F.plainAttrs_list PySem.F.slot_list_append PySem.F.type_list_append mt_append (pv 2) (pa_cons pe_str pa_nil)))
    (pss_cons (ps_expr (pe_bm PySem.F.plainAttrs_list PySem.F.slot_list_append PySem.F.type_list_append mt_append (pv 3) (pa_cons pe_int pa_nil)))
    (pss_one (ps_ret (pe_and (pe_callB call_isi rfl Z.x.isi PyProof.Rows.boot_isinstance (pa_cons (pv 4) (pa_cons (pe_bltn (v := .ty "int") rfl X2.int PyProof.Rows.boot_int rfl) pa_nil))) (pe_and (pe_not (pe_callB call_isi rfl Z.x.isi PyProof.Rows.boot_isinstance (pa_cons (pv 4) (pa_cons (pe_bltn (v := .ty "bool") rfl Z.x.bool PyProof.Rows.boot_bool rfl) pa_nil)))) (pe_one (pe_cmpR op_eq (pv 4) (pe_op op_fdiv (pe_callB call_len_seq rfl Z.x.len PySem.boot_len (pa_cons (pv 1) pa_nil)) pe_int) (nomark _)))))))))))))), ?_⟩
  obtain ⟨a, dx, fs, rfl, ha, hme, hB, hO⟩ := isC_iff.mp hC
  -- what is told
  refine ⟨_, rfl, a, T.of c, dx, fs, rfl, ha, ⟨c, rfl⟩, hme _ mem_g, .ref a, c, rfl, hC, fun rg gs hrg gn gsd gm => ?_⟩
  have wg := same_new hrg (.lst (gs.map V.str))
  have hg1 := upd_same (H := H) (a := rg) (o := .lst (gs.map V.str))
  generalize upd H rg (.lst (gs.map V.str)) = H1 at wg hg1
  refine ⟨_, rfl, a, T.of c, dx, fs, rfl, wg _ _ ha, ⟨c, rfl⟩, hme _ mem_s, .ref a, c, rfl, hC.kp (.of wg), fun rs ns hrs nn nsd nm => ?_⟩
  have ws := same_new hrs (.lst (ns.map V.int))
  have hs2 := upd_same (H := H1) (a := rs) (o := .lst (ns.map V.int))
  have hrs0 : H rs = none := by
    cases e : H rs with
    | none => rfl
    | some o => rw [wg _ _ e] at hrs; cases hrs
  generalize upd H1 rs (.lst (ns.map V.int)) = H2 at ws hs2
  have w2 := wg.trans ws
  have hg2 := ws _ _ hg1
  refine ⟨_, rfl, a, T.of c, dx, fs, rfl, w2 _ _ ha, ⟨c, rfl⟩, hme _ mem_a, .ref a, c, rfl, hC.kp (.of w2), ?_⟩
  -- the gaps
  refine ⟨_, rfl, _, _, _, _, _, rfl, rel_ty, .lst hg2, kit_ss K "list", _, rfl, ?_⟩
  refine iteF ?_
  refine ⟨_, rfl, _, rfl, rc, rfl, ⟨_, SqL.of (w2 _ _ hrc)⟩, fun D hD => ?_⟩
  refine lcg_listR (K := K) (a := rc) (xs := (cells c).map kV) (fun i σ H3 => ∃ u, σ = [u] ∧ Same H2 H3 ∧ H3 D = some (.lst ((strsIn ((cells c).take i)).map V.str)))
    ⟨none, rfl, same_new hD _, upd_same⟩ (fun i σ H3 _ ⟨_, _, s3, _⟩ => SqL.of (s3 _ _ (w2 _ _ hrc))) ?_ ?_
  · rintro i x σ H3 hi ⟨u, rfl, s3, h3⟩
    obtain ⟨k, hk, rfl⟩ := of_key hi
    refine ⟨_, rfl, _, _, _, _, _, rfl, rel_ty, ty_key k, kit_key K k, _, rfl, ?_⟩
    rw [take_snoc hk, strsIn_snoc]
    cases k with
    | inl j => exact iteF ⟨_, rfl, s3, by simpa using h3⟩
    | inr y =>
      refine iteT ⟨_, rfl, _, h3, ?_, _, rfl, same_upd s3 hD _, ?_⟩
      · have a1 := strsIn_len ((cells c).take i)
        have a2 : ((cells c).take i).length ≤ (cells c).length := by rw [List.length_take]; omega
        rw [List.length_map]
        exact small1000 (by omega)
      · rw [upd_same, List.map_append]; rfl
  rintro σ H3 ⟨u, rfl, s3, h3⟩
  rw [List.length_map, List.take_length] at h3
  have sl := strsIn_len (cells c)
  refine ⟨D, (strsIn (cells c)).map Sum.inr, rfl, SqL.of (by rw [← map_kVs]; exact h3), by rw [List.length_map]; omega, fun l2 ks hl2 nd hm => ?_⟩
  obtain ⟨gs0, rfl, gnd, gl, gmm⟩ := strs_set nd hm (fun _ => Iff.rfl) hpc hpl
  refine ⟨l2, gs0, rfl, upd_same, gl, fun l3 gs' hl3 pg sg => ?_⟩
  have eg : gs' = gs := uniq leS_anti (sorted_pw sg) (sorted_pw gsd) ((pg.nodup_iff).mpr gnd) gn fun x => ((pg.mem_iff).trans (gmm x)).trans (gm x).symm
  subst eg
  generalize SetO _ _ l2 (List.map Sum.inr gs0) = so at hl3 ⊢
  have x2 := same_new hl2 so
  have x3 := same_new hl3 (.lst (gs'.map V.str))
  have w5 := s3.trans (x2.trans x3)
  have h5 := upd_same (H := upd H3 l2 so) (a := l3) (o := .lst (gs'.map V.str))
  generalize upd (upd H3 l2 so) l3 (.lst (gs'.map V.str)) = H5 at w5 h5
  refine ⟨rg, l3, _, _, rfl, rfl, SqL.of (w5 _ _ hg2), SqL.of h5, paired_self (fun x hx => by obtain ⟨b, _, rfl⟩ := List.mem_map.mp hx; rfl), _, rfl, ?_⟩
  refine iteF ?_
  have t5 := w2.trans w5
  have hs5 := w5 _ _ hs2
  have hg5 := w5 _ _ hg2
  -- the values
  refine ⟨_, rfl, _, _, _, _, _, rfl, rel_ty, .lst hs5, kit_ss K "list", _, rfl, ?_⟩
  refine iteF ?_
  refine ⟨_, rfl, rs, rfl, ⟨_, SqL.of hs5⟩, fun D2 hD2 => ?_⟩
  have nl : ns.length ≤ 900 := by
    have := nodup_sub (l := ns.map (Sum.inl : Int → Key)) (m := cells c) (List.pairwise_map.mpr (nn.imp fun h e => h (Sum.inl.inj e))) (fun k hk => by
      obtain ⟨x, hx, rfl⟩ := List.mem_map.mp hk
      exact (nm x).mp hx)
    rw [List.length_map] at this
    omega
  refine lcg_listR (K := K) (a := rs) (xs := ns.map V.int) (fun i σ H6 => ∃ u, σ = [u] ∧ Same H5 H6 ∧ H6 D2 = some (.lst ((List.replicate i true).map V.bl)))
    ⟨none, rfl, same_new hD2 _, upd_same⟩ (fun i σ H6 _ ⟨_, _, s6, _⟩ => SqL.of (s6 _ _ hs5)) ?_ ?_
  · rintro i x σ H6 hi ⟨u, rfl, s6, h6⟩
    obtain ⟨z, rfl⟩ : ∃ z : Int, x = V.int z := by
      obtain ⟨z, _, e⟩ := List.mem_map.mp (List.mem_of_getElem? hi)
      exact ⟨z, e.symm⟩
    have hil : i < ns.length := by
      have := (List.getElem?_eq_some_iff.mp hi).1
      rwa [List.length_map] at this
    refine ⟨_, rfl, _, rfl, Sum.inl z, rfl, _, h6, ?_, _, rfl, same_upd s6 hD2 _, ?_⟩
    · rw [List.length_map, List.length_replicate]; exact small1000 (by omega)
    · rw [upd_same, List.replicate_succ', List.map_append]; rfl
  rintro σ H6 ⟨u, rfl, s6, h6⟩
  refine ⟨D2, _, rfl, SqL.of h6, ?_⟩
  rw [all_id_true]
  refine ⟨_, rfl, ?_⟩
  refine iteF ?_
  have t6 := t5.trans s6
  have hs6 := s6 _ _ hs5
  have hg6 := s6 _ _ hg5
  refine ⟨_, rfl, _, rfl, rc, rfl, ⟨_, SqL.of (t6 _ _ hrc)⟩, fun D3 hD3 => ?_⟩
  refine lcg_listR (K := K) (a := rc) (xs := (cells c).map kV) (fun i σ H7 => ∃ u, σ = [u] ∧ Same H6 H7 ∧ H7 D3 = some (.lst ((intsIn ((cells c).take i)).map V.int)))
    ⟨none, rfl, same_new hD3 _, upd_same⟩ (fun i σ H7 _ ⟨_, _, s7, _⟩ => SqL.of (s7 _ _ (t6 _ _ hrc))) ?_ ?_
  · rintro i x σ H7 hi ⟨u, rfl, s7, h7⟩
    obtain ⟨k, hk, rfl⟩ := of_key hi
    refine ⟨_, rfl, _, _, _, _, _, rfl, rel_ty, ty_key k, kit_key K k, _, rfl, ?_⟩
    rw [take_snoc hk, intsIn_snoc]
    cases k with
    | inr j => exact iteF ⟨_, rfl, s7, by simpa using h7⟩
    | inl y =>
      refine iteT ⟨_, rfl, _, h7, ?_, _, rfl, same_upd s7 hD3 _, ?_⟩
      · have a1 := intsIn_len ((cells c).take i)
        have a2 : ((cells c).take i).length ≤ (cells c).length := by rw [List.length_take]; omega
        rw [List.length_map]
        exact small1000 (by omega)
      · rw [upd_same, List.map_append]; rfl
  rintro σ H7 ⟨u, rfl, s7, h7⟩
  rw [List.length_map, List.take_length] at h7
  have il := intsIn_len (cells c)
  refine ⟨D3, (intsIn (cells c)).map Sum.inl, rfl, SqL.of (by rw [← map_kVi]; exact h7), by rw [List.length_map]; omega, fun j2 ks hj2 nd' hm' => ?_⟩
  obtain ⟨ns0, rfl, nnd, nl', nmm⟩ := ints_set nd' hm' (fun _ => Iff.rfl) hpc hpl
  refine ⟨j2, ns0, rfl, upd_same, nl', fun j3 ns' hj3 pn sn => ?_⟩
  have en : ns' = ns := uniq (fun a b h1 h2 => Int.le_antisymm h1 h2) sn nsd ((pn.nodup_iff).mpr nnd) nn fun x => ((pn.mem_iff).trans (nmm x)).trans (nm x).symm
  subst en
  generalize SetO _ _ j2 (List.map Sum.inl ns0) = so2 at hj3 ⊢
  have y2 := same_new hj2 so2
  have y3 := same_new hj3 (.lst (ns'.map V.int))
  have w9 := s7.trans (y2.trans y3)
  have h9 := upd_same (H := upd H7 j2 so2) (a := j3) (o := .lst (ns'.map V.int))
  generalize upd (upd H7 j2 so2) j3 (.lst (ns'.map V.int)) = H9 at w9 h9
  refine ⟨rs, j3, _, _, rfl, rfl, SqL.of (w9 _ _ hs6), SqL.of h9, paired_self (fun x hx => by obtain ⟨b, _, rfl⟩ := List.mem_map.mp hx; rfl), _, rfl, ?_⟩
  refine iteF ?_
  have t9 := t6.trans w9
  have hs9 := w9 _ _ hs6
  have hg9 := w9 _ _ hg6
  have nrs : rs ≠ rg := fun e => by rw [e] at hs2; rw [hg2] at hs2; cases hs2' : gs' with
    | nil => rw [e] at hrs; rw [hg1] at hrs; cases hrs
    | cons x r => rw [e] at hrs; rw [hg1] at hrs; cases hrs
  have gll : gs'.length < 900 := by
    have := (pg.length_eq)
    omega
  refine ⟨_, rfl, .inl ⟨rfl, _, SqL.of hg9⟩, rg, _, _, rfl, rfl, hg9, small1000 (by rw [List.length_map]; omega), ?_⟩
  refine ⟨_, rfl, .inl ⟨rfl, _, SqL.of (by rw [upd_ne nrs]; exact hs9)⟩, rs, _, _, rfl, rfl, (by rw [upd_ne nrs]; exact hs9), small1000 (by rw [List.length_map]; omega), ?_⟩
  have tA := same_upd t9 hrg (.lst (gs'.map V.str ++ [.str "a"]))
  have tB := same_upd tA hrs0 (.lst (ns'.map V.int ++ [.int 0]))
  -- the atoms
  refine ⟨_, rfl, _, _, _, _, _, rfl, rel_ty, .int _, kit_ss K "int", _, rfl, ?_⟩
  refine iteT ⟨_, rfl, _, _, _, _, _, rfl, rel_ty, .int _, kit_ib K, _, rfl, _, rfl, ?_⟩
  refine iteT ⟨_, rfl, _, rfl, rc, _, rfl, .inl (SqL.of (tB _ _ hrc)), _, _, rfl, rfl, ⟨by decide, by decide⟩, rfl, ?_⟩
  have ea : (((cells c).map kV).length : Int) / 2 = atoms c := by
    rw [List.length_map, cells_atoms]
    omega
  show Q (.bl (decide (V.int (atoms c) = V.int ((((cells c).map kV).length : Int) / 2)))) _
  rw [ea, decide_eq_true rfl]
  exact q _ tB
end
end K12
set_option maxHeartbeats 4000000
namespace K12
open PySem L2 CD
section
variable {P : Program} {w : World} {K : PySem.W.Frag} {mg : Str → Option Value} {base : Heap} {f : Addr} {fd : FuncData} {T : Cl} {CC : Addr}
theorem scLaw : FnScope ["_law_script", "_law_tree_here", "_law_cond", "_law_cells_here"] ["_law_script"] (defScope sLaw) := ⟨rfl, rfl, rfl, by decide +kernel, rfl, by decide +kernel, by decide +kernel⟩
theorem ok_law (Fn : Fun K "law" "law" sLaw f fd) (C1 : Cal P w K mg base "_law_pool" 2 ["_law_script"] (spPool K)) (C2 : Cal P w K mg base "_law_tree" 21 ["_law_script", "_law_pool_here"] (spTree K)) (C3 : Cal P w K mg base "_law_made" 63 ["_law_tree_here"] (spMade T 19))
    (C4 : Cal P w K mg base "_law_cells" 20 ["_law_tree_here"] (spCells 19)) (C5 : Cal P w K mg base "_law_told" 2 ["_law_cond", "_law_cells_here"] (spTold T)) (C6 : Cal P w K mg base "_law_is" 41 ["_law_cond", "_law_tree_here"] (spIs T 39)) : FnOk P w K mg base CX0 64 f fd ["_law_script"] (spLaw K) := by
  obtain ⟨g1, d1, G1, b1, k1, m1⟩ := C1
  obtain ⟨g2, d2, G2, b2, k2, m2⟩ := C2
  obtain ⟨g3, d3, G3, b3, k3, m3⟩ := C3
  obtain ⟨g4, d4, G4, b4, k4, m4⟩ := C4
  obtain ⟨g5, d5, G5, b5, k5, m5⟩ := C5
  obtain ⟨g6, d6, G6, b6, k6, m6⟩ := C6
  refine Fn.ok scLaw (fun vs H Q E h => ?_) (fun cdv A outer s H vs Q E hr h => ?_)
  · obtain ⟨a, ns, rfl, _⟩ := h
    rfl
  obtain ⟨a, ns, rfl, hS, nsl, q⟩ := h
  have hr2 : Room 2 _ := hr.mono (by decide)
  have hr20 : Room 20 _ := hr.mono (by decide)
  have hr21 : Room 21 _ := hr.mono (by decide)
  have hr41 : Room 41 _ := hr.mono (by decide)
  refine ⟨_, pss_cons (ps_set (i := 1) scLaw.nd rfl (Or.inl rfl) (pe_call G2 hr21 rfl m2 k2 b2 .nil pass0 (pa_cons (pv 0) (pa_cons (pe_call G1 hr2 rfl m1 k1 b1 .nil pass0 (pa_cons (pv 0) pa_nil)) pa_nil))))
    (pss_cons (ps_set (i := 2) scLaw.nd rfl (Or.inl rfl) (pe_call G3 hr rfl m3 k3 b3 .nil pass0 (pa_cons (pv 1) pa_nil)))
    (pss_cons (ps_set (i := 3) scLaw.nd rfl (Or.inl rfl) (pe_call G4 hr20 rfl m4 k4 b4 .nil pass0 (pa_cons (pv 1) pa_nil)))
    (pss_cons (ps_if (PW.pt (pw_or (pt_not (pt_val (pe_call G5 hr2 rfl m5 k5 b5 .nil pass0 (pa_cons (pv 2) (pa_cons (pv 3) pa_nil))))) (pw_or1 (pt_not (pt_val (pe_call G5 hr2 rfl m5 k5 b5 .nil pass0 (pa_cons (pv 2) (pa_cons (pv 3) pa_nil)))))))) pss_never pss_nil)
    (pss_one (ps_ret (pe_call G6 hr41 rfl m6 k6 b6 .nil pass0 (pa_cons (pv 2) (pa_cons (pv 1) pa_nil)))))))), ?_⟩
  refine ⟨_, rfl, _, rfl, a, ns, rfl, hS, fun pr H1 names vals s1 hp1 hP => ?_⟩
  refine ⟨a, pr, ns, names, vals, rfl, s1.seq hS, hp1, hP, fun tv H2 c s2 hT hd hn hcl hln => ?_⟩
  have p8 := pool_len hP
  refine ⟨_, rfl, tv, c, poolK names vals, rfl, hT, hd, by omega, hn, by omega, hcl, fun v H3 s3 hC => ?_⟩
  refine ⟨_, rfl, tv, c, rfl, hT.keep s3, hd, by omega, fun rc H4 s4 h4 => ?_⟩
  have hC4 := hC.kp (.of s4)
  refine ⟨_, rfl, _, rfl, v, rc, toC c, poolK names vals, rfl, hC4, h4, (by show (cT c).length ≤ 900; omega), by omega, hcl, fun H5 s5 => ⟨_, rfl, ?_⟩⟩
  refine iteF ?_
  refine ⟨_, rfl, _, rfl, v, rc, toC c, poolK names vals, rfl, hC4.kp (.of s5), s5 _ _ h4, (by show (cT c).length ≤ 900; omega), by omega, hcl, fun H6 s6 => ⟨_, rfl, ?_⟩⟩
  refine iteF ?_
  have w1 := wT_le c
  have r1 := rk_le c
  exact ⟨_, rfl, _, rfl, v, tv, c, rfl, hC4.kp (.of (s5.trans s6)), hT.keep (s3.trans (s4.trans (s5.trans s6))), by omega, by omega, fun H7 s7 => q H7⟩
end
end K12
set_option maxHeartbeats 4000000
namespace K12
open PySem L2 CD
/-- what the text says of one of the five classes -/
structure CF (K : PySem.W.Frag) (CC Tt Ts Ta To Tp C fT fH fG fS fA : Addr) (n : Nat) : Prop where
  pg : PySem.W.plainGet K C Str.empty = true
  hd : PySem.W.hasDictIn K C = true
  po : PySem.W.plainOver K C = true
  sa : PySem.W.findIn K (.ref C) "__setattr__" = some (some (.builtin "object.__setattr__"))
  ng : PySem.W.findIn K (.ref C) "kept_gaps" = some none
  nv : PySem.W.findIn K (.ref C) "kept_values" = some none
  na : PySem.W.findIn K (.ref C) "kept_atoms" = some none
  ns : PySem.W.findIn K (.ref C) "settled" = some none
  mt : PySem.W.findIn K (.ref C) "truth" = some (some (.ref fT))
  mh : PySem.W.findIn K (.ref C) "holds" = some (some (.ref fH))
  mgp : PySem.W.findIn K (.ref C) "gaps" = some (some (.ref fG))
  msd : PySem.W.findIn K (.ref C) "standing" = some (some (.ref fS))
  mat : PySem.W.findIn K (.ref C) "atoms" = some (some (.ref fA))
  mks : PySem.W.makesIn K C = true
  kp : PySem.W.keepIn K (.ref C) = true
  isc : PySem.W.kitOne K (.ref C) (.ref CC) = some true
  kt : PySem.W.kitOne K (.ref C) (.ref Tt) = some (n == 0)
  ks : PySem.W.kitOne K (.ref C) (.ref Ts) = some (n == 1)
  ka : PySem.W.kitOne K (.ref C) (.ref Ta) = some (n == 2)
  ko : PySem.W.kitOne K (.ref C) (.ref To) = some (n == 3)
  kq : PySem.W.kitOne K (.ref C) (.ref Tp) = some (n == 4)
  cls : PySem.W.findIn K (.ref C) "__class__" = some (some (.builtin "object.__class__"))
  mro : PySem.W.mroIn K C (.type "object") = some true
theorem per {T : Cl} {P : Addr → Prop} (h1 : P T.t) (h2 : P T.s) (h3 : P T.a) (h4 : P T.o) (h5 : P T.p) : ∀ c : Cd, P (T.of c)
  | .truth _ => h1
  | .same _ _ => h2
  | .all _ => h3
  | .one _ => h4
  | .opp _ => h5
theorem CF.c {K : PySem.W.Frag} {CC Tt Ts Ta To Tp C fT fH fG fS fA : Addr} {n : Nat} (h : CF K CC Tt Ts Ta To Tp C fT fH fG fS fA n) : Cls K C := ⟨h.pg, h.hd, h.po, h.sa⟩
theorem all_mk {l : PySem.W.OpenLaw} {w : World} {K : PySem.W.Frag} {h : Heap} {mg : Str → Option Value} {fa CC Tt Ts Ta To Tp f_g0 f_g1 f_g2 f_g3 f_g4 f_g5 f_g6 f_g7 f_g8 f_g9 f_g10 f_g11 f_g12 f_g13 f_g14 f_g15 f_g16 f_g17 f_i0 f_t0 f_h0 f_p0 f_s0 f_m0 f_i1 f_w1 f_i2 f_w2 f_i3 f_w3 f_i4 f_w4 f_i5 f_w5 : Addr} (X : K.In h) (G : h.Ns mainGlobals mg) (hfa : mg "law" = some (.ref fa))
    {od_g0 an_g0 od_g1 an_g1 od_g2 an_g2 od_g3 an_g3 od_g4 an_g4 od_g5 an_g5 od_g6 an_g6 od_g7 an_g7 od_g8 an_g8 od_g9 an_g9 od_g10 an_g10 od_g11 an_g11 od_g12 an_g12 od_g13 an_g13 od_g14 an_g14 od_g15 an_g15 od_g16 an_g16 od_g17 an_g17 od_i0 an_i0 od_t0 an_t0 od_h0 an_h0 od_p0 an_p0 od_s0 an_s0 od_m0 an_m0 od_i1 an_i1 od_w1 an_w1 od_i2 an_i2 od_w2 an_w2 od_i3 an_i3 od_w3 an_w3 od_i4 an_i4 od_w4 an_w4 od_i5 an_i5 od_w5 an_w5 : Option Addr} {sl_g0 sl_g1 sl_g2 sl_g3 sl_g4 sl_g5 sl_g6 sl_g7 sl_g8 sl_g9 sl_g10 sl_g11 sl_g12 sl_g13 sl_g14 sl_g15 sl_g16 sl_g17 sl_i0 sl_t0 sl_h0 sl_p0 sl_s0 sl_m0 sl_i1 sl_w1 sl_i2 sl_w2 sl_i3 sl_w3 sl_i4 sl_w4 sl_i5 sl_w5 : Array (Option Value)} {oc_g0 kV_g0 dc_g0 pm_g0 cd_g0 ct_g0 oc_g1 kV_g1 dc_g1 pm_g1 cd_g1 ct_g1 oc_g2 kV_g2 dc_g2 pm_g2 cd_g2 ct_g2 oc_g3 kV_g3 dc_g3 pm_g3 cd_g3 ct_g3 oc_g4 kV_g4 dc_g4 pm_g4 cd_g4 ct_g4 oc_g5 kV_g5 dc_g5 pm_g5 cd_g5 ct_g5 oc_g6 kV_g6 dc_g6 pm_g6 cd_g6 ct_g6 oc_g7 kV_g7 dc_g7 pm_g7 cd_g7 ct_g7 oc_g8 kV_g8 dc_g8 pm_g8 cd_g8 ct_g8 oc_g9 kV_g9 dc_g9 pm_g9 cd_g9 ct_g9 oc_g10 kV_g10 dc_g10 pm_g10 cd_g10 ct_g10 oc_g11 kV_g11 dc_g11 pm_g11 cd_g11 ct_g11 oc_g12 kV_g12 dc_g12 pm_g12 cd_g12 ct_g12 oc_g13 kV_g13 dc_g13 pm_g13 cd_g13 ct_g13 oc_g14 kV_g14 dc_g14 pm_g14 cd_g14 ct_g14 oc_g15 kV_g15 dc_g15 pm_g15 cd_g15 ct_g15 oc_g16 kV_g16 dc_g16 pm_g16 cd_g16 ct_g16 oc_g17 kV_g17 dc_g17 pm_g17 cd_g17 ct_g17 oc_i0 kV_i0 dc_i0 pm_i0 cd_i0 ct_i0 oc_t0 kV_t0 dc_t0 pm_t0 cd_t0 ct_t0 oc_h0 kV_h0 dc_h0 pm_h0 cd_h0 ct_h0 oc_p0 kV_p0 dc_p0 pm_p0 cd_p0 ct_p0 oc_s0 kV_s0 dc_s0 pm_s0 cd_s0 ct_s0 oc_m0 kV_m0 dc_m0 pm_m0 cd_m0 ct_m0 oc_i1 kV_i1 dc_i1 pm_i1 cd_i1 ct_i1 oc_w1 kV_w1 dc_w1 pm_w1 cd_w1 ct_w1 oc_i2 kV_i2 dc_i2 pm_i2 cd_i2 ct_i2 oc_w2 kV_w2 dc_w2 pm_w2 cd_w2 ct_w2 oc_i3 kV_i3 dc_i3 pm_i3 cd_i3 ct_i3 oc_w3 kV_w3 dc_w3 pm_w3 cd_w3 ct_w3 oc_i4 kV_i4 dc_i4 pm_i4 cd_i4 ct_i4 oc_w4 kV_w4 dc_w4 pm_w4 cd_w4 ct_w4 oc_i5 kV_i5 dc_i5 pm_i5 cd_i5 ct_i5 oc_w5 kV_w5 dc_w5 pm_w5 cd_w5 ct_w5 : Value}
    (n_CC : PySem.W.nsIn K mainGlobals "Cond" = some (some (.ref CC)))
    (n_Tt : PySem.W.nsIn K mainGlobals "Truth" = some (some (.ref Tt)))
    (n_Ts : PySem.W.nsIn K mainGlobals "Same" = some (some (.ref Ts)))
    (n_Ta : PySem.W.nsIn K mainGlobals "AllOf" = some (some (.ref Ta)))
    (n_To : PySem.W.nsIn K mainGlobals "OneOf" = some (some (.ref To)))
    (n_Tp : PySem.W.nsIn K mainGlobals "Opposite" = some (some (.ref Tp)))
    (dj : [Tt, Ts, Ta, To, Tp].Nodup)
    (a_g0 : PySem.W.nsIn K mainGlobals "cell_value" = some (some (.ref f_g0)))
    (l_g0 : K.lookup f_g0 = some ⟨oc_g0, od_g0, .func (PySem.W.fnOf "cell_value" "cell_value" (defArgs sCellV) (defBody sCellV) (defScope sCellV) .none kV_g0 dc_g0 pm_g0 an_g0 cd_g0 ct_g0), sl_g0⟩)
    (c_g0 : PySem.W.codeIn K cd_g0 "cell_value" = true)
    (k_g0 : PySem.W.keepIn K (.ref f_g0) = true)
    (a_g1 : PySem.W.nsIn K mainGlobals "gaps_among" = some (some (.ref f_g1)))
    (l_g1 : K.lookup f_g1 = some ⟨oc_g1, od_g1, .func (PySem.W.fnOf "gaps_among" "gaps_among" (defArgs sGapsA) (defBody sGapsA) (defScope sGapsA) .none kV_g1 dc_g1 pm_g1 an_g1 cd_g1 ct_g1), sl_g1⟩)
    (c_g1 : PySem.W.codeIn K cd_g1 "gaps_among" = true)
    (k_g1 : PySem.W.keepIn K (.ref f_g1) = true)
    (a_g2 : PySem.W.nsIn K mainGlobals "values_among" = some (some (.ref f_g2)))
    (l_g2 : K.lookup f_g2 = some ⟨oc_g2, od_g2, .func (PySem.W.fnOf "values_among" "values_among" (defArgs sValsA) (defBody sValsA) (defScope sValsA) .none kV_g2 dc_g2 pm_g2 an_g2 cd_g2 ct_g2), sl_g2⟩)
    (c_g2 : PySem.W.codeIn K cd_g2 "values_among" = true)
    (k_g2 : PySem.W.keepIn K (.ref f_g2) = true)
    (a_g3 : PySem.W.nsIn K mainGlobals "cells_within" = some (some (.ref f_g3)))
    (l_g3 : K.lookup f_g3 = some ⟨oc_g3, od_g3, .func (PySem.W.fnOf "cells_within" "cells_within" (defArgs sCellsW) (defBody sCellsW) (defScope sCellsW) .none kV_g3 dc_g3 pm_g3 an_g3 cd_g3 ct_g3), sl_g3⟩)
    (c_g3 : PySem.W.codeIn K cd_g3 "cells_within" = true)
    (k_g3 : PySem.W.keepIn K (.ref f_g3) = true)
    (a_g4 : PySem.W.nsIn K mainGlobals "_law_at" = some (some (.ref f_g4)))
    (l_g4 : K.lookup f_g4 = some ⟨oc_g4, od_g4, .func (PySem.W.fnOf "_law_at" "_law_at" (defArgs sAt) (defBody sAt) (defScope sAt) .none kV_g4 dc_g4 pm_g4 an_g4 cd_g4 ct_g4), sl_g4⟩)
    (c_g4 : PySem.W.codeIn K cd_g4 "_law_at" = true)
    (k_g4 : PySem.W.keepIn K (.ref f_g4) = true)
    (a_g5 : PySem.W.nsIn K mainGlobals "_law_names" = some (some (.ref f_g5)))
    (l_g5 : K.lookup f_g5 = some ⟨oc_g5, od_g5, .func (PySem.W.fnOf "_law_names" "_law_names" (defArgs sNames) (defBody sNames) (defScope sNames) .none kV_g5 dc_g5 pm_g5 an_g5 cd_g5 ct_g5), sl_g5⟩)
    (c_g5 : PySem.W.codeIn K cd_g5 "_law_names" = true)
    (k_g5 : PySem.W.keepIn K (.ref f_g5) = true)
    (a_g6 : PySem.W.nsIn K mainGlobals "_law_value" = some (some (.ref f_g6)))
    (l_g6 : K.lookup f_g6 = some ⟨oc_g6, od_g6, .func (PySem.W.fnOf "_law_value" "_law_value" (defArgs sValue) (defBody sValue) (defScope sValue) .none kV_g6 dc_g6 pm_g6 an_g6 cd_g6 ct_g6), sl_g6⟩)
    (c_g6 : PySem.W.codeIn K cd_g6 "_law_value" = true)
    (k_g6 : PySem.W.keepIn K (.ref f_g6) = true)
    (a_g7 : PySem.W.nsIn K mainGlobals "_law_pool" = some (some (.ref f_g7)))
    (l_g7 : K.lookup f_g7 = some ⟨oc_g7, od_g7, .func (PySem.W.fnOf "_law_pool" "_law_pool" (defArgs sPool) (defBody sPool) (defScope sPool) .none kV_g7 dc_g7 pm_g7 an_g7 cd_g7 ct_g7), sl_g7⟩)
    (c_g7 : PySem.W.codeIn K cd_g7 "_law_pool" = true)
    (k_g7 : PySem.W.keepIn K (.ref f_g7) = true)
    (a_g8 : PySem.W.nsIn K mainGlobals "_law_deep" = some (some (.ref f_g8)))
    (l_g8 : K.lookup f_g8 = some ⟨oc_g8, od_g8, .func (PySem.W.fnOf "_law_deep" "_law_deep" (defArgs sDeep) (defBody sDeep) (defScope sDeep) .none kV_g8 dc_g8 pm_g8 an_g8 cd_g8 ct_g8), sl_g8⟩)
    (c_g8 : PySem.W.codeIn K cd_g8 "_law_deep" = true)
    (k_g8 : PySem.W.keepIn K (.ref f_g8) = true)
    (a_g9 : PySem.W.nsIn K mainGlobals "_law_grown" = some (some (.ref f_g9)))
    (l_g9 : K.lookup f_g9 = some ⟨oc_g9, od_g9, .func (PySem.W.fnOf "_law_grown" "_law_grown" (defArgs sGrown) (defBody sGrown) (defScope sGrown) .none kV_g9 dc_g9 pm_g9 an_g9 cd_g9 ct_g9), sl_g9⟩)
    (c_g9 : PySem.W.codeIn K cd_g9 "_law_grown" = true)
    (k_g9 : PySem.W.keepIn K (.ref f_g9) = true)
    (a_g10 : PySem.W.nsIn K mainGlobals "_law_tree" = some (some (.ref f_g10)))
    (l_g10 : K.lookup f_g10 = some ⟨oc_g10, od_g10, .func (PySem.W.fnOf "_law_tree" "_law_tree" (defArgs sTree) (defBody sTree) (defScope sTree) .none kV_g10 dc_g10 pm_g10 an_g10 cd_g10 ct_g10), sl_g10⟩)
    (c_g10 : PySem.W.codeIn K cd_g10 "_law_tree" = true)
    (k_g10 : PySem.W.keepIn K (.ref f_g10) = true)
    (a_g11 : PySem.W.nsIn K mainGlobals "_law_made" = some (some (.ref f_g11)))
    (l_g11 : K.lookup f_g11 = some ⟨oc_g11, od_g11, .func (PySem.W.fnOf "_law_made" "_law_made" (defArgs sMade) (defBody sMade) (defScope sMade) .none kV_g11 dc_g11 pm_g11 an_g11 cd_g11 ct_g11), sl_g11⟩)
    (c_g11 : PySem.W.codeIn K cd_g11 "_law_made" = true)
    (k_g11 : PySem.W.keepIn K (.ref f_g11) = true)
    (a_g12 : PySem.W.nsIn K mainGlobals "_law_cells" = some (some (.ref f_g12)))
    (l_g12 : K.lookup f_g12 = some ⟨oc_g12, od_g12, .func (PySem.W.fnOf "_law_cells" "_law_cells" (defArgs sCells) (defBody sCells) (defScope sCells) .none kV_g12 dc_g12 pm_g12 an_g12 cd_g12 ct_g12), sl_g12⟩)
    (c_g12 : PySem.W.codeIn K cd_g12 "_law_cells" = true)
    (k_g12 : PySem.W.keepIn K (.ref f_g12) = true)
    (a_g13 : PySem.W.nsIn K mainGlobals "_law_sorts" = some (some (.ref f_g13)))
    (l_g13 : K.lookup f_g13 = some ⟨oc_g13, od_g13, .func (PySem.W.fnOf "_law_sorts" "_law_sorts" (defArgs sSorts) (defBody sSorts) (defScope sSorts) .none kV_g13 dc_g13 pm_g13 an_g13 cd_g13 ct_g13), sl_g13⟩)
    (c_g13 : PySem.W.codeIn K cd_g13 "_law_sorts" = true)
    (k_g13 : PySem.W.keepIn K (.ref f_g13) = true)
    (a_g14 : PySem.W.nsIn K mainGlobals "_law_cell_is" = some (some (.ref f_g14)))
    (l_g14 : K.lookup f_g14 = some ⟨oc_g14, od_g14, .func (PySem.W.fnOf "_law_cell_is" "_law_cell_is" (defArgs sCellIs) (defBody sCellIs) (defScope sCellIs) .none kV_g14 dc_g14 pm_g14 an_g14 cd_g14 ct_g14), sl_g14⟩)
    (c_g14 : PySem.W.codeIn K cd_g14 "_law_cell_is" = true)
    (k_g14 : PySem.W.keepIn K (.ref f_g14) = true)
    (a_g15 : PySem.W.nsIn K mainGlobals "_law_is" = some (some (.ref f_g15)))
    (l_g15 : K.lookup f_g15 = some ⟨oc_g15, od_g15, .func (PySem.W.fnOf "_law_is" "_law_is" (defArgs sIs) (defBody sIs) (defScope sIs) .none kV_g15 dc_g15 pm_g15 an_g15 cd_g15 ct_g15), sl_g15⟩)
    (c_g15 : PySem.W.codeIn K cd_g15 "_law_is" = true)
    (k_g15 : PySem.W.keepIn K (.ref f_g15) = true)
    (a_g16 : PySem.W.nsIn K mainGlobals "_law_told" = some (some (.ref f_g16)))
    (l_g16 : K.lookup f_g16 = some ⟨oc_g16, od_g16, .func (PySem.W.fnOf "_law_told" "_law_told" (defArgs sTold) (defBody sTold) (defScope sTold) .none kV_g16 dc_g16 pm_g16 an_g16 cd_g16 ct_g16), sl_g16⟩)
    (c_g16 : PySem.W.codeIn K cd_g16 "_law_told" = true)
    (k_g16 : PySem.W.keepIn K (.ref f_g16) = true)
    (a_g17 : PySem.W.nsIn K mainGlobals "law" = some (some (.ref f_g17)))
    (l_g17 : K.lookup f_g17 = some ⟨oc_g17, od_g17, .func (PySem.W.fnOf "law" "law" (defArgs sLaw) (defBody sLaw) (defScope sLaw) .none kV_g17 dc_g17 pm_g17 an_g17 cd_g17 ct_g17), sl_g17⟩)
    (c_g17 : PySem.W.codeIn K cd_g17 "law" = true)
    (k_g17 : PySem.W.keepIn K (.ref f_g17) = true)
    (a_i0 : PySem.W.findCls K (.ref CC) (.type "type") "__init__" = some (.val (.ref f_i0)))
    (l_i0 : K.lookup f_i0 = some ⟨oc_i0, od_i0, .func (PySem.W.fnOf "__init__" "Cond.__init__" (defArgs sCInit) (defBody sCInit) (defScope sCInit) .none kV_i0 dc_i0 pm_i0 an_i0 cd_i0 ct_i0), sl_i0⟩)
    (c_i0 : PySem.W.codeIn K cd_i0 "Cond.__init__" = true)
    (k_i0 : PySem.W.keepIn K (.ref f_i0) = true)
    (q_i0 : PySem.W.isFn K (.ref f_i0) = true)
    (a_t0 : PySem.W.findIn K (.ref CC) "truth" = some (some (.ref f_t0)))
    (l_t0 : K.lookup f_t0 = some ⟨oc_t0, od_t0, .func (PySem.W.fnOf "truth" "Cond.truth" (defArgs sCTruth) (defBody sCTruth) (defScope sCTruth) .none kV_t0 dc_t0 pm_t0 an_t0 cd_t0 ct_t0), sl_t0⟩)
    (c_t0 : PySem.W.codeIn K cd_t0 "Cond.truth" = true)
    (k_t0 : PySem.W.keepIn K (.ref f_t0) = true)
    (q_t0 : PySem.W.isFn K (.ref f_t0) = true)
    (a_h0 : PySem.W.findIn K (.ref CC) "holds" = some (some (.ref f_h0)))
    (l_h0 : K.lookup f_h0 = some ⟨oc_h0, od_h0, .func (PySem.W.fnOf "holds" "Cond.holds" (defArgs sCHolds) (defBody sCHolds) (defScope sCHolds) .none kV_h0 dc_h0 pm_h0 an_h0 cd_h0 ct_h0), sl_h0⟩)
    (c_h0 : PySem.W.codeIn K cd_h0 "Cond.holds" = true)
    (k_h0 : PySem.W.keepIn K (.ref f_h0) = true)
    (q_h0 : PySem.W.isFn K (.ref f_h0) = true)
    (a_p0 : PySem.W.findIn K (.ref CC) "gaps" = some (some (.ref f_p0)))
    (l_p0 : K.lookup f_p0 = some ⟨oc_p0, od_p0, .func (PySem.W.fnOf "gaps" "Cond.gaps" (defArgs sCGaps) (defBody sCGaps) (defScope sCGaps) .none kV_p0 dc_p0 pm_p0 an_p0 cd_p0 ct_p0), sl_p0⟩)
    (c_p0 : PySem.W.codeIn K cd_p0 "Cond.gaps" = true)
    (k_p0 : PySem.W.keepIn K (.ref f_p0) = true)
    (q_p0 : PySem.W.isFn K (.ref f_p0) = true)
    (a_s0 : PySem.W.findIn K (.ref CC) "standing" = some (some (.ref f_s0)))
    (l_s0 : K.lookup f_s0 = some ⟨oc_s0, od_s0, .func (PySem.W.fnOf "standing" "Cond.standing" (defArgs sCStand) (defBody sCStand) (defScope sCStand) .none kV_s0 dc_s0 pm_s0 an_s0 cd_s0 ct_s0), sl_s0⟩)
    (c_s0 : PySem.W.codeIn K cd_s0 "Cond.standing" = true)
    (k_s0 : PySem.W.keepIn K (.ref f_s0) = true)
    (q_s0 : PySem.W.isFn K (.ref f_s0) = true)
    (a_m0 : PySem.W.findIn K (.ref CC) "atoms" = some (some (.ref f_m0)))
    (l_m0 : K.lookup f_m0 = some ⟨oc_m0, od_m0, .func (PySem.W.fnOf "atoms" "Cond.atoms" (defArgs sCAtoms) (defBody sCAtoms) (defScope sCAtoms) .none kV_m0 dc_m0 pm_m0 an_m0 cd_m0 ct_m0), sl_m0⟩)
    (c_m0 : PySem.W.codeIn K cd_m0 "Cond.atoms" = true)
    (k_m0 : PySem.W.keepIn K (.ref f_m0) = true)
    (q_m0 : PySem.W.isFn K (.ref f_m0) = true)
    (a_i1 : PySem.W.findIn K (.ref Tt) "__init__" = some (some (.ref f_i1)))
    (l_i1 : K.lookup f_i1 = some ⟨oc_i1, od_i1, .func (PySem.W.fnOf "__init__" "Truth.__init__" (defArgs sTInit) (defBody sTInit) (defScope sTInit) .none kV_i1 dc_i1 pm_i1 an_i1 cd_i1 ct_i1), sl_i1⟩)
    (c_i1 : PySem.W.codeIn K cd_i1 "Truth.__init__" = true)
    (k_i1 : PySem.W.keepIn K (.ref f_i1) = true)
    (q_i1 : PySem.W.isFn K (.ref f_i1) = true)
    (a_w1 : PySem.W.findIn K (.ref Tt) "worked" = some (some (.ref f_w1)))
    (l_w1 : K.lookup f_w1 = some ⟨oc_w1, od_w1, .func (PySem.W.fnOf "worked" "Truth.worked" (defArgs sTWork) (defBody sTWork) (defScope sTWork) .none kV_w1 dc_w1 pm_w1 an_w1 cd_w1 ct_w1), sl_w1⟩)
    (c_w1 : PySem.W.codeIn K cd_w1 "Truth.worked" = true)
    (k_w1 : PySem.W.keepIn K (.ref f_w1) = true)
    (q_w1 : PySem.W.isFn K (.ref f_w1) = true)
    (a_i2 : PySem.W.findIn K (.ref Ts) "__init__" = some (some (.ref f_i2)))
    (l_i2 : K.lookup f_i2 = some ⟨oc_i2, od_i2, .func (PySem.W.fnOf "__init__" "Same.__init__" (defArgs sSInit) (defBody sSInit) (defScope sSInit) .none kV_i2 dc_i2 pm_i2 an_i2 cd_i2 ct_i2), sl_i2⟩)
    (c_i2 : PySem.W.codeIn K cd_i2 "Same.__init__" = true)
    (k_i2 : PySem.W.keepIn K (.ref f_i2) = true)
    (q_i2 : PySem.W.isFn K (.ref f_i2) = true)
    (a_w2 : PySem.W.findIn K (.ref Ts) "worked" = some (some (.ref f_w2)))
    (l_w2 : K.lookup f_w2 = some ⟨oc_w2, od_w2, .func (PySem.W.fnOf "worked" "Same.worked" (defArgs sSWork) (defBody sSWork) (defScope sSWork) .none kV_w2 dc_w2 pm_w2 an_w2 cd_w2 ct_w2), sl_w2⟩)
    (c_w2 : PySem.W.codeIn K cd_w2 "Same.worked" = true)
    (k_w2 : PySem.W.keepIn K (.ref f_w2) = true)
    (q_w2 : PySem.W.isFn K (.ref f_w2) = true)
    (a_i3 : PySem.W.findIn K (.ref Ta) "__init__" = some (some (.ref f_i3)))
    (l_i3 : K.lookup f_i3 = some ⟨oc_i3, od_i3, .func (PySem.W.fnOf "__init__" "AllOf.__init__" (defArgs sAInit) (defBody sAInit) (defScope sAInit) .none kV_i3 dc_i3 pm_i3 an_i3 cd_i3 ct_i3), sl_i3⟩)
    (c_i3 : PySem.W.codeIn K cd_i3 "AllOf.__init__" = true)
    (k_i3 : PySem.W.keepIn K (.ref f_i3) = true)
    (q_i3 : PySem.W.isFn K (.ref f_i3) = true)
    (a_w3 : PySem.W.findIn K (.ref Ta) "worked" = some (some (.ref f_w3)))
    (l_w3 : K.lookup f_w3 = some ⟨oc_w3, od_w3, .func (PySem.W.fnOf "worked" "AllOf.worked" (defArgs sAWork) (defBody sAWork) (defScope sAWork) .none kV_w3 dc_w3 pm_w3 an_w3 cd_w3 ct_w3), sl_w3⟩)
    (c_w3 : PySem.W.codeIn K cd_w3 "AllOf.worked" = true)
    (k_w3 : PySem.W.keepIn K (.ref f_w3) = true)
    (q_w3 : PySem.W.isFn K (.ref f_w3) = true)
    (a_i4 : PySem.W.findIn K (.ref To) "__init__" = some (some (.ref f_i4)))
    (l_i4 : K.lookup f_i4 = some ⟨oc_i4, od_i4, .func (PySem.W.fnOf "__init__" "OneOf.__init__" (defArgs sOInit) (defBody sOInit) (defScope sOInit) .none kV_i4 dc_i4 pm_i4 an_i4 cd_i4 ct_i4), sl_i4⟩)
    (c_i4 : PySem.W.codeIn K cd_i4 "OneOf.__init__" = true)
    (k_i4 : PySem.W.keepIn K (.ref f_i4) = true)
    (q_i4 : PySem.W.isFn K (.ref f_i4) = true)
    (a_w4 : PySem.W.findIn K (.ref To) "worked" = some (some (.ref f_w4)))
    (l_w4 : K.lookup f_w4 = some ⟨oc_w4, od_w4, .func (PySem.W.fnOf "worked" "OneOf.worked" (defArgs sOWork) (defBody sOWork) (defScope sOWork) .none kV_w4 dc_w4 pm_w4 an_w4 cd_w4 ct_w4), sl_w4⟩)
    (c_w4 : PySem.W.codeIn K cd_w4 "OneOf.worked" = true)
    (k_w4 : PySem.W.keepIn K (.ref f_w4) = true)
    (q_w4 : PySem.W.isFn K (.ref f_w4) = true)
    (a_i5 : PySem.W.findIn K (.ref Tp) "__init__" = some (some (.ref f_i5)))
    (l_i5 : K.lookup f_i5 = some ⟨oc_i5, od_i5, .func (PySem.W.fnOf "__init__" "Opposite.__init__" (defArgs sPInit) (defBody sPInit) (defScope sPInit) .none kV_i5 dc_i5 pm_i5 an_i5 cd_i5 ct_i5), sl_i5⟩)
    (c_i5 : PySem.W.codeIn K cd_i5 "Opposite.__init__" = true)
    (k_i5 : PySem.W.keepIn K (.ref f_i5) = true)
    (q_i5 : PySem.W.isFn K (.ref f_i5) = true)
    (a_w5 : PySem.W.findIn K (.ref Tp) "worked" = some (some (.ref f_w5)))
    (l_w5 : K.lookup f_w5 = some ⟨oc_w5, od_w5, .func (PySem.W.fnOf "worked" "Opposite.worked" (defArgs sPWork) (defBody sPWork) (defScope sPWork) .none kV_w5 dc_w5 pm_w5 an_w5 cd_w5 ct_w5), sl_w5⟩)
    (c_w5 : PySem.W.codeIn K cd_w5 "Opposite.worked" = true)
    (k_w5 : PySem.W.keepIn K (.ref f_w5) = true)
    (q_w5 : PySem.W.isFn K (.ref f_w5) = true)
    (ga : PySem.W.specialIn K (.ref CC) "__getattribute__" = some (some (.builtin "type.__getattribute__")))
    (rd : PySem.W.readsIn K CC (.type "type") = true)
    (gt : PySem.W.specialIn K (.builtin "object.__class__") "__get__" = some (some (.builtin "getset_descriptor.__get__")))
    (tk : PySem.W.takesIn K (.builtin "object.__class__") = some true)
    (x_Tt : CF K CC Tt Ts Ta To Tp Tt f_t0 f_h0 f_p0 f_s0 f_m0 0)
    (x_Ts : CF K CC Tt Ts Ta To Tp Ts f_t0 f_h0 f_p0 f_s0 f_m0 1)
    (x_Ta : CF K CC Tt Ts Ta To Tp Ta f_t0 f_h0 f_p0 f_s0 f_m0 2)
    (x_To : CF K CC Tt Ts Ta To Tp To f_t0 f_h0 f_p0 f_s0 f_m0 3)
    (x_Tp : CF K CC Tt Ts Ta To Tp Tp f_t0 f_h0 f_p0 f_s0 f_m0 4)
    (e1 : PySem.W.findIn K (.ref Tt) "said" = some none)
    (e2 : PySem.W.findIn K (.ref Ts) "one" = some none)
    (e3 : PySem.W.findIn K (.ref Ts) "other" = some none)
    (e4 : PySem.W.findIn K (.ref Ta) "parts" = some none)
    (e5 : PySem.W.findIn K (.ref To) "parts" = some none)
    (e6 : PySem.W.findIn K (.ref Tp) "part" = some none)
    (z0 : PySem.W.nsIn K mainGlobals "range" = some none)
    (z1 : PySem.W.nsIn K mainGlobals "len" = some none)
    (z2 : PySem.W.nsIn K mainGlobals "sorted" = some none)
    (z3 : PySem.W.nsIn K mainGlobals "list" = some none)
    (z4 : PySem.W.nsIn K mainGlobals "dict" = some none)
    (z5 : PySem.W.nsIn K mainGlobals "isinstance" = some none)
    (z6 : PySem.W.nsIn K mainGlobals "bool" = some none)
    (z7 : PySem.W.nsIn K mainGlobals "str" = some none)
    (z8 : PySem.W.nsIn K mainGlobals "set" = some none)
    (z9 : PySem.W.nsIn K mainGlobals "tuple" = some none)
    (z10 : PySem.W.nsIn K mainGlobals "sum" = some none)
    (z11 : PySem.W.nsIn K mainGlobals "max" = some none)
    (y0 : PySem.W.nsIn K mainGlobals "zip" = some none)
    (y1 : PySem.W.nsIn K mainGlobals "all" = some none)
    (y2 : PySem.W.nsIn K mainGlobals "int" = some none) :
    ∃ fd : FuncData, (∀ (s : Shared) (v : Value), BindsTo s fd ⟨[v], []⟩ [("_law_script", v)]) ∧ ∀ base : Heap, K.In base → base.Ns mainGlobals mg → FnOk l.prog w K mg base CX0 64 fa fd ["_law_script"] (spLaw K) := by
  have e := hfa.symm.trans (PySem.W.mg_of X G a_g17)
  cases e
  have TX : Txt mg := ⟨PySem.W.mg_none_of X G z0, PySem.W.mg_none_of X G z1, PySem.W.mg_none_of X G z2, PySem.W.mg_none_of X G z3, PySem.W.mg_none_of X G z4, PySem.W.mg_none_of X G z5, PySem.W.mg_none_of X G z6, PySem.W.mg_none_of X G z7, PySem.W.mg_none_of X G z8, PySem.W.mg_none_of X G z9, PySem.W.mg_none_of X G z10, PySem.W.mg_none_of X G z11⟩
  have TX2 : Txt2 mg := ⟨PySem.W.mg_none_of X G y0, PySem.W.mg_none_of X G y1, PySem.W.mg_none_of X G y2⟩
  have F_g0 := fun_mk (st := sCellV) l_g0 c_g0 k_g0
  have b_g0 := F_g0.binds (ps := ["cell", "filling"]) fun _ _ _ _ _ _ us hl => match us, hl with | [_, _], _ => rfl
  have F_g1 := fun_mk (st := sGapsA) l_g1 c_g1 k_g1
  have b_g1 := F_g1.binds (ps := ["cells"]) fun _ _ _ _ _ _ us hl => match us, hl with | [_], _ => rfl
  have F_g2 := fun_mk (st := sValsA) l_g2 c_g2 k_g2
  have b_g2 := F_g2.binds (ps := ["cells"]) fun _ _ _ _ _ _ us hl => match us, hl with | [_], _ => rfl
  have F_g3 := fun_mk (st := sCellsW) l_g3 c_g3 k_g3
  have b_g3 := F_g3.binds (ps := ["parts"]) fun _ _ _ _ _ _ us hl => match us, hl with | [_], _ => rfl
  have F_g4 := fun_mk (st := sAt) l_g4 c_g4 k_g4
  have b_g4 := F_g4.binds (ps := ["_law_script", "_law_k"]) fun _ _ _ _ _ _ us hl => match us, hl with | [_, _], _ => rfl
  have F_g5 := fun_mk (st := sNames) l_g5 c_g5 k_g5
  have b_g5 := F_g5.binds (ps := ["_law_cell"]) fun _ _ _ _ _ _ us hl => match us, hl with | [_], _ => rfl
  have F_g6 := fun_mk (st := sValue) l_g6 c_g6 k_g6
  have b_g6 := F_g6.binds (ps := ["_law_cell"]) fun _ _ _ _ _ _ us hl => match us, hl with | [_], _ => rfl
  have F_g7 := fun_mk (st := sPool) l_g7 c_g7 k_g7
  have b_g7 := F_g7.binds (ps := ["_law_script"]) fun _ _ _ _ _ _ us hl => match us, hl with | [_], _ => rfl
  have F_g8 := fun_mk (st := sDeep) l_g8 c_g8 k_g8
  have b_g8 := F_g8.binds (ps := ["_law_parts"]) fun _ _ _ _ _ _ us hl => match us, hl with | [_], _ => rfl
  have F_g9 := fun_mk (st := sGrown) l_g9 c_g9 k_g9
  have b_g9 := F_g9.binds (ps := ["_law_stack", "_law_cell", "_law_pool_here"]) fun _ _ _ _ _ _ us hl => match us, hl with | [_, _, _], _ => rfl
  have F_g10 := fun_mk (st := sTree) l_g10 c_g10 k_g10
  have b_g10 := F_g10.binds (ps := ["_law_script", "_law_pool_here"]) fun _ _ _ _ _ _ us hl => match us, hl with | [_, _], _ => rfl
  have F_g11 := fun_mk (st := sMade) l_g11 c_g11 k_g11
  have b_g11 := F_g11.binds (ps := ["_law_tree_here"]) fun _ _ _ _ _ _ us hl => match us, hl with | [_], _ => rfl
  have F_g12 := fun_mk (st := sCells) l_g12 c_g12 k_g12
  have b_g12 := F_g12.binds (ps := ["_law_tree_here"]) fun _ _ _ _ _ _ us hl => match us, hl with | [_], _ => rfl
  have F_g13 := fun_mk (st := sSorts) l_g13 c_g13 k_g13
  have b_g13 := F_g13.binds (ps := ["_law_cond"]) fun _ _ _ _ _ _ us hl => match us, hl with | [_], _ => rfl
  have F_g14 := fun_mk (st := sCellIs) l_g14 c_g14 k_g14
  have b_g14 := F_g14.binds (ps := ["_law_found", "_law_due"]) fun _ _ _ _ _ _ us hl => match us, hl with | [_, _], _ => rfl
  have F_g15 := fun_mk (st := sIs) l_g15 c_g15 k_g15
  have b_g15 := F_g15.binds (ps := ["_law_cond", "_law_tree_here"]) fun _ _ _ _ _ _ us hl => match us, hl with | [_, _], _ => rfl
  have F_g16 := fun_mk (st := sTold) l_g16 c_g16 k_g16
  have b_g16 := F_g16.binds (ps := ["_law_cond", "_law_cells_here"]) fun _ _ _ _ _ _ us hl => match us, hl with | [_, _], _ => rfl
  have F_g17 := fun_mk (st := sLaw) l_g17 c_g17 k_g17
  have b_g17 := F_g17.binds (ps := ["_law_script"]) fun _ _ _ _ _ _ us hl => match us, hl with | [_], _ => rfl
  have F_i0 := fun_mk (st := sCInit) l_i0 c_i0 k_i0
  have b_i0 := F_i0.binds (ps := ["self", "cells", "atoms"]) fun _ _ _ _ _ _ us hl => match us, hl with | [_, _, _], _ => rfl
  have F_t0 := fun_mk (st := sCTruth) l_t0 c_t0 k_t0
  have b_t0 := F_t0.binds (ps := ["self", "filling"]) fun _ _ _ _ _ _ us hl => match us, hl with | [_, _], _ => rfl
  have F_h0 := fun_mk (st := sCHolds) l_h0 c_h0 k_h0
  have b_h0 := F_h0.binds (ps := ["self", "filling", "told"]) fun _ _ _ _ _ _ us hl => match us, hl with | [_, _, _], _ => rfl
  have F_p0 := fun_mk (st := sCGaps) l_p0 c_p0 k_p0
  have b_p0 := F_p0.binds (ps := ["self"]) fun _ _ _ _ _ _ us hl => match us, hl with | [_], _ => rfl
  have F_s0 := fun_mk (st := sCStand) l_s0 c_s0 k_s0
  have b_s0 := F_s0.binds (ps := ["self"]) fun _ _ _ _ _ _ us hl => match us, hl with | [_], _ => rfl
  have F_m0 := fun_mk (st := sCAtoms) l_m0 c_m0 k_m0
  have b_m0 := F_m0.binds (ps := ["self"]) fun _ _ _ _ _ _ us hl => match us, hl with | [_], _ => rfl
  have F_i1 := fun_mk (st := sTInit) l_i1 c_i1 k_i1
  have b_i1 := F_i1.binds (ps := ["self", "said"]) fun _ _ _ _ _ _ us hl => match us, hl with | [_, _], _ => rfl
  have F_w1 := fun_mk (st := sTWork) l_w1 c_w1 k_w1
  have b_w1 := F_w1.binds (ps := ["self", "filling", "told"]) fun _ _ _ _ _ _ us hl => match us, hl with | [_, _, _], _ => rfl
  have F_i2 := fun_mk (st := sSInit) l_i2 c_i2 k_i2
  have b_i2 := F_i2.binds (ps := ["self", "one", "other"]) fun _ _ _ _ _ _ us hl => match us, hl with | [_, _, _], _ => rfl
  have F_w2 := fun_mk (st := sSWork) l_w2 c_w2 k_w2
  have b_w2 := F_w2.binds (ps := ["self", "filling", "told"]) fun _ _ _ _ _ _ us hl => match us, hl with | [_, _, _], _ => rfl
  have F_i3 := fun_mk (st := sAInit) l_i3 c_i3 k_i3
  have b_i3 := F_i3.binds (ps := ["self", "parts"]) fun _ _ _ _ _ _ us hl => match us, hl with | [_, _], _ => rfl
  have F_w3 := fun_mk (st := sAWork) l_w3 c_w3 k_w3
  have b_w3 := F_w3.binds (ps := ["self", "filling", "told"]) fun _ _ _ _ _ _ us hl => match us, hl with | [_, _, _], _ => rfl
  have F_i4 := fun_mk (st := sOInit) l_i4 c_i4 k_i4
  have b_i4 := F_i4.binds (ps := ["self", "parts"]) fun _ _ _ _ _ _ us hl => match us, hl with | [_, _], _ => rfl
  have F_w4 := fun_mk (st := sOWork) l_w4 c_w4 k_w4
  have b_w4 := F_w4.binds (ps := ["self", "filling", "told"]) fun _ _ _ _ _ _ us hl => match us, hl with | [_, _, _], _ => rfl
  have F_i5 := fun_mk (st := sPInit) l_i5 c_i5 k_i5
  have b_i5 := F_i5.binds (ps := ["self", "part"]) fun _ _ _ _ _ _ us hl => match us, hl with | [_, _], _ => rfl
  have F_w5 := fun_mk (st := sPWork) l_w5 c_w5 k_w5
  have b_w5 := F_w5.binds (ps := ["self", "filling", "told"]) fun _ _ _ _ _ _ us hl => match us, hl with | [_, _, _], _ => rfl
  refine ⟨PySem.W.fnOf "law" "law" (defArgs sLaw) (defBody sLaw) (defScope sLaw) .none kV_g17 dc_g17 pm_g17 an_g17 cd_g17 ct_g17, fun s v => .of_eq rfl, fun base _ _ => ?_⟩
  let T : Cl := ⟨Tt, Ts, Ta, To, Tp⟩
  have Z : Tc K mg T CC := {
    z := { cl := per x_Tt.c x_Ts.c x_Ta.c x_To.c x_Tp.c
           ng := per (P := fun C => NoAttr K C "kept_gaps") x_Tt.ng x_Ts.ng x_Ta.ng x_To.ng x_Tp.ng
           nv := per (P := fun C => NoAttr K C "kept_values") x_Tt.nv x_Ts.nv x_Ta.nv x_To.nv x_Tp.nv
           na := per (P := fun C => NoAttr K C "kept_atoms") x_Tt.na x_Ts.na x_Ta.na x_To.na x_Tp.na
           ns := per (P := fun C => NoAttr K C "settled") x_Tt.ns x_Ts.ns x_Ta.ns x_To.ns x_Tp.ns
           nsd := e1, no1 := e2, no2 := e3, npa := e4, npo := e5, npp := e6 }
    x := TX
    dj := dj
    hH := per (P := fun C => MethFn K C "holds" "Cond.holds" sCHolds ["self", "filling", "told"]) ⟨_, _, ⟨x_Tt.mh, q_h0, k_h0⟩, F_h0, b_h0⟩ ⟨_, _, ⟨x_Ts.mh, q_h0, k_h0⟩, F_h0, b_h0⟩ ⟨_, _, ⟨x_Ta.mh, q_h0, k_h0⟩, F_h0, b_h0⟩ ⟨_, _, ⟨x_To.mh, q_h0, k_h0⟩, F_h0, b_h0⟩ ⟨_, _, ⟨x_Tp.mh, q_h0, k_h0⟩, F_h0, b_h0⟩
    hT := per (P := fun C => MethFn K C "truth" "Cond.truth" sCTruth ["self", "filling"]) ⟨_, _, ⟨x_Tt.mt, q_t0, k_t0⟩, F_t0, b_t0⟩ ⟨_, _, ⟨x_Ts.mt, q_t0, k_t0⟩, F_t0, b_t0⟩ ⟨_, _, ⟨x_Ta.mt, q_t0, k_t0⟩, F_t0, b_t0⟩ ⟨_, _, ⟨x_To.mt, q_t0, k_t0⟩, F_t0, b_t0⟩ ⟨_, _, ⟨x_Tp.mt, q_t0, k_t0⟩, F_t0, b_t0⟩
    wT := ⟨_, _, ⟨a_w1, q_w1, k_w1⟩, F_w1, b_w1⟩
    wS := ⟨_, _, ⟨a_w2, q_w2, k_w2⟩, F_w2, b_w2⟩
    wA := ⟨_, _, ⟨a_w3, q_w3, k_w3⟩, F_w3, b_w3⟩
    wO := ⟨_, _, ⟨a_w4, q_w4, k_w4⟩, F_w4, b_w4⟩
    wP := ⟨_, _, ⟨a_w5, q_w5, k_w5⟩, F_w5, b_w5⟩ }
  have IS : Isb K mg T CC := { isc := per (P := fun C => PySem.W.kitOne K (.ref C) (.ref CC) = some true) x_Tt.isc x_Ts.isc x_Ta.isc x_To.isc x_Tp.isc
                               ist := fun c => by cases c with | truth _ => exact x_Tt.kt | same _ _ => exact x_Ts.kt | all _ => exact x_Ta.kt | one _ => exact x_To.kt | opp _ => exact x_Tp.kt
                               iss := fun c => by cases c with | truth _ => exact x_Tt.ks | same _ _ => exact x_Ts.ks | all _ => exact x_Ta.ks | one _ => exact x_To.ks | opp _ => exact x_Tp.ks
                               isa := fun c => by cases c with | truth _ => exact x_Tt.ka | same _ _ => exact x_Ts.ka | all _ => exact x_Ta.ka | one _ => exact x_To.ka | opp _ => exact x_Tp.ka
                               iso := fun c => by cases c with | truth _ => exact x_Tt.ko | same _ _ => exact x_Ts.ko | all _ => exact x_Ta.ko | one _ => exact x_To.ko | opp _ => exact x_Tp.ko
                               isp := fun c => by cases c with | truth _ => exact x_Tt.kq | same _ _ => exact x_Ts.kq | all _ => exact x_Ta.kq | one _ => exact x_To.kq | opp _ => exact x_Tp.kq
                               cls := per (P := fun C => PySem.W.findIn K (.ref C) "__class__" = some (some (.builtin "object.__class__"))) x_Tt.cls x_Ts.cls x_Ta.cls x_To.cls x_Tp.cls
                               get := gt, tks := tk
                               mro := per (P := fun C => PySem.W.mroIn K C (.type "object") = some true) x_Tt.mro x_Ts.mro x_Ta.mro x_To.mro x_Tp.mro
                               mc := PySem.W.mg_of X G n_CC, mt := PySem.W.mg_of X G n_Tt, ms := PySem.W.mg_of X G n_Ts, ma := PySem.W.mg_of X G n_Ta, mo := PySem.W.mg_of X G n_To, mp := PySem.W.mg_of X G n_Tp }
  have mC := PySem.W.mg_of X G n_CC
  have D0 : Cal l.prog w K mg base "cell_value" 1 ["cell", "filling"] spCellV := ⟨_, _, ok_cellv F_g0 TX, b_g0, k_g0, PySem.W.mg_of X G a_g0⟩
  have D1 : Cal l.prog w K mg base "gaps_among" 1 ["cells"] (spGapsA K) := ⟨_, _, ok_gapsa F_g1 TX, b_g1, k_g1, PySem.W.mg_of X G a_g1⟩
  have D2 : Cal l.prog w K mg base "values_among" 1 ["cells"] (spValsA K) := ⟨_, _, ok_valsa F_g2 TX, b_g2, k_g2, PySem.W.mg_of X G a_g2⟩
  have D3 : Cal l.prog w K mg base "cells_within" 1 ["parts"] (spCellsW T K) := ⟨_, _, ok_cellsw F_g3 Z.z, b_g3, k_g3, PySem.W.mg_of X G a_g3⟩
  have FH := fam_H (P := l.prog) (w := w) (base := base) Z D0 19
  have FW := fam_W Z D0 FH
  have FG : Fam l.prog w K mg base CX0 1 (dom T) "gaps" ["self"] (fun _ => spGaps T) := by
    rintro C ⟨c, rfl⟩
    exact ⟨_, _, Z.z.cl c, ⟨per (P := fun C => PySem.W.findIn K (.ref C) "gaps" = some (some (.ref f_p0))) x_Tt.mgp x_Ts.mgp x_Ta.mgp x_To.mgp x_Tp.mgp c, q_p0, k_p0⟩, ok_gaps F_p0 Z, b_p0⟩
  have FS : Fam l.prog w K mg base CX0 1 (dom T) "standing" ["self"] (fun _ => spStand T) := by
    rintro C ⟨c, rfl⟩
    exact ⟨_, _, Z.z.cl c, ⟨per (P := fun C => PySem.W.findIn K (.ref C) "standing" = some (some (.ref f_s0))) x_Tt.msd x_Ts.msd x_Ta.msd x_To.msd x_Tp.msd c, q_s0, k_s0⟩, ok_stand F_s0 Z, b_s0⟩
  have FA : Fam l.prog w K mg base CX0 1 (dom T) "atoms" ["self"] (fun _ => spAtoms T) := by
    rintro C ⟨c, rfl⟩
    exact ⟨_, _, Z.z.cl c, ⟨per (P := fun C => PySem.W.findIn K (.ref C) "atoms" = some (some (.ref f_m0))) x_Tt.mat x_Ts.mat x_Ta.mat x_To.mat x_Tp.mat c, q_m0, k_m0⟩, ok_atoms F_m0 Z, b_m0⟩
  have CB : CBase l.prog w K mg base T CC 19 := ⟨_, _, .type "type", ⟨ga, rd, a_i0, k_i0⟩, ok_cinit F_i0 Z D1 D2 FW, b_i0, mC⟩
  have M1 : MkC l.prog w K mg base "Truth" T.t 42 ["self", "said"] (spTI T) := ⟨_, _, ⟨x_Tt.mks, a_i1, q_i1, x_Tt.kp⟩, ok_tinit (n := 19) F_i1 Z CB, b_i1, PySem.W.mg_of X G n_Tt⟩
  have M2 : MkC l.prog w K mg base "Same" T.s 42 ["self", "one", "other"] (spSI T) := ⟨_, _, ⟨x_Ts.mks, a_i2, q_i2, x_Ts.kp⟩, ok_sinit (n := 19) F_i2 Z CB, b_i2, PySem.W.mg_of X G n_Ts⟩
  have M3 : MkC l.prog w K mg base "Opposite" T.p 42 ["self", "part"] (spPI T 19) := ⟨_, _, ⟨x_Tp.mks, a_i5, q_i5, x_Tp.kp⟩, ok_pinit (n := 19) F_i5 Z CB D3, b_i5, PySem.W.mg_of X G n_Tp⟩
  have M4 : MkC l.prog w K mg base "AllOf" T.a 42 ["self", "parts"] (spLI T K 19 T.a .all) := ⟨_, _, ⟨x_Ta.mks, a_i3, q_i3, x_Ta.kp⟩, ok_ainit (n := 19) F_i3 Z CB D3, b_i3, PySem.W.mg_of X G n_Ta⟩
  have M5 : MkC l.prog w K mg base "OneOf" T.o 42 ["self", "parts"] (spLI T K 19 T.o .one) := ⟨_, _, ⟨x_To.mks, a_i4, q_i4, x_To.kp⟩, ok_oinit (n := 19) F_i4 Z CB D3, b_i4, PySem.W.mg_of X G n_To⟩
  have D4 : Cal l.prog w K mg base "_law_at" 1 ["_law_script", "_law_k"] (spAt K) := ⟨_, _, ok_at F_g4, b_g4, k_g4, PySem.W.mg_of X G a_g4⟩
  have D5 : Cal l.prog w K mg base "_law_names" 1 ["_law_cell"] spNames := ⟨_, _, ok_names F_g5 TX, b_g5, k_g5, PySem.W.mg_of X G a_g5⟩
  have D6 : Cal l.prog w K mg base "_law_value" 1 ["_law_cell"] spValue := ⟨_, _, ok_value F_g6, b_g6, k_g6, PySem.W.mg_of X G a_g6⟩
  have D7 : Cal l.prog w K mg base "_law_pool" 2 ["_law_script"] (spPool K) := ⟨_, _, ok_pool F_g7 TX D4 D5 D6, b_g7, k_g7, PySem.W.mg_of X G a_g7⟩
  have D8 : Cal l.prog w K mg base "_law_deep" 1 ["_law_parts"] spDeep := ⟨_, _, ok_deep F_g8 TX, b_g8, k_g8, PySem.W.mg_of X G a_g8⟩
  have DC : Cal l.prog w K mg base "_law_cells" 20 ["_law_tree_here"] (spCells 19) := ⟨_, _, ok_cells F_g12 b_g12 k_g12 (PySem.W.mg_of X G a_g12) 19, b_g12, k_g12, PySem.W.mg_of X G a_g12⟩
  have DC' : Cal l.prog w K mg base "_law_cells" 19 ["_law_tree_here"] (spCells 18) := ⟨_, _, ok_cells F_g12 b_g12 k_g12 (PySem.W.mg_of X G a_g12) 18, b_g12, k_g12, PySem.W.mg_of X G a_g12⟩
  have DG : Cal l.prog w K mg base "_law_grown" 20 ["_law_stack", "_law_cell", "_law_pool_here"] spGrown := ⟨_, _, ok_grown F_g9 TX D8 DC', b_g9, k_g9, PySem.W.mg_of X G a_g9⟩
  have DT : Cal l.prog w K mg base "_law_tree" 21 ["_law_script", "_law_pool_here"] (spTree K) := ⟨_, _, ok_tree F_g10 TX D8 DG D4, b_g10, k_g10, PySem.W.mg_of X G a_g10⟩
  have DM : Cal l.prog w K mg base "_law_made" 63 ["_law_tree_here"] (spMade T 19) := ⟨_, _, ok_made F_g11 b_g11 k_g11 (PySem.W.mg_of X G a_g11) M1 M2 M3 M4 M5 19, b_g11, k_g11, PySem.W.mg_of X G a_g11⟩
  have DS : Cal l.prog w K mg base "_law_sorts" 1 ["_law_cond"] (spSorts T) := ⟨_, _, ok_sorts F_g13 Z IS, b_g13, k_g13, PySem.W.mg_of X G a_g13⟩
  have DI : Cal l.prog w K mg base "_law_cell_is" 1 ["_law_found", "_law_due"] spCellIs := ⟨_, _, ok_cellis F_g14 TX TX2, b_g14, k_g14, PySem.W.mg_of X G a_g14⟩
  have DQ : Cal l.prog w K mg base "_law_is" 41 ["_law_cond", "_law_tree_here"] (spIs T 39) := ⟨_, _, ok_is F_g15 b_g15 k_g15 (PySem.W.mg_of X G a_g15) Z IS TX2 DS DI 39, b_g15, k_g15, PySem.W.mg_of X G a_g15⟩
  have DO : Cal l.prog w K mg base "_law_told" 2 ["_law_cond", "_law_cells_here"] (spTold T) := ⟨_, _, ok_told F_g16 Z TX2 FG FS FA DI, b_g16, k_g16, PySem.W.mg_of X G a_g16⟩
  exact ok_law F_g17 D7 DT DM DC DO DQ
theorem walk {l : PySem.W.OpenLaw} {q : Program} {loose : List Str} {XP : (Str → Option Value) → Heap → Prop} {YP : World → Heap → Prop} {d : DefRec} {K : Params → PySem.W.Frag} (hn : l.most = some 63) (hdf : d.params.defaults = [])
    (hY : ∀ (w : World) (h : Heap), YP w h → (K w.params).In h)
    (F : ∀ (w : World) (mg : Str → Option Value) (fa : Addr) (h : Heap), (K w.params).In h → h.Ns mainGlobals mg → mg d.name = some (.ref fa) →
      ∃ fd : FuncData, (∀ (s : Shared) (u : Value), BindsTo s fd ⟨[u], []⟩ [("_law_script", u)]) ∧ ∀ base : Heap, (K w.params).In base → base.Ns mainGlobals mg → FnOk l.prog w (K w.params) mg base CX0 64 fa fd ["_law_script"] (spLaw (K w.params))) :
    PySem.W.WalkO q loose XP YP l.row.toRowW d [] (fun f vs => PySem.call f vs) :=
  L2.walk_of (n := 63) (k := 64) (x := "_law_script") (CX := fun _ => CX0) (sp := fun w => spLaw (K w.params)) hn (by decide) hdf ⟨rfl, by decide, by decide⟩ hY F (fun _ _ a ns hl _ hS => ⟨a, ns, rfl, hS, hl, fun _ => rfl⟩) fun _ _ _ _ _ z => z
end K12
namespace HD
open PySem PySem.W PyProof.Rows
abbrev pr : Program := PySem.Challenge.rw_maybetables_k12_what_stands_in_a_conditi.row.toRowW.prog
def vw : Program := { pr with main := { pr.main with body := pr.main.body.drop 30 } }
def lo : List Str := ["__name__", "MaybeError", "NoFilling", "WORTH_KEEPING", "cell_value", "gaps_among", "values_among", "cells_within", "check_filling", "Cond", "Truth", "Same", "AllOf", "OneOf", "Opposite", "_law_at", "_law_names", "_law_value", "_law_pool", "_law_deep", "_law_grown", "_law_tree", "_law_made", "_law_cells", "_law_sorts", "_law_cell_is", "_law_is", "_law_told"]
end HD
open PySem PySem.W PyProof.Rows
local macro_rules
  | `(tactic| o_head $H) => `(tactic|
      refine holds_open (q := HD.vw) (loose := HD.lo) (Xt := fun s => xlAt HD.vw [] s && recOk (RowW.records (PySem.Challenge.rw_maybetables_k12_what_stands_in_a_conditi.row.toRowW)) s)
        (XP := XL HD.vw []) (Yf := Hook.obs $H) (Ya := Hook.val $H) (YP := Hook.says $H) (N := 20000)
        ?$(Lean.mkIdent `hl) (Hook.of $H) (Hook.keeps $H) (fun s e => xl_of s (Bool.and_eq_true_iff.mp e).1) XL.keeps (by rfl) (by rfl) (by rfl)
        (fun s e => recFacts_of (Bool.and_eq_true_iff.mp e).2) (by rfl) (by first | assumption | decide +kernel) (by decide +kernel)
        ⟨rfl, rfl, rfl, rfl, rfl, by decide +kernel⟩ ?$(Lean.mkIdent `hw) ?$(Lean.mkIdent `hc))
set_option maxRecDepth 100000 in
set_option maxHeartbeats 0 in
theorem PySem.Challenge.cw_maybetables_k12_what_stands_in_a_conditi_holds : PySem.Challenge.rw_maybetables_k12_what_stands_in_a_conditi.Holds := by
  w_on; o_law; k_head
  (case hw => w_witness2)
  (case hl => exact HD.left_quick (boot_open (by kernel_rfl) (by decide +kernel) (fun s => by kernel_rfl)) (fun w os => by kernel_rfl))
  k_fill
  refine K12.walk (l := PySem.Challenge.rw_maybetables_k12_what_stands_in_a_conditi) rfl rfl (fun w h Y => PySem.W.kIn_of Y) ?F
  case F =>
    intro w mg fa h KX G hmg
    refine' K12.all_mk KX G hmg ?n_CC ?n_Tt ?n_Ts ?n_Ta ?n_To ?n_Tp ?dj ?a_g0 ?l_g0 ?c_g0 ?k_g0 ?a_g1 ?l_g1 ?c_g1 ?k_g1 ?a_g2 ?l_g2 ?c_g2 ?k_g2 ?a_g3 ?l_g3 ?c_g3 ?k_g3 ?a_g4 ?l_g4 ?c_g4 ?k_g4 ?a_g5 ?l_g5 ?c_g5 ?k_g5 ?a_g6 ?l_g6 ?c_g6 ?k_g6 ?a_g7 ?l_g7 ?c_g7 ?k_g7 ?a_g8 ?l_g8 ?c_g8 ?k_g8 ?a_g9 ?l_g9 ?c_g9 ?k_g9 ?a_g10 ?l_g10 ?c_g10 ?k_g10 ?a_g11 ?l_g11 ?c_g11 ?k_g11 ?a_g12 ?l_g12 ?c_g12 ?k_g12 ?a_g13 ?l_g13 ?c_g13 ?k_g13 ?a_g14 ?l_g14 ?c_g14 ?k_g14 ?a_g15 ?l_g15 ?c_g15 ?k_g15 ?a_g16 ?l_g16 ?c_g16 ?k_g16 ?a_g17 ?l_g17 ?c_g17 ?k_g17 ?a_i0 ?l_i0 ?c_i0 ?k_i0 ?q_i0 ?a_t0 ?l_t0 ?c_t0 ?k_t0 ?q_t0 ?a_h0 ?l_h0 ?c_h0 ?k_h0 ?q_h0 ?a_p0 ?l_p0 ?c_p0 ?k_p0 ?q_p0 ?a_s0 ?l_s0 ?c_s0 ?k_s0 ?q_s0 ?a_m0 ?l_m0 ?c_m0 ?k_m0 ?q_m0 ?a_i1 ?l_i1 ?c_i1 ?k_i1 ?q_i1 ?a_w1 ?l_w1 ?c_w1 ?k_w1 ?q_w1 ?a_i2 ?l_i2 ?c_i2 ?k_i2 ?q_i2 ?a_w2 ?l_w2 ?c_w2 ?k_w2 ?q_w2 ?a_i3 ?l_i3 ?c_i3 ?k_i3 ?q_i3 ?a_w3 ?l_w3 ?c_w3 ?k_w3 ?q_w3 ?a_i4 ?l_i4 ?c_i4 ?k_i4 ?q_i4 ?a_w4 ?l_w4 ?c_w4 ?k_w4 ?q_w4 ?a_i5 ?l_i5 ?c_i5 ?k_i5 ?q_i5 ?a_w5 ?l_w5 ?c_w5 ?k_w5 ?q_w5 ?ga ?rd ?gt ?tk ?x_Tt ?x_Ts ?x_Ta ?x_To ?x_Tp ?e1 ?e2 ?e3 ?e4 ?e5 ?e6 ?z0 ?z1 ?z2 ?z3 ?z4 ?z5 ?z6 ?z7 ?z8 ?z9 ?z10 ?z11 ?y0 ?y1 ?y2
    (case n_CC => k_is)
    (case n_Tt => k_is)
    (case n_Ts => k_is)
    (case n_Ta => k_is)
    (case n_To => k_is)
    (case n_Tp => k_is)
    (case dj => decide)
    (case a_g0 => k_is)
    (case l_g0 => k_is)
    (case c_g0 => k_is)
    (case k_g0 => k_is)
    (case a_g1 => k_is)
    (case l_g1 => k_is)
    (case c_g1 => k_is)
    (case k_g1 => k_is)
    (case a_g2 => k_is)
    (case l_g2 => k_is)
    (case c_g2 => k_is)
    (case k_g2 => k_is)
    (case a_g3 => k_is)
    (case l_g3 => k_is)
    (case c_g3 => k_is)
    (case k_g3 => k_is)
    (case a_g4 => k_is)
    (case l_g4 => k_is)
    (case c_g4 => k_is)
    (case k_g4 => k_is)
    (case a_g5 => k_is)
    (case l_g5 => k_is)
    (case c_g5 => k_is)
    (case k_g5 => k_is)
    (case a_g6 => k_is)
    (case l_g6 => k_is)
    (case c_g6 => k_is)
    (case k_g6 => k_is)
    (case a_g7 => k_is)
    (case l_g7 => k_is)
    (case c_g7 => k_is)
    (case k_g7 => k_is)
    (case a_g8 => k_is)
    (case l_g8 => k_is)
    (case c_g8 => k_is)
    (case k_g8 => k_is)
    (case a_g9 => k_is)
    (case l_g9 => k_is)
    (case c_g9 => k_is)
    (case k_g9 => k_is)
    (case a_g10 => k_is)
    (case l_g10 => k_is)
    (case c_g10 => k_is)
    (case k_g10 => k_is)
    (case a_g11 => k_is)
    (case l_g11 => k_is)
    (case c_g11 => k_is)
    (case k_g11 => k_is)
    (case a_g12 => k_is)
    (case l_g12 => k_is)
    (case c_g12 => k_is)
    (case k_g12 => k_is)
    (case a_g13 => k_is)
    (case l_g13 => k_is)
    (case c_g13 => k_is)
    (case k_g13 => k_is)
    (case a_g14 => k_is)
    (case l_g14 => k_is)
    (case c_g14 => k_is)
    (case k_g14 => k_is)
    (case a_g15 => k_is)
    (case l_g15 => k_is)
    (case c_g15 => k_is)
    (case k_g15 => k_is)
    (case a_g16 => k_is)
    (case l_g16 => k_is)
    (case c_g16 => k_is)
    (case k_g16 => k_is)
    (case a_g17 => k_is)
    (case l_g17 => k_is)
    (case c_g17 => k_is)
    (case k_g17 => k_is)
    (case a_i0 => k_is)
    (case l_i0 => k_is)
    (case c_i0 => k_is)
    (case k_i0 => k_is)
    (case q_i0 => k_is)
    (case a_t0 => k_is)
    (case l_t0 => k_is)
    (case c_t0 => k_is)
    (case k_t0 => k_is)
    (case q_t0 => k_is)
    (case a_h0 => k_is)
    (case l_h0 => k_is)
    (case c_h0 => k_is)
    (case k_h0 => k_is)
    (case q_h0 => k_is)
    (case a_p0 => k_is)
    (case l_p0 => k_is)
    (case c_p0 => k_is)
    (case k_p0 => k_is)
    (case q_p0 => k_is)
    (case a_s0 => k_is)
    (case l_s0 => k_is)
    (case c_s0 => k_is)
    (case k_s0 => k_is)
    (case q_s0 => k_is)
    (case a_m0 => k_is)
    (case l_m0 => k_is)
    (case c_m0 => k_is)
    (case k_m0 => k_is)
    (case q_m0 => k_is)
    (case a_i1 => k_is)
    (case l_i1 => k_is)
    (case c_i1 => k_is)
    (case k_i1 => k_is)
    (case q_i1 => k_is)
    (case a_w1 => k_is)
    (case l_w1 => k_is)
    (case c_w1 => k_is)
    (case k_w1 => k_is)
    (case q_w1 => k_is)
    (case a_i2 => k_is)
    (case l_i2 => k_is)
    (case c_i2 => k_is)
    (case k_i2 => k_is)
    (case q_i2 => k_is)
    (case a_w2 => k_is)
    (case l_w2 => k_is)
    (case c_w2 => k_is)
    (case k_w2 => k_is)
    (case q_w2 => k_is)
    (case a_i3 => k_is)
    (case l_i3 => k_is)
    (case c_i3 => k_is)
    (case k_i3 => k_is)
    (case q_i3 => k_is)
    (case a_w3 => k_is)
    (case l_w3 => k_is)
    (case c_w3 => k_is)
    (case k_w3 => k_is)
    (case q_w3 => k_is)
    (case a_i4 => k_is)
    (case l_i4 => k_is)
    (case c_i4 => k_is)
    (case k_i4 => k_is)
    (case q_i4 => k_is)
    (case a_w4 => k_is)
    (case l_w4 => k_is)
    (case c_w4 => k_is)
    (case k_w4 => k_is)
    (case q_w4 => k_is)
    (case a_i5 => k_is)
    (case l_i5 => k_is)
    (case c_i5 => k_is)
    (case k_i5 => k_is)
    (case q_i5 => k_is)
    (case a_w5 => k_is)
    (case l_w5 => k_is)
    (case c_w5 => k_is)
    (case k_w5 => k_is)
    (case q_w5 => k_is)
    (case ga => k_is)
    (case rd => k_is)
    (case gt => k_is)
    (case tk => k_is)
    (case x_Tt => exact ⟨by k_is, by k_is, by k_is, by k_is, by k_is, by k_is, by k_is, by k_is, by k_is, by k_is, by k_is, by k_is, by k_is, by k_is, by k_is, by kit_is, by kit_is, by kit_is, by kit_is, by kit_is, by kit_is, by k_is, by k_is⟩)
    (case x_Ts => exact ⟨by k_is, by k_is, by k_is, by k_is, by k_is, by k_is, by k_is, by k_is, by k_is, by k_is, by k_is, by k_is, by k_is, by k_is, by k_is, by kit_is, by kit_is, by kit_is, by kit_is, by kit_is, by kit_is, by k_is, by k_is⟩)
    (case x_Ta => exact ⟨by k_is, by k_is, by k_is, by k_is, by k_is, by k_is, by k_is, by k_is, by k_is, by k_is, by k_is, by k_is, by k_is, by k_is, by k_is, by kit_is, by kit_is, by kit_is, by kit_is, by kit_is, by kit_is, by k_is, by k_is⟩)
    (case x_To => exact ⟨by k_is, by k_is, by k_is, by k_is, by k_is, by k_is, by k_is, by k_is, by k_is, by k_is, by k_is, by k_is, by k_is, by k_is, by k_is, by kit_is, by kit_is, by kit_is, by kit_is, by kit_is, by kit_is, by k_is, by k_is⟩)
    (case x_Tp => exact ⟨by k_is, by k_is, by k_is, by k_is, by k_is, by k_is, by k_is, by k_is, by k_is, by k_is, by k_is, by k_is, by k_is, by k_is, by k_is, by kit_is, by kit_is, by kit_is, by kit_is, by kit_is, by kit_is, by k_is, by k_is⟩)
    (case e1 => k_is)
    (case e2 => k_is)
    (case e3 => k_is)
    (case e4 => k_is)
    (case e5 => k_is)
    (case e6 => k_is)
    (case z0 => k_is)
    (case z1 => k_is)
    (case z2 => k_is)
    (case z3 => k_is)
    (case z4 => k_is)
    (case z5 => k_is)
    (case z6 => k_is)
    (case z7 => k_is)
    (case z8 => k_is)
    (case z9 => k_is)
    (case z10 => k_is)
    (case z11 => k_is)
    (case y0 => k_is)
    (case y1 => k_is)
    (case y2 => k_is)
