import PyProof.Rows.All
import Wide.All
import OpenK.AllK
import Wide.FinOn
import Lean
import PyProof.EqAt
import PyProof.EqKinds
import PyProof.NeKinds
import PyProof.TupleCall
import PyProof.SetKind
import PyProof.Rows.SetFrom
import KE.KDictSum
import PyProof.Rows.SortStr
import OpenK.KCls
import PyProof.MeetsDictList
import PyProof.Rows.CallKwBuiltin
import PyProof.MinMaxWalk
import PyProof.Commute
import OpenK.KRaise
import OpenK.KOwn
import PyProof.NsDelKeeps
import PyProof.ExcArgs
import PyProof.InstStoreFacts
import PyProof.ExcClass2
import PyProof.DictWalks
import KE.KDictList
import PyProof.LayNew
import PyProof.Rows.ZipGen
import PyProof.Rows.FactsT2
import KE.KListMore
import PyProof.DictDisplay
import KE.KDictLaws
import PyProof.ConsumeWalk
import PyProof.ZipIter
import PyProof.Rows.StrJoin2
import KE.KxText
import PyProof.StrWalks
import PyProof.EnumIter
import PyProof.Draws
import PyProof.Rows.StrMeet
import PySem.Challenge.RW_maybetables_k32_tables_refused
set_option Elab.async false
set_option linter.all false
set_option maxRecDepth 100000
set_option Elab.async false
namespace HD
open PySem PySem.W PyProof.Rows
/-! ### the top's run, at one go, over a tree -/
noncomputable def topRunT (tb : String → Option Builtin) (p : Program) (w : World) (n₀ : Nat) (ann : Option Value) : Nat → SharedT → Thread → Option SharedT
  | 0, _, _ => none
  | n + 1, s, t => match through t with
    | true => some s
    | false => match stepOk n₀ ann t with
      | false => none
      | true => match stepT (denote tb) p w s t with
        | some r => topRunT tb p w n₀ ann n r.1 r.2
        | none => none
theorem topRun_of {tb : String → Option Builtin} {p : Program} {w : World} {n₀ : Nat} {ann : Option Value} : ∀ {n : Nat} {s s' : SharedT} {t : Thread}, topRunT tb p w n₀ ann n s t = some s' → topRun tb p w n₀ ann n s.abs t = some s'.abs
  | 0, _, _, _, h => by cases h
  | n + 1, s, s', t, h => by
    unfold topRunT at h
    unfold topRun
    cases hth : through t with
    | true => rw [hth] at h; cases h; rfl
    | false =>
      rw [hth] at h
      cases hb : stepOk n₀ ann t with
      | false => rw [hb] at h; cases h
      | true =>
        rw [hb] at h
        cases hst : stepT (denote tb) p w s t with
        | none => rw [hst] at h; cases h
        | some r =>
          obtain ⟨sB, tB⟩ := r
          rw [hst] at h
          rw [stepT_spec hst]
          exact topRun_of h
/-- the objects of a list behind those of a tree -/
def grow : List Obj → BT → Nat → Option BT
  | [], t, _ => some t
  | o :: r, t, n => match ((t.ins n o).get n).isSome with
    | true => grow r (t.ins n o) (n + 1)
    | false => none
theorem grow_abs {life : Life} : ∀ {l : List Obj} {t t' : BT} {n : Nat}, grow l t n = some t' → absHeap t' (n + l.length) life = ⟨(absHeap t n life).objs ++ l.toArray, life⟩
  | [], t, t', n, h => by
    cases h
    show absHeap t n life = _
    simp [absHeap]
  | o :: r, t, t', n, h => by
    unfold grow at h
    cases e : ((t.ins n o).get n).isSome with
    | false => rw [e] at h; cases h
    | true =>
      rw [e] at h
      have ih := grow_abs (life := life) h
      rw [absHeap_ins e] at ih
      rw [List.length_cons, show n + (r.length + 1) = n + 1 + r.length by omega, ih]
      show Heap.mk (((absHeap t n life).push o).objs ++ r.toArray) life = _
      show Heap.mk (((absHeap t n life).objs.push o) ++ r.toArray) life = _
      congr 1
      apply Array.toList_inj.mp
      simp
theorem grow_all {h : Heap} {t : BT} (e : grow h.objs.toList .nil 0 = some t) : absHeap t h.objs.size h.life = h := by
  have := grow_abs (life := h.life) e
  rw [Nat.zero_add, Array.length_toList] at this
  rw [this]
  cases h
  simp [absHeap, BT.list]
/-- what is seen behind it -/
noncomputable def seenT (p q : Program) (loose : List Str) (Xt : Shared → Bool) (as : List Addr) (s₀ s : Shared) :=
  ((staticsOk (importedModules p.main.body) s₀.heap s.heap && namesBound p s.heap && gensDone s && laidKept s₀.heap s.heap), openSeen q loose (importedModules p.main.body) Xt true s, as.map s.heap.get?)
noncomputable def bigT (p q : Program) (loose : List Str) (Xt : Shared → Bool) (as : List Addr) (N : Nat) (H₀ : Params → Heap) (w : World) (os : OsState) :=
  (grow (H₀ w.params).objs.toList .nil 0).bind fun t =>
    (topRunT treeTable p w (H₀ w.params).objs.size ((H₀ w.params).nsMap mainGlobals "__annotations__") N ⟨t, (H₀ w.params).objs.size, (H₀ w.params).life, Array.mk [], boot_drawn, boot_toks, os⟩ (topStub p)).map fun s =>
      ((H₀ w.params).isNs mainGlobals, seenT p q loose Xt as ⟨H₀ w.params, Array.mk [], boot_drawn, boot_toks, os⟩ s.abs)
theorem left_big {p q : Program} {loose : List Str} {Xt : Shared → Bool} {K : Params → Frag} {as : List Addr} {N : Nat}
    (o : ∀ w : World, (fencedOpening treeTable p w N).map (fun s => (s.heap, s.gens, s.drawn, s.toks)) = some (boot_heap w.params, Array.mk [], boot_drawn, boot_toks))
    (h : ∀ (w : World) (os : OsState), bigT p q loose Xt as N boot_heap w os = some (true, true, openGood q loose, (K w.params).map fun p => some p.2)) : LeftO p q loose Xt (fun s => as.map s.heap.get?) (fun w => (K w.params).map fun p => some p.2) N := fun w => by
  obtain ⟨⟨hh, gs, d, k, os⟩, e, e'⟩ := Option.map_eq_some_iff.mp (o w)
  obtain ⟨rfl, rfl, rfl, rfl⟩ : hh = boot_heap w.params ∧ gs = Array.mk [] ∧ d = boot_drawn ∧ k = boot_toks := by simpa using e'
  obtain ⟨t, h1, h2⟩ := Option.bind_eq_some_iff.mp (h w os)
  obtain ⟨s, h3, h4⟩ := Option.map_eq_some_iff.mp h2
  have ha := grow_all h1
  have h5 := topRun_of h3
  have e0 : (SharedT.mk t (boot_heap w.params).objs.size (boot_heap w.params).life #[] boot_drawn boot_toks os).abs = ⟨boot_heap w.params, Array.mk [], boot_drawn, boot_toks, os⟩ := by
    unfold SharedT.abs
    rw [ha]
  rw [e0] at h5
  obtain ⟨i1, i2⟩ := Prod.mk.inj h4
  unfold seenT at i2
  obtain ⟨i3, i4⟩ := Prod.mk.inj i2
  obtain ⟨i5, i6⟩ := Prod.mk.inj i4
  have z : ((boot_heap w.params).isNs mainGlobals && (Array.mk [] : Array GenState).size == 0) = true := by rw [i1]; rfl
  have t' : topFrom treeTable p w N ⟨boot_heap w.params, Array.mk [], boot_drawn, boot_toks, os⟩ = some s.abs := by
    unfold topFrom
    dsimp only
    rw [z, h5]
    show (match staticsOk (importedModules p.main.body) (boot_heap w.params) s.abs.heap && namesBound p s.abs.heap && gensDone s.abs && laidKept (boot_heap w.params) s.abs.heap with | true => some s.abs | false => none) = some s.abs
    rw [i3]
  unfold openEnds
  rw [e]
  show (topFrom treeTable p w N _).map _ = _
  rw [t']
  exact congrArg some (Prod.ext i5 i6)
noncomputable def goodT (q : Program) (loose : List Str) := openGood q loose
end HD
lay_quick HD.bigT
lay_quick HD.goodT

namespace HD
open PySem PySem.W PyProof.Rows
theorem left_quick {p q : Program} {loose : List Str} {Xt : Shared → Bool} {K : Params → Frag} {as : List Addr} {N : Nat}
    (o : ∀ w : World, (fencedOpening treeTable p w N).map (fun s => (s.heap, s.gens, s.drawn, s.toks)) = some (boot_heap w.params, Array.mk [], boot_drawn, boot_toks))
    (h : ∀ (w : World) (os : OsState), PySem.W.Fast.tw7652524407582654731 p q loose Xt as N boot_heap w os = some (true, true, PySem.W.Fast.tw17311637784456860124 q loose, (K w.params).map fun p => some p.2)) : LeftO p q loose Xt (fun s => as.map s.heap.get?) (fun w => (K w.params).map fun p => some p.2) N :=
  left_big o fun w os => by
    rw [PySem.W.Fast.te7652524407582654731]
    refine (h w os).trans ?_
    rw [← PySem.W.Fast.te17311637784456860124]
    rfl
end HD
/-! THE HAND LAYER, for ints, bools, texts, own classes, LISTS and tuples (index, slices, in, append, pop ..), calls, loops. Paste it whole ahead of your own text; what your proof does not reach may be deleted. -/
namespace L2
open PySem PySem.Spec PyProof.Rows

/-- a key: an int or a str -/
abbrev Key := Sum Int Str
def keyIs : Key → Value → Bool
  | .inl k, v => Value.isInt k v
  | .inr x, v => Value.isStrOf x v
def keyH (w : World) : Key → Int
  | .inl k => hashInt k
  | .inr x => hashStr w x
theorem keyIs_shape : ∀ {k : Key} {v : Value}, keyIs k v = true → (∃ i t, k = Sum.inl i ∧ v = Value.int i t) ∨ (∃ x t, k = Sum.inr x ∧ v = Value.str x t)
  | .inl i, v, h => by
    obtain ⟨t, e⟩ := Value.isInt_shape (k := i) (v := v) h
    exact .inl ⟨i, t, rfl, e⟩
  | .inr x, v, h => by
    obtain ⟨t, e⟩ := Value.isStrOf_shape (x := x) (v := v) h
    exact .inr ⟨x, t, rfl, e⟩
theorem keyIs_int (i : Int) (t : Tok) : keyIs (.inl i) (.int i t) = true := by simp [keyIs, Value.isInt]
theorem keyIs_str (x : Str) (t : Tok) : keyIs (.inr x) (.str x t) = true := by simp [keyIs, Value.isStrOf]
theorem key_ll (a b : Int) : decide ((Sum.inl a : Key) = Sum.inl b) = (a == b) := by
  by_cases e : a = b
  · subst e; simp
  · have h : ¬ (Sum.inl a : Key) = Sum.inl b := fun q => e (Sum.inl.inj q)
    rw [decide_eq_false h]
    exact (beq_eq_false_iff_ne.mpr e).symm
theorem key_rr (a b : Str) : decide ((Sum.inr a : Key) = Sum.inr b) = decide (a = b) := by
  by_cases e : a = b
  · subst e; simp
  · have h : ¬ (Sum.inr a : Key) = Sum.inr b := fun q => e (Sum.inr.inj q)
    rw [decide_eq_false h, decide_eq_false e]
theorem key_lr (a : Int) (b : Str) : decide ((Sum.inl a : Key) = Sum.inr b) = false := decide_eq_false (fun q => nomatch q)
theorem key_rl (a : Str) (b : Int) : decide ((Sum.inr a : Key) = Sum.inl b) = false := decide_eq_false (fun q => nomatch q)

def mixKind (prog : Program) (w : World) : PySem.KeyKind prog w Key where
  is := keyIs
  hash := keyH w
  inj := fun v a b ha hb => by
    rcases keyIs_shape ha with ⟨i, t, rfl, rfl⟩ | ⟨x, t, rfl, rfl⟩
    · rcases keyIs_shape hb with ⟨j, u, rfl, e⟩ | ⟨y, u, rfl, e⟩
      · injection e with e1 _; rw [e1]
      · exact nomatch e
    · rcases keyIs_shape hb with ⟨j, u, rfl, e⟩ | ⟨y, u, rfl, e⟩
      · exact nomatch e
      · injection e with e1 _; rw [e1]
  byValue := fun k v h => by
    rcases keyIs_shape h with ⟨i, t, rfl, rfl⟩ | ⟨x, t, rfl, rfl⟩ <;> rfl
  pyHash := fun hv h => by
    rcases keyIs_shape hv with ⟨i, t, rfl, rfl⟩ | ⟨x, t, rfl, rfl⟩
    · exact wpAny_pyHash_int h
    · exact wpAny_pyHash_str h
  eqBool := fun hu hv h => by
    rcases keyIs_shape hu with ⟨i, t, rfl, rfl⟩ | ⟨x, t, rfl, rfl⟩
    · rcases keyIs_shape hv with ⟨j, u, rfl, rfl⟩ | ⟨y, u, rfl, rfl⟩
      · rw [key_ll] at h; exact wpAny_eqBool_int h
      · rw [key_lr] at h; exact SeqAt.EqAt.int_str i t y u _ _ _ _ h
    · rcases keyIs_shape hv with ⟨j, u, rfl, rfl⟩ | ⟨y, u, rfl, rfl⟩
      · rw [key_rl] at h; exact SeqAt.EqAt.str_int x t j u _ _ _ _ h
      · rw [key_rr] at h; exact wpAny_eqBool_str h
  «strs» := fun k x t v h => by
    rcases keyIs_shape h with ⟨i, u, rfl, e⟩ | ⟨y, u, rfl, e⟩
    · exact nomatch e
    · injection e with e1 _
      subst e1
      cases v <;> rfl

theorem mixKind_is (prog : Program) (w : World) (k : Key) (v : Value) : (mixKind prog w).is k v = keyIs k v := rfl
end L2

namespace L2
open PySem PySem.Spec PyProof.Rows

/-- a value, without the heap -/
inductive V where
  | non | bl (b : Bool) | int (i : Int) | str (x : Str) | byt (b : Array UInt8) | flt (b : UInt64) | ref (a : Addr) | ty (n : String)
  deriving DecidableEq

def RelV : V → Value → Prop
  | .non, u => u = Value.none
  | .bl b, u => u = Value.bool b
  | .int i, u => ∃ t, u = Value.int i t
  | .str x, u => ∃ t, u = Value.str x t
  | .byt b, u => ∃ t, u = Value.bytes b t
  | .flt b, u => ∃ t, u = Value.float b t
  | .ref a, u => u = Value.ref a
  | .ty n, u => u = Value.type n

abbrev Vals : List V → List Value → Prop := Paired RelV
theorem Vals.length {xs : List V} {us : List Value} (r : Vals xs us) : xs.length = us.length := Paired.length r
theorem Vals.get : ∀ {xs : List V} {us : List Value} {i : Nat} {x : V}, Vals xs us → xs[i]? = some x → ∃ u, us[i]? = some u ∧ RelV x u
  | _, _, _, _, .nil, e => by simp at e
  | _, _, 0, _, .cons r _, e => by simp at e; subst e; exact ⟨_, rfl, r⟩
  | _, _, i + 1, x, .cons _ t, e => by
    obtain ⟨u, h1, h2⟩ := Vals.get (i := i) (x := x) t (by simpa using e)
    exact ⟨u, by simpa using h1, h2⟩
theorem Vals.set {x : V} {u : Value} (r : RelV x u) : ∀ {xs : List V} {us : List Value} (i : Nat), Vals xs us → Vals (xs.set i x) (us.set i u)
  | _, _, _, .nil => .nil
  | _, _, 0, .cons _ t => .cons r t
  | _, _, i + 1, .cons q t => .cons q (Vals.set r i t)
theorem Vals.append : ∀ {xs ys : List V} {us ws : List Value}, Vals xs us → Vals ys ws → Vals (xs ++ ys) (us ++ ws)
  | _, _, _, _, .nil, s => s
  | _, _, _, _, .cons r t, s => .cons r (Vals.append t s)
theorem Vals.take : ∀ {xs : List V} {us : List Value} (n : Nat), Vals xs us → Vals (xs.take n) (us.take n)
  | _, _, 0, _ => .nil
  | _, _, _ + 1, .nil => .nil
  | _, _, n + 1, .cons r t => .cons r (Vals.take n t)
theorem Vals.drop : ∀ {xs : List V} {us : List Value} (n : Nat), Vals xs us → Vals (xs.drop n) (us.drop n)
  | _, _, 0, r => r
  | _, _, _ + 1, .nil => .nil
  | _, _, n + 1, .cons _ t => Vals.drop n t

def RelO : Option V → Option Value → Prop
  | some v, some u => RelV v u
  | none, none => True
  | _, _ => False
def KV {κ : Type} : List (κ × V) → List (κ × Value) → Prop := Paired fun (p : κ × V) (q : κ × Value) => p.1 = q.1 ∧ RelV p.2 q.2

/-- a key of a dict (00_mix): an int or a text -/
def kV : Key → V
  | .inl i => .int i
  | .inr x => .str x

/-- what stands at a tracked address -/
inductive HO where
  /-- a list -/
  | lst (xs : List V)
  /-- a tuple (never changes) -/
  | tup (xs : List V)
  /-- a dict whose keys are ints and texts; one whose keys are tuples of ints and texts (the empty one is both) -/
  | dK (kvs : List (Key × V)) | dT (kvs : List (List Key × V))
  /-- a set of ints: its members, its size -/
  | set (S : Int → Bool) (n : Nat)
  /-- an instance of the class at C, its dict at dx, its attributes -/
  | ins (C dx : Addr) (fs : List (Str × V))
  /-- the dict of the instance at x -/
  | own (x : Addr)
  /-- the dict of an exception -/
  | xd (fs : List (Str × V))
  /-- a bound method, f of x -/
  | met (f x : Addr)
  /-- a range object lo, lo + 1, .. below hi -/
  | rng (lo hi : Int)
  /-- a thing that is known to the object (the script; a dict while a loop walks it): read, never written while it is so -/
  | frz (o : Obj) (u : HO)
  /-- a code object's table -/
  | tbl (ps : Array Value)
  /-- any other thing, by what is true of its one object (a def of one's own: SetO a S n := HO.ext fun h => ..) -/
  | ext (φ : Heap → Prop)

abbrev Hp := Addr → Option HO
def upd (H : Hp) (a : Addr) (o : HO) : Hp := fun b => if b = a then some o else H b
theorem upd_same {H : Hp} {a : Addr} {o : HO} : upd H a o a = some o := by unfold upd; rw [if_pos rfl]
theorem upd_ne {H : Hp} {a b : Addr} {o : HO} (h : b ≠ a) : upd H a o b = H b := by unfold upd; rw [if_neg h]
theorem ne_of_none {H : Hp} {a b : Addr} {o : HO} (h : H a = some o) (h' : H b = none) : a ≠ b := by
  intro e; subst e; rw [h] at h'; cases h'

/-- a tuple, without a dict of its own -/
def TupN (h : Heap) (a : Addr) (items : Array Value) : Prop := ∃ o, h.get? a = some o ∧ o.cls = .type "tuple" ∧ o.dict = none ∧ ∃ n, o.data = .seq items n
theorem TupN.tup {h : Heap} {a : Addr} {items : Array Value} (x : TupN h a items) : IsTup h a items := by
  obtain ⟨o, e, c, _, n, d⟩ := x
  exact ⟨o, e, c, n, d⟩
theorem TupN.lt {h : Heap} {a : Addr} {items : Array Value} (x : TupN h a items) : a < h.objs.size := by
  obtain ⟨o, e, _⟩ := x
  exact Heap.lt_size e
theorem TupN.new (h : Heap) (items : Array Value) : TupN (h.push { cls := .type "tuple", data := .seq items }) h.objs.size items := ⟨_, Heap.get?_push_size _ rfl, rfl, rfl, 0, rfl⟩
section
variable (P : Program) (w : World)
def ObjOk (H : Hp) (h : Heap) (a : Addr) : HO → Prop
  | .lst xs => xs.length ≤ sizeLine ∧ ∃ (its : List Value) (n : Nat), Vals xs its ∧ h.get? a = some { cls := .type "list", data := .seq its.toArray n }
  | .tup xs => xs.length ≤ sizeLine ∧ ∃ its : List Value, Vals xs its ∧ TupN h a its.toArray
  | .dK kvs => kvs.length ≤ sizeLine ∧ (a == sysModules) = false ∧ ∃ vs, KV kvs vs ∧ h.DictOf (mixKind P w) a vs
  | .dT kvs => kvs.length ≤ sizeLine ∧ (a == sysModules) = false ∧ ∃ xs : List (List Key × Addr × Value),
      Paired (fun (p : List Key × V) (q : List Key × Addr × Value) => p.1 = q.1 ∧ H q.2.1 = some (.tup (p.1.map kV)) ∧ RelV p.2 q.2.2) kvs xs ∧
      ∃ o es ep, h.get? a = some o ∧ o.ExactDict ∧ o.data = .dict es ep ∧ es.toList = xs.map (entryOfKey (tupleKind (mixKind P w))) ∧ (xs.map (·.1)).Nodup
  | .set S n => h.SetOf (intKind P w) a S n
  | .ins C dx fs => H dx = some (.own a) ∧ fs.length ≤ 1000 ∧ dx ≠ a ∧ h.get? a = some (PySem.W.instObj C dx) ∧
      ∃ mA, h.Ns1 dx mA ∧ (∀ f, RelO (fs.lookup f) (mA f)) ∧ PySem.Within mA (fs.map (·.1))
  | .own _ => ∃ o, h.get? a = some o
  | .xd fs => ∃ mA, h.Ns1 a mA ∧ ∀ f, RelO (fs.lookup f) (mA f)
  | .rng lo hi => ∃ t u v, h.get? a = some { cls := .type "range", data := .fields #[.int lo t, .int hi u, .int 1 v] }
  | .frz o u => h.get? a = some o ∧ ObjOk H h a u
  | .tbl ps => h.get? a = some { cls := .none, data := .fields ps }
  | .met f x => h.get? a = some (PySem.W.methodObj (.ref f) (.ref x))
  | .ext φ => φ h ∧ (∃ o, h.get? a = some o) ∧ ∀ h1 h2 : Heap, φ h1 → (∀ o, h1.get? a = some o → h2.get? a = some o) → φ h2
/-- the abstract heap is held -/
def HOk (H : Hp) (h : Heap) : Prop := ∀ a o, H a = some o → ObjOk P w H h a o
end

section
variable {P : Program} {w : World} {H H' : Hp} {h h' : Heap} {a : Addr} {o : HO}
theorem ObjOk.lt (x : ObjOk P w H h a o) : a < h.objs.size := by
  cases o with
  | lst xs => obtain ⟨_, _, _, _, e⟩ := x; exact Heap.lt_size e
  | tup xs => obtain ⟨_, _, _, p⟩ := x; exact p.lt
  | dK kvs => obtain ⟨_, _, _, _, o, _, _, e, _⟩ := x; exact Heap.lt_size e
  | dT kvs => obtain ⟨_, _, _, _, o, _, _, e, _⟩ := x; exact Heap.lt_size e
  | set S n => obtain ⟨o, _, _, _, e, _⟩ := x; exact Heap.lt_size e
  | ins C dx fs => obtain ⟨_, _, _, e, _⟩ := x; exact Heap.lt_size e
  | own y => obtain ⟨_, e⟩ := x; exact Heap.lt_size e
  | xd fs => obtain ⟨_, ⟨_, _, _, e, _⟩, _⟩ := x; exact Heap.lt_size e
  | rng lo hi => obtain ⟨_, _, _, e⟩ := x; exact Heap.lt_size e
  | frz ob u => obtain ⟨e, _⟩ := x; exact Heap.lt_size e
  | tbl ps => exact Heap.lt_size (show h.get? a = some _ from x)
  | met f y => exact Heap.lt_size (show h.get? a = some _ from x)
  | ext φ => obtain ⟨_, ⟨_, e⟩, _⟩ := x; exact Heap.lt_size e
theorem Paired.mapP {α β : Type} {F G : α → β → Prop} : ∀ {l₁ : List α} {l₂ : List β}, Paired F l₁ l₂ → (∀ a b, F a b → G a b) → Paired G l₁ l₂
  | _, _, .nil, _ => .nil
  | _, _, .cons r t, f => .cons (f _ _ r) (Paired.mapP t f)
/-- what an object's description leans on: its own object, its own dict, the tuples -/
theorem ObjOk.stay (x : ObjOk P w H h a o) (k : ∀ b u, (b = a ∨ H b = some (.own a)) → h.get? b = some u → h'.get? b = some u)
    (ho : ∀ b, H b = some (.own a) → H' b = some (.own a)) (ht : ∀ b xs, H b = some (.tup xs) → H' b = some (.tup xs)) : ObjOk P w H' h' a o := by
  induction o with
  | lst xs => obtain ⟨z, its, n, r, e⟩ := x; exact ⟨z, its, n, r, k _ _ (.inl rfl) e⟩
  | tup xs => obtain ⟨z, its, r, ob, e, c⟩ := x; exact ⟨z, its, r, ob, k _ _ (.inl rfl) e, c⟩
  | dK kvs => obtain ⟨z, y, vs, r, ob, es, ep, e, c⟩ := x; exact ⟨z, y, vs, r, ob, es, ep, k _ _ (.inl rfl) e, c⟩
  | dT kvs =>
    obtain ⟨z, y, xs, r, ob, es, ep, e, c⟩ := x
    exact ⟨z, y, xs, Paired.mapP r fun p q z => ⟨z.1, ht _ _ z.2.1, z.2.2⟩, ob, es, ep, k _ _ (.inl rfl) e, c⟩
  | set S n => obtain ⟨ob, es, ep, t, e, c⟩ := x; exact ⟨ob, es, ep, t, k _ _ (.inl rfl) e, c⟩
  | ins C dx fs =>
    obtain ⟨d, z, ne, e, mA, ⟨od, es, ep, e2, c⟩, r⟩ := x
    exact ⟨ho _ d, z, ne, k _ _ (.inl rfl) e, mA, ⟨od, es, ep, k _ _ (.inr d) e2, c⟩, r⟩
  | own y => obtain ⟨ob, e⟩ := x; exact ⟨ob, k _ _ (.inl rfl) e⟩
  | xd fs => obtain ⟨mA, ⟨od, es, ep, e, c⟩, r⟩ := x; exact ⟨mA, ⟨od, es, ep, k _ _ (.inl rfl) e, c⟩, r⟩
  | rng lo hi => obtain ⟨t, u, v, e⟩ := x; exact ⟨t, u, v, k _ _ (.inl rfl) e⟩
  | frz ob u ih => obtain ⟨e, q⟩ := x; exact ⟨k _ _ (.inl rfl) e, ih q⟩
  | tbl ps =>
    have e : h.get? a = some { cls := .none, data := .fields ps } := x
    show h'.get? a = some { cls := .none, data := .fields ps }
    exact k a _ (.inl rfl) e
  | met f y =>
    have e : h.get? a = some (PySem.W.methodObj (.ref f) (.ref y)) := x
    show h'.get? a = some (PySem.W.methodObj (.ref f) (.ref y))
    exact k a _ (.inl rfl) e
  | ext φ => obtain ⟨p, ⟨o, e⟩, st⟩ := x; exact ⟨st _ _ p fun o q => k _ _ (.inl rfl) q, ⟨o, k _ _ (.inl rfl) e⟩, st⟩
theorem HOk.lt (x : HOk P w H h) (e : H a = some o) : a < h.objs.size := (x a o e).lt
theorem HOk.fresh (x : HOk P w H h) (e : h.objs.size ≤ a) : H a = none := by
  cases q : H a with
  | none => rfl
  | some u => exact absurd (Nat.lt_of_lt_of_le (x.lt q) e) (Nat.lt_irrefl _)
/-- every object of the heap is kept -/
theorem HOk.kept (x : HOk P w H h) (k : ∀ b u, h.get? b = some u → h'.get? b = some u) : HOk P w H h' := fun a o e =>
  (x a o e).stay (fun b u _ q => k b u q) (fun _ q => q) fun _ _ q => q
/-- a new object is laid and tracked -/
theorem HOk.laid (x : HOk P w H h) (k : ∀ b u, h.get? b = some u → h'.get? b = some u) (hp : h.objs.size ≤ a) (new : ObjOk P w (upd H a o) h' a o) : HOk P w (upd H a o) h' := fun b u e => by
  have hn := x.fresh hp
  by_cases hb : b = a
  · subst hb; rw [upd_same] at e; cases e; exact new
  · rw [upd_ne hb] at e
    exact (x b u e).stay (fun c v _ q => k c v q) (fun c q => by rw [upd_ne (ne_of_none q hn)]; exact q) fun c xs q => by rw [upd_ne (ne_of_none q hn)]; exact q
end

/-- what may be read as u: it is u, or a known u -/
def Rd (H : Hp) (a : Addr) (u : HO) : Prop := H a = some u ∨ ∃ o, H a = some (.frz o u)
theorem Rd.ok {P : Program} {w : World} {H : Hp} {h : Heap} {a : Addr} {u : HO} (r : Rd H a u) (x : HOk P w H h) : ObjOk P w H h a u := by
  rcases r with r | ⟨o, r⟩
  · exact x a u r
  · obtain ⟨_, q⟩ := x a _ r
    exact q
/-- what may be written -/
def Mut : Option HO → Prop
  | some (.lst _) => True
  | some (.dK _) => True
  | some (.dT _) => True
  | some (.set _ _) => True
  | some (.ins _ _ _) => True
  | some (.ext _) => True
  | _ => False
section
variable {P : Program} {w : World} {H : Hp} {h h' : Heap} {x e : Addr} {o' : HO}
/-- the object at e is changed: x itself, or the dict of the instance x -/
theorem HOk.write (ok : HOk P w H h) (mu : Mut (H x)) (he : e = x ∨ H e = some (.own x)) (k : ∀ b u, b ≠ e → h.get? b = some u → h'.get? b = some u) (heo : ∃ u, h'.get? e = some u)
    (new : ObjOk P w (upd H x o') h' x o') : HOk P w (upd H x o') h' := fun b u q => by
  have nown : ∀ c y, H c = some (.own y) → c ≠ x := fun c y r z => by subst z; rw [r] at mu; exact mu
  have ntup : ∀ c xs, H c = some (.tup xs) → c ≠ x := fun c xs r z => by subst z; rw [r] at mu; exact mu
  by_cases hb : b = x
  · subst hb; rw [upd_same] at q; cases q; exact new
  · rw [upd_ne hb] at q
    by_cases hbe : b = e
    · have q' : H b = some (.own x) := by
        rcases he with z | z
        · exact absurd (hbe.trans z) hb
        · rw [hbe]; exact z
      rw [q] at q'; cases q'
      obtain ⟨v, hv⟩ := heo
      exact ⟨v, by rw [hbe]; exact hv⟩
    · refine (ok b u q).stay (fun c v hc r => k c v ?_ r) (fun c r => by rw [upd_ne (nown c b r)]; exact r) fun c xs r => by rw [upd_ne (ntup c xs r)]; exact r
      rcases hc with rfl | hc
      · exact hbe
      · rintro rfl
        rcases he with z | z
        · exact nown c b hc z
        · rw [hc] at z; cases z; exact hb rfl
end

/-! ### kept unless tracked; of the frames at fs (the callers') the slots may change (an exception that passes writes there); of the records at ex (iterators) nothing is said -/
structure Un (fs ex : List Addr) (H H' : Hp) (h h' : Heap) : Prop where
  keep : ∀ b o, h.get? b = some o → H b = none → b ∉ fs → b ∉ ex → h'.get? b = some o
  slot : ∀ b o, h.get? b = some o → H b = none → b ∈ fs → b ∉ ex → ∃ sl, h'.get? b = some { o with slots := sl }
  free : ∀ b o, h.get? b = some o → H b = none → b ∉ ex → H' b = none
  there : ∀ b o, h.get? b = some o → b ∉ ex → ∃ o', h'.get? b = some o'
  tups : ∀ b xs, H b = some (.tup xs) → H' b = some (.tup xs)
  frzs : ∀ b o u, H b = some (.frz o u) → H' b = some (.frz o u)
  tbls : ∀ b ps, H b = some (.tbl ps) → ∃ more, H' b = some (.tbl (ps ++ more))
section
variable {fs fs' ex ex' : List Addr} {H H1 H2 : Hp} {h h1 h2 h' : Heap} {a x e : Addr} {o : HO}
theorem Un.any (u : Un fs ex H H1 h h1) {b : Addr} {ob : Obj} (q : h.get? b = some ob) (n : H b = none) (hx : b ∉ ex) : ∃ sl, h1.get? b = some { ob with slots := sl } := by
  by_cases hb : b ∈ fs
  · exact u.slot b ob q n hb hx
  · exact ⟨ob.slots, u.keep b ob q n hb hx⟩
theorem Un.trans (a : Un fs ex H H1 h h1) (b : Un fs ex H1 H2 h1 h2) : Un fs ex H H2 h h2 where
  keep := fun c ob q n hc hx => b.keep c ob (a.keep c ob q n hc hx) (a.free c ob q n hx) hc hx
  slot := fun c ob q n hc hx => by
    obtain ⟨sl, e1⟩ := a.slot c ob q n hc hx
    obtain ⟨sl', e2⟩ := b.slot c _ e1 (a.free c ob q n hx) hc hx
    exact ⟨sl', e2⟩
  free := fun c ob q n hx => by
    obtain ⟨o', e1⟩ := a.there c ob q hx
    exact b.free c o' e1 (a.free c ob q n hx) hx
  there := fun c ob q hx => by
    obtain ⟨o', e1⟩ := a.there c ob q hx
    exact b.there c o' e1 hx
  tups := fun c xs q => b.tups c xs (a.tups c xs q)
  frzs := fun c ob xs q => b.frzs c ob xs (a.frzs c ob xs q)
  tbls := fun c ps q => by
    obtain ⟨m1, e1⟩ := a.tbls c ps q
    obtain ⟨m2, e2⟩ := b.tbls c _ e1
    exact ⟨m1 ++ m2, by rw [e2, Array.append_assoc]⟩
theorem Un.kept (k : ∀ b u, h.get? b = some u → h'.get? b = some u) : Un fs ex H H h h' :=
  ⟨fun b ob q _ _ _ => k b ob q, fun b ob q _ _ _ => ⟨ob.slots, k b ob q⟩, fun _ _ _ n _ => n, fun b ob q _ => ⟨ob, k b ob q⟩, fun _ _ q => q, fun _ _ _ q => q, fun _ ps q => ⟨#[], by rw [q]; simp⟩⟩
theorem Un.refl : Un fs ex H H h h := Un.kept fun _ _ q => q
theorem Un.laid (k : ∀ b u, h.get? b = some u → h'.get? b = some u) (hp : h.objs.size ≤ a) (hn : H a = none) : Un fs ex H (upd H a o) h h' where
  keep := fun b u q _ _ _ => k b u q
  slot := fun b u q _ _ _ => ⟨u.slots, k b u q⟩
  free := fun b u q n _ => by rw [upd_ne (Nat.ne_of_lt (Nat.lt_of_lt_of_le (Heap.lt_size q) hp))]; exact n
  there := fun b u q _ => ⟨u, k b u q⟩
  tups := fun b xs q => by rw [upd_ne (ne_of_none q hn)]; exact q
  frzs := fun b u xs q => by rw [upd_ne (ne_of_none q hn)]; exact q
  tbls := fun b ps q => ⟨#[], by rw [upd_ne (ne_of_none q hn), q]; simp⟩
theorem Un.write (mu : Mut (H x)) (he : e = x ∨ H e = some (.own x)) (k : ∀ b u, b ≠ e → h.get? b = some u → h'.get? b = some u) (heo : ∃ u, h'.get? e = some u) : Un fs ex H (upd H x o) h h' := by
  have hx : ∀ b, H b = none → b ≠ x := fun b n z => by subst z; rw [n] at mu; exact mu
  have hb : ∀ b, H b = none → b ≠ e := fun b n z => by
    subst z
    rcases he with r | r
    · exact hx b n r
    · rw [n] at r; cases r
  have hm : ∀ b u, H b = some u → ¬ Mut (some u) → b ≠ x := fun b u q nm z => by subst z; rw [q] at mu; exact nm mu
  refine ⟨fun b u q n _ _ => k b u (hb b n) q, fun b u q n _ _ => ⟨u.slots, k b u (hb b n) q⟩, fun b u q n _ => by rw [upd_ne (hx b n)]; exact n, fun b u q _ => ?_,
    fun b xs q => by rw [upd_ne (hm b _ q fun z => z)]; exact q, fun b u xs q => by rw [upd_ne (hm b _ q fun z => z)]; exact q, fun b ps q => ⟨#[], by rw [upd_ne (hm b _ q fun z => z), q]; simp⟩⟩
  by_cases hbe : b = e
  · subst hbe; exact heo
  · exact ⟨u, k b u hbe q⟩
theorem Un.mono (u : Un fs ex H H1 h h1) (hs : ∀ b ∈ fs, b ∈ fs') (hx : ∀ b ∈ ex, b ∈ ex') : Un fs' ex' H H1 h h1 :=
  ⟨fun b ob q n hb he => u.keep b ob q n (fun z => hb (hs b z)) fun z => he (hx b z), fun _ _ q n _ he => u.any q n fun z => he (hx _ z), fun b ob q n he => u.free b ob q n fun z => he (hx b z), fun b ob q he => u.there b ob q fun z => he (hx b z), u.tups, u.frzs, u.tbls⟩
end

/-! ### the heap without what is tracked -/
def trk (h : Heap) (H : Hp) : List Addr := (List.range h.objs.size).filter fun a => (H a).isSome
def hidT (h : Heap) (H : Hp) : Heap := PySem.W.hideAll h (trk h H)
theorem hidT_size (h : Heap) (H : Hp) : (hidT h H).objs.size = h.objs.size := PySem.W.hideAll_size _ _
theorem hidT_get {h : Heap} {H : Hp} {b : Addr} {o : Obj} (e : h.get? b = some o) (n : H b = none) : (hidT h H).get? b = some o :=
  PySem.W.hideAll_get _ e fun hm => by
    have q : (H b).isSome = true := (List.mem_filter.mp hm).2
    rw [n] at q; simp at q
theorem of_hidT {h : Heap} {H : Hp} {b : Addr} {o : Obj} (e : (hidT h H).get? b = some o) : h.get? b = some o ∧ H b = none := by
  have e' : h.get? b = some o := PySem.W.of_hideAll (trk h H) e
  refine ⟨e', ?_⟩
  cases q : H b with
  | none => rfl
  | some x =>
    have hm : b ∈ trk h H := List.mem_filter.mpr ⟨List.mem_range.mpr (Heap.lt_size e'), by simp [q]⟩
    have z : (hidT h H).get? b = none := PySem.W.hideAll_none (trk h H) hm
    rw [z] at e; cases e

/-! ### OpenK's ledger, filled with every new object but one -/
end L2

namespace L2
open PySem PySem.Spec PyProof.Rows

/-- the module's facts, over the base: the heap at the law's entry without what is tracked there -/
structure Mod (K : PySem.W.Frag) (mg : Str → Option Value) (base : Heap) : Prop where
  kin : K.In base
  glob : base.Ns mainGlobals mg
  blt : ∃ mb, base.Ns builtinsNs mb ∧ ∀ x : Str, x ≠ "__name__" → mb x = bootBuiltins x
  nolimit : base.NoLimit

/-- the context: a def's body (or a comprehension's block) running. base: fixed through the whole law; s₀, H₀: the entry; outer: the frames whose slots others may change (a def's callers); stack: all frames that run;
   ex: iterators that were made ahead of the entry and are walked here (a comprehension's); fn: the names whose cells were made at the entry (a def: all; a comprehension's block: its own); calm: not within an except suite; pn: pins that every state bears; xe: what is wanted of an exception that leaves the code -/
structure Cx where
  prog : Program
  w : World
  K : PySem.W.Frag
  mg : Str → Option Value
  base : Heap
  A : Around
  N : List Str
  s₀ : Shared
  H₀ : Hp
  env : Env
  outer : List Env
  stack : List Env
  ex : List Addr
  fn : Str → Bool
  calm : Bool
  pn : List (Addr × Obj)
  xe : Value → Shared → Prop
/-- the callers' frames -/
def frs (l : List Env) : List Addr := l.filterMap (·.frame)
abbrev Cx.fs (X : Cx) : List Addr := frs X.outer

def Vis (sc : Scope) (x : Str) : Prop := sc.names.lookup x = some .local ∨ sc.names.lookup x = some .cell ∨ sc.names.lookup x = some .free
def Loc (sc : Scope) (x : Str) : Prop := sc.names.lookup x = some .local ∨ sc.names.lookup x = some .cell
def Look (env : Env) (h : Heap) (m : Str → Option Value) (x : Str) (u : Value) : Prop :=
  (env.kindOf x = some .local ∧ m x = some u) ∨ ((env.kindOf x = some .cell ∨ env.kindOf x = some .free) ∧ ∃ c, env.cells.lookup x = some c ∧ h.IsCell c (some u))

structure Cx.Ok (X : Cx) : Prop where
  mod : Mod X.K X.mg X.base
  kind : X.env.scope.kind = .function
  glob : X.env.globals = mainGlobals
  blt : X.env.builtins = builtinsNs
  above : X.s₀.heap.objs.size ≤ X.env.locals
  inj : ∀ x y c, X.env.cells.lookup x = some c → X.env.cells.lookup y = some c → x = y
  has : ∀ x, (X.env.kindOf x = some .cell ∨ X.env.kindOf x = some .free) → ∃ c, X.env.cells.lookup x = some c
  cab : ∀ x c, X.fn x = true → X.env.cells.lookup x = some c → X.s₀.heap.objs.size ≤ c
  hd : X.calm = true → X.A.handled = none
  frames : X.A.frames = some X.stack
  stk : X.stack = X.outer ∨ (X.stack = X.env :: X.outer ∧ X.env.frame = some X.env.locals)
  exf : ∀ b ∈ X.ex, b ≠ X.env.locals ∧ ∀ x c, X.env.cells.lookup x = some c → c ≠ b
  bs : ∀ b o, X.base.get? b = some o → X.s₀.heap.get? b = some o ∧ X.H₀ b = none
  bsz : X.base.objs.size ≤ X.s₀.heap.objs.size
  noex : ∀ b o, X.base.get? b = some o → b ∉ X.ex
  exfs : ∀ b ∈ X.ex, b ∉ X.fs
  funs : X.s₀.heap.FunFrames X.base X.outer
  frf : ∀ b ∈ X.fs, X.H₀ b = none

structure Inv (X : Cx) (pins : List (Addr × Obj)) (σ : List (Option V)) (H : Hp) (s : Shared) : Prop where
  ok : X.Ok
  os : s.os = X.s₀.os
  bare : AllBare s.gens
  base : Un X.fs X.ex X.H₀ H X.s₀.heap s.heap
  loc : ∃ m, s.heap.Ns X.env.locals m ∧ ∀ (i : Nat) (x : Str) (v : V), X.N[i]? = some x → σ[i]? = some (some v) → Vis X.env.scope x → ∃ u, RelV v u ∧ Look X.env s.heap m x u
  cell : ∀ x c, X.env.cells.lookup x = some c → ∃ v, s.heap.IsCell c v
  free : H X.env.locals = none
  freeC : ∀ x c, X.env.cells.lookup x = some c → H c = none
  pin : ∀ p ∈ X.pn ++ pins, s.heap.get? p.1 = some p.2 ∧ H p.1 = none ∧ p.1 ≠ X.env.locals ∧ p.1 ∉ X.fs ∧ ∀ v, p.2.data ≠ .cell v
  hok : HOk X.prog X.w H s.heap
  len : σ.length = X.N.length

section
variable {X : Cx} {pins : List (Addr × Obj)} {σ : List (Option V)} {H H' : Hp} {s : Shared} {h' : Heap}

theorem Cx.Ok.nofr (ok : X.Ok) {b : Addr} {o : Obj} (e : X.base.get? b = some o) : b ∉ X.fs := fun hb => by
  have := (ok.funs.mem hb).1
  rw [e] at this; cases this
theorem Inv.bs (I : Inv X pins σ H s) : ∀ b o, X.base.get? b = some o → s.heap.get? b = some o ∧ H b = none := fun b o e =>
  ⟨I.base.keep b o (I.ok.bs b o e).1 (I.ok.bs b o e).2 (I.ok.nofr e) (I.ok.noex b o e), I.base.free b o (I.ok.bs b o e).1 (I.ok.bs b o e).2 (I.ok.noex b o e)⟩
theorem Inv.bk (I : Inv X pins σ H s) : ∀ b o, X.base.get? b = some o → s.heap.get? b = some o := fun b o e => (I.bs b o e).1
theorem Inv.mod (I : Inv X pins σ H s) : Mod X.K X.mg X.base := I.ok.mod
theorem Inv.kIn (I : Inv X pins σ H s) : X.K.In s.heap := I.ok.mod.kin.keeps I.bk
theorem Inv.lt (I : Inv X pins σ H s) : X.env.locals < s.heap.objs.size := let ⟨_, hn, _⟩ := I.loc; hn.lt
theorem Inv.sz (I : Inv X pins σ H s) : X.s₀.heap.objs.size ≤ s.heap.objs.size := Nat.le_trans I.ok.above (Nat.le_of_lt I.lt)
theorem Inv.nofs (I : Inv X pins σ H s) {a : Addr} (h : s.heap.objs.size ≤ a) : a ∉ X.fs := fun hb => by
  obtain ⟨_, o, ho, _⟩ := I.ok.funs.mem hb
  exact absurd (Nat.lt_of_lt_of_le (Heap.lt_size ho) (Nat.le_trans I.sz h)) (Nat.lt_irrefl _)
theorem Inv.cne (I : Inv X pins σ H s) : ∀ x c, X.env.cells.lookup x = some c → c ≠ X.env.locals := fun x c e z => by
  obtain ⟨v, o, ho, hd⟩ := I.cell x c e
  obtain ⟨m, ⟨o', es, ep, ho', hd', _⟩, _⟩ := I.loc
  rw [z, ho'] at ho; cases ho; rw [hd'] at hd; cases hd
theorem Inv.funs (I : Inv X pins σ H s) : s.heap.FunFrames X.base X.outer := by
  have all : ∀ (l : List Env), (∀ b ∈ frs l, b ∈ X.fs) → X.s₀.heap.FunFrames X.base l → s.heap.FunFrames X.base l := by
    intro l
    induction l with
    | nil => intro _ _; trivial
    | cons env r ih =>
      intro hs hl
      obtain ⟨hk, ⟨L, o, hf, hn, ho, hd⟩, hr⟩ := hl
      have hL : L ∈ X.fs := hs L (by unfold frs; rw [List.filterMap_cons, hf]; exact List.mem_cons_self)
      obtain ⟨sl, e⟩ := I.base.slot L o ho (I.ok.frf L hL) hL fun z => I.ok.exfs L z hL
      exact ⟨hk, ⟨L, _, hf, hn, e, hd⟩, ih (fun b hb => hs b (by unfold frs; rw [List.filterMap_cons, hf]; exact List.mem_cons_of_mem _ hb)) hr⟩
  exact all X.outer (fun _ hb => hb) I.ok.funs

/-- the frames that run, for a call -/
theorem Inv.stack (I : Inv X pins σ H s) : s.heap.FunFrames X.base X.stack := by
  rcases I.ok.stk with e | ⟨e, hf⟩
  · rw [e]; exact I.funs
  · rw [e]
    obtain ⟨m, hn, _⟩ := I.loc
    refine .cons (by rw [I.ok.kind]; decide) hf hn ?_ I.funs
    exact Heap.get?_none_of_le (Nat.le_trans I.ok.bsz I.ok.above)
theorem Inv.stkSub (I : Inv X pins σ H s) : ∀ b ∈ frs X.stack, b ∈ X.env.locals :: X.fs := fun b hb => by
  rcases I.ok.stk with e | ⟨e, hf⟩
  · rw [e] at hb; exact List.mem_cons_of_mem _ hb
  · rw [e] at hb
    unfold frs at hb
    rw [List.filterMap_cons, hf] at hb
    exact hb
theorem Inv.stkFree (I : Inv X pins σ H s) : ∀ b ∈ frs X.stack, H b = none := fun b hb => by
  rcases List.mem_cons.mp (I.stkSub b hb) with e | hb
  · rw [e]; exact I.free
  · obtain ⟨_, o, ho, _⟩ := I.ok.funs.mem hb
    exact I.base.free b o ho (I.ok.frf b hb) fun z => I.ok.exfs b z hb

/-- THE STEP: the untracked objects but the frame and the records at ch are kept (the callers' frames up to slots), the frame's map is kept, the new abstract heap is held -/
theorem Inv.step {g' : Array GenState} {t' : Nat} {d' : Drawn} {ch : List Addr} (I : Inv X pins σ H s)
    (hch : ∀ b ∈ ch, (b ∈ X.ex ∨ X.s₀.heap.objs.size ≤ b) ∧ b ≠ X.env.locals ∧ (∀ x c, X.env.cells.lookup x = some c → c ≠ b) ∧ ∀ p ∈ X.pn ++ pins, p.1 ≠ b)
    (keep : ∀ b o, b ≠ X.env.locals → b ∉ X.fs → b ∉ ch → s.heap.get? b = some o → H b = none → h'.get? b = some o)
    (slot : ∀ b o, b ≠ X.env.locals → b ∈ X.fs → b ∉ ch → s.heap.get? b = some o → H b = none → ∃ sl, h'.get? b = some { o with slots := sl }) (free : ∀ b o, b ∉ ch → s.heap.get? b = some o → H b = none → H' b = none)
    (there : ∀ b o, b ∉ ch → s.heap.get? b = some o → ∃ o', h'.get? b = some o')
    (tups : ∀ b xs, H b = some (.tup xs) → H' b = some (.tup xs)) (frzs : ∀ b o u, H b = some (.frz o u) → H' b = some (.frz o u)) (tbls : ∀ b ps, H b = some (.tbl ps) → ∃ more, H' b = some (.tbl (ps ++ more)))
    (ns : ∀ m, s.heap.Ns X.env.locals m → h'.Ns X.env.locals m) (hok : HOk X.prog X.w H' h') (hg : AllBare g') :
    Inv X pins σ H' { s with heap := h', gens := g', drawn := d', toks := t' } := by
  have neL : ∀ b o, X.s₀.heap.get? b = some o → b ≠ X.env.locals := fun b o e => Nat.ne_of_lt (Nat.lt_of_lt_of_le (Heap.lt_size e) I.ok.above)
  have neC : ∀ b o, X.s₀.heap.get? b = some o → b ∉ X.ex → b ∉ ch := fun b o e hx hb => by
    rcases (hch b hb).1 with z | z
    · exact hx z
    · exact absurd (Nat.lt_of_lt_of_le (Heap.lt_size e) z) (Nat.lt_irrefl _)
  have cellK : ∀ x c, X.env.cells.lookup x = some c → ∀ v, s.heap.IsCell c v → h'.IsCell c v := fun x c e v ⟨o, ho, hd⟩ => by
    have nch : c ∉ ch := fun z => (hch c z).2.2.1 x c e rfl
    by_cases hc : c ∈ X.fs
    · obtain ⟨sl, q⟩ := slot c o (I.cne x c e) hc nch ho (I.freeC x c e)
      exact ⟨_, q, hd⟩
    · exact ⟨o, keep c o (I.cne x c e) hc nch ho (I.freeC x c e), hd⟩
  refine ⟨I.ok, I.os, hg, ⟨fun b o e n hb hx => ?_, fun b o e n hb hx => ?_, fun b o e n hx => ?_, fun b o e hx => ?_, fun b xs e => tups b xs (I.base.tups b xs e), fun b o xs e => frzs b o xs (I.base.frzs b o xs e), fun b ps e => ?_⟩, ?_, fun x c e => ?_, ?_, fun x c e => ?_, fun p hp => ?_, hok, I.len⟩
  · exact keep b o (neL b o e) hb (neC b o e hx) (I.base.keep b o e n hb hx) (I.base.free b o e n hx)
  · obtain ⟨sl, e1⟩ := I.base.slot b o e n hb hx
    obtain ⟨sl', e2⟩ := slot b _ (neL b o e) hb (neC b o e hx) e1 (I.base.free b o e n hx)
    exact ⟨sl', e2⟩
  · obtain ⟨o', e1⟩ := I.base.there b o e hx
    exact free b o' (neC b o e hx) e1 (I.base.free b o e n hx)
  · obtain ⟨o', e1⟩ := I.base.there b o e hx
    exact there b o' (neC b o e hx) e1
  · obtain ⟨m1, e1⟩ := I.base.tbls b ps e
    obtain ⟨m2, e2⟩ := tbls b _ e1
    exact ⟨m1 ++ m2, by rw [e2, Array.append_assoc]⟩
  · obtain ⟨m, hn, hl⟩ := I.loc
    refine ⟨m, ns m hn, fun i x v e1 e2 e3 => ?_⟩
    obtain ⟨u, r, l⟩ := hl i x v e1 e2 e3
    refine ⟨u, r, ?_⟩
    rcases l with l | ⟨k, c, e, z⟩
    · exact .inl l
    · exact .inr ⟨k, c, e, cellK x c e _ z⟩
  · obtain ⟨v, z⟩ := I.cell x c e
    exact ⟨v, cellK x c e v z⟩
  · obtain ⟨m, ⟨o, _, _, ho, _⟩, _⟩ := I.loc
    exact free _ o (fun z => (hch _ z).2.1 rfl) ho I.free
  · obtain ⟨v, o, ho, hd⟩ := I.cell x c e
    exact free c o (fun z => (hch c z).2.2.1 x c e rfl) ho (I.freeC x c e)
  · obtain ⟨e, n, ne, nf, d⟩ := I.pin p hp
    have nch : p.1 ∉ ch := fun z => (hch p.1 z).2.2.2 p hp rfl
    exact ⟨keep p.1 p.2 ne nf nch e n, free p.1 p.2 nch e n, ne, nf, d⟩
/-- .. where the frame's own object is kept too -/
theorem Inv.un {t' : Nat} (I : Inv X pins σ H s) (u : Un X.fs [] H H' s.heap h') (hok : HOk X.prog X.w H' h') : Inv X pins σ H' { s with heap := h', toks := t' } := by
  obtain ⟨m, ⟨o, es, ep, ho, r⟩, _⟩ := id I.loc
  obtain ⟨sl, hL⟩ := u.any ho I.free (by simp)
  exact I.step (g' := s.gens) (d' := s.drawn) (ch := []) (fun _ z => nomatch z) (fun b o _ hb _ e n => u.keep b o e n hb (by simp)) (fun b o _ hb _ e n => u.slot b o e n hb (by simp)) (fun b o _ e n => u.free b o e n (by simp)) (fun b o _ e => u.there b o e (by simp)) u.tups u.frzs u.tbls (fun m' hm => by
    obtain ⟨o', es', ep', ho', r'⟩ := hm
    rw [ho] at ho'; cases ho'
    exact ⟨_, es', ep', hL, r'⟩) hok I.bare
/-- behind a call (or a comprehension's block): the slots of this frame may have changed too, the records at ch may have turned -/
theorem Inv.call {g' : Array GenState} {t' : Nat} {d' : Drawn} {ch : List Addr} (I : Inv X pins σ H s) (u : Un (frs X.stack) ch H H' s.heap h') (hok : HOk X.prog X.w H' h') (hg : AllBare g')
    (hch : ∀ b ∈ ch, (b ∈ X.ex ∨ X.s₀.heap.objs.size ≤ b) ∧ b ≠ X.env.locals ∧ (∀ x c, X.env.cells.lookup x = some c → c ≠ b) ∧ ∀ p ∈ X.pn ++ pins, p.1 ≠ b) :
    Inv X pins σ H' { s with heap := h', gens := g', drawn := d', toks := t' } := by
  obtain ⟨m, ⟨o, es, ep, ho, r⟩, _⟩ := id I.loc
  obtain ⟨sl, hL⟩ := u.any ho I.free fun z => (hch _ z).2.1 rfl
  exact I.step (ch := ch) hch (fun b o hL hb hc e n => u.keep b o e n (fun z => (List.mem_cons.mp (I.stkSub b z)).elim hL hb) hc) (fun b o _ _ hc e n => u.any e n hc) (fun b o hc e n => u.free b o e n hc) (fun b o hc e => u.there b o e hc) u.tups u.frzs u.tbls (fun m' hm => by
    obtain ⟨o', es', ep', ho', r'⟩ := hm
    rw [ho] at ho'; cases ho'
    exact ⟨_, es', ep', hL, r'⟩) hok hg
/-- an untracked record of ours (an iterator) has turned -/
theorem Inv.turned {t' : Nat} {it : Addr} (I : Inv X pins σ H s) (k : ∀ b o, b ≠ it → s.heap.get? b = some o → h'.get? b = some o) (hn : H it = none) (hL : it ≠ X.env.locals)
    (h1 : it ∈ X.ex ∨ X.s₀.heap.objs.size ≤ it) (h2 : ∀ x c, X.env.cells.lookup x = some c → c ≠ it) (h3 : ∀ p ∈ X.pn ++ pins, p.1 ≠ it) : Inv X pins σ H { s with heap := h', toks := t' } := by
  have nit : ∀ b u, H b = some u → b ≠ it := fun b u e z => by rw [z, hn] at e; cases e
  refine I.step (g' := s.gens) (d' := s.drawn) (ch := [it]) (fun b hb => ?_) (fun b o _ _ hc e _ => k b o (fun z => hc (by simp [z])) e) (fun b o _ _ hc e _ => ⟨o.slots, k b o (fun z => hc (by simp [z])) e⟩) (fun _ _ _ _ n => n)
    (fun b o hc e => ⟨o, k b o (fun z => hc (by simp [z])) e⟩) (fun _ _ e => e) (fun _ _ _ e => e) (fun b ps e => ⟨#[], by rw [e]; simp⟩) (fun m hm => ?_) (fun b u e => ?_) I.bare
  · have e : b = it := by simpa using hb
    subst e
    exact ⟨h1, hL, h2, h3⟩
  · obtain ⟨o, es, ep, ho, r⟩ := hm
    exact ⟨o, es, ep, k _ o (Ne.symm hL) ho, r⟩
  · refine (I.hok b u e).stay (fun c v hc q => k c v ?_ q) (fun _ q => q) fun _ _ q => q
    rcases hc with z | z
    · rw [z]; exact nit b u e
    · exact nit c _ z
theorem Inv.tok (I : Inv X pins σ H s) (t : Nat) : Inv X pins σ H { s with toks := t } := I.un (h' := s.heap) (t' := t) Un.refl I.hok
/-- all objects kept -/
theorem Inv.kept {t' : Nat} (I : Inv X pins σ H s) (k : ∀ b u, s.heap.get? b = some u → h'.get? b = some u) : Inv X pins σ H { s with heap := h', toks := t' } := I.un (Un.kept k) (I.hok.kept k)
/-- a new object laid and tracked -/
theorem Inv.laid {a : Addr} {o : HO} {t' : Nat} (I : Inv X pins σ H s) (k : ∀ b u, s.heap.get? b = some u → h'.get? b = some u) (hp : s.heap.objs.size ≤ a) (new : ObjOk X.prog X.w (upd H a o) h' a o) :
    Inv X pins σ (upd H a o) { s with heap := h', toks := t' } := I.un (Un.laid k hp (I.hok.fresh hp)) (I.hok.laid k hp new)
/-- an object written -/
theorem Inv.write {x e : Addr} {o : HO} {t' : Nat} (I : Inv X pins σ H s) (mu : Mut (H x)) (he : e = x ∨ H e = some (.own x)) (k : ∀ b u, b ≠ e → s.heap.get? b = some u → h'.get? b = some u) (heo : ∃ u, h'.get? e = some u)
    (new : ObjOk X.prog X.w (upd H x o) h' x o) : Inv X pins σ (upd H x o) { s with heap := h', toks := t' } := I.un (Un.write mu he k heo) (I.hok.write mu he k heo new)
theorem Inv.pins_of {pins' : List (Addr × Obj)} (I : Inv X pins σ H s) (h : ∀ p ∈ pins', s.heap.get? p.1 = some p.2 ∧ H p.1 = none ∧ p.1 ≠ X.env.locals ∧ p.1 ∉ X.fs ∧ ∀ v, p.2.data ≠ .cell v) : Inv X pins' σ H s :=
  ⟨I.ok, I.os, I.bare, I.base, I.loc, I.cell, I.free, I.freeC, fun p hp => (List.mem_append.mp hp).elim (fun z => I.pin p (List.mem_append_left _ z)) (h p), I.hok, I.len⟩

theorem nodup_ix {N : List Str} (hN : N.Nodup) {i j : Nat} {x : Str} (a : N[i]? = some x) (b : N[j]? = some x) : i = j := by
  obtain ⟨h1, e1⟩ := List.getElem?_eq_some_iff.mp a
  obtain ⟨h2, e2⟩ := List.getElem?_eq_some_iff.mp b
  exact (List.getElem_inj hN).mp (e1.trans e2.symm)

/-- a name is stored; what changed -/
theorem store_ok2 {M : Model} {A : Around} {E : Value → Shared → Prop} {i : Nat} {x : Str} {v : V} {u : Value} {Q : Unit → Shared → Prop} (I : Inv X pins σ H s) (hN : X.N.Nodup) (hi : X.N[i]? = some x) (hx : Loc X.env.scope x) (r : RelV v u)
    (h : ∀ s', Inv X pins (σ.set i (some v)) H s' → (∃ a, Heap.SameBut a s.heap s'.heap ∧ (a = X.env.locals ∨ X.env.cells.lookup x = some a)) → Q () s') (hf : X.fn x = true ∨ X.env.scope.names.lookup x = some .local := by first | exact .inl rfl | exact .inr rfl | assumption) : wpAny M A (storeName X.env x u) Q E s := by
  obtain ⟨m, hn, hl⟩ := id I.loc
  have hcls : (X.env.scope.kind == .class || (X.env.scope.kind == .module && X.env.locals != X.env.globals)) = false := by rw [I.ok.kind]; rfl
  have hiσ : i < σ.length := by rw [I.len]; exact (List.getElem?_eq_some_iff.mp hi).1
  have cne := I.cne
  have tracked : ∀ {a : Addr} {h' : Heap}, (∃ o, s.heap.get? a = some o ∧ H a = none) → Heap.SameBut a s.heap h' → HOk X.prog X.w H h' := fun {a h'} ha hs b ob e => by
    obtain ⟨_, _, hfree⟩ := ha
    refine (I.hok b ob e).stay (fun c w' hc q => (hs.2 c ?_).trans q) (fun _ q => q) fun _ _ q => q
    rintro rfl
    rcases hc with rfl | hc
    · rw [hfree] at e; cases e
    · rw [hfree] at hc; cases hc
  rcases hx with hk | hk
  · refine wpAny_storeName_local hk hn (fun h' hn' hs => ?_) hcls
    obtain ⟨oL, _, _, hoL, _⟩ := id hn
    refine h _ ⟨I.ok, I.os, I.bare, ⟨fun b o e n hb hx => ?_, fun b o e n hb hx => ?_, I.base.free, fun b o e hx => ?_, I.base.tups, I.base.frzs, I.base.tbls⟩, ⟨_, hn', fun j y v' e1 e2 e3 => ?_⟩, fun y c e => ?_, I.free, I.freeC, fun p hp => ?_, tracked ⟨oL, hoL, I.free⟩ hs, by simpa using I.len⟩ ⟨_, hs, .inl rfl⟩
    · exact (hs.2 b (Nat.ne_of_lt (Nat.lt_of_lt_of_le (Heap.lt_size e) I.ok.above))).trans (I.base.keep b o e n hb hx)
    · obtain ⟨sl, e1⟩ := I.base.slot b o e n hb hx
      exact ⟨sl, (hs.2 b (Nat.ne_of_lt (Nat.lt_of_lt_of_le (Heap.lt_size e) I.ok.above))).trans e1⟩
    · obtain ⟨o', e1⟩ := I.base.there b o e hx
      exact ⟨o', (hs.2 b (Nat.ne_of_lt (Nat.lt_of_lt_of_le (Heap.lt_size e) I.ok.above))).trans e1⟩
    · by_cases hj : j = i
      · subst hj
        rw [hi] at e1; cases e1
        rw [List.getElem?_set_self hiσ] at e2
        cases e2
        exact ⟨u, r, .inl ⟨hk, by simp⟩⟩
      · rw [List.getElem?_set_ne (Ne.symm hj)] at e2
        obtain ⟨u', r', q⟩ := hl j y v' e1 e2 e3
        refine ⟨u', r', ?_⟩
        rcases q with ⟨k, e⟩ | ⟨k, c, e, z⟩
        · refine .inl ⟨k, ?_⟩
          have : y ≠ x := fun e => hj (nodup_ix hN e1 (e ▸ hi))
          simp [this, e]
        · exact .inr ⟨k, c, e, z.sameBut hs (cne y c e)⟩
    · obtain ⟨w', z⟩ := I.cell y c e
      exact ⟨w', z.sameBut hs (cne y c e)⟩
    · obtain ⟨e, n, ne, nf, d⟩ := I.pin p hp
      exact ⟨(hs.2 p.1 ne).trans e, n, ne, nf, d⟩
  · have hfn : X.fn x = true := by
      rcases hf with z | z
      · exact z
      · rw [z] at hk; cases hk
    obtain ⟨c, hc⟩ := I.ok.has x (.inl hk)
    obtain ⟨w', z⟩ := I.cell x c hc
    refine wpAny_storeName_cell I.ok.kind hk hc z (fun h' hc' hs => ?_)
    obtain ⟨oc, hoc, hocd⟩ := id z
    refine h { s with heap := h' } ⟨I.ok, I.os, I.bare, ⟨fun b o e n hb hx => ?_, fun b o e n hb hx => ?_, I.base.free, fun b o e hx => ?_, I.base.tups, I.base.frzs, I.base.tbls⟩, ⟨m, hn.sameBut hs (Ne.symm (cne x c hc)), fun j y v' e1 e2 e3 => ?_⟩, fun y c' e => ?_, I.free, I.freeC, fun p hp => ?_, tracked ⟨oc, hoc, I.freeC x c hc⟩ hs, by simpa using I.len⟩ ⟨c, hs, .inr hc⟩
    · exact (hs.2 b (Nat.ne_of_lt (Nat.lt_of_lt_of_le (Heap.lt_size e) (I.ok.cab x c hfn hc)))).trans (I.base.keep b o e n hb hx)
    · obtain ⟨sl, e1⟩ := I.base.slot b o e n hb hx
      exact ⟨sl, (hs.2 b (Nat.ne_of_lt (Nat.lt_of_lt_of_le (Heap.lt_size e) (I.ok.cab x c hfn hc)))).trans e1⟩
    · obtain ⟨o', e1⟩ := I.base.there b o e hx
      exact ⟨o', (hs.2 b (Nat.ne_of_lt (Nat.lt_of_lt_of_le (Heap.lt_size e) (I.ok.cab x c hfn hc)))).trans e1⟩
    · by_cases hj : j = i
      · subst hj
        rw [hi] at e1; cases e1
        rw [List.getElem?_set_self hiσ] at e2
        cases e2
        exact ⟨u, r, .inr ⟨.inl hk, c, hc, hc'⟩⟩
      · rw [List.getElem?_set_ne (Ne.symm hj)] at e2
        obtain ⟨u', r', q⟩ := hl j y v' e1 e2 e3
        refine ⟨u', r', ?_⟩
        rcases q with q | ⟨k, c', e, z'⟩
        · exact .inl q
        · refine .inr ⟨k, c', e, z'.sameBut hs ?_⟩
          rintro rfl
          exact hj (nodup_ix hN e1 (I.ok.inj _ _ _ e hc ▸ hi))
    · by_cases hcc : c' = c
      · subst hcc; exact ⟨_, hc'⟩
      · obtain ⟨w2, z2⟩ := I.cell y c' e
        exact ⟨w2, z2.sameBut hs hcc⟩
    · obtain ⟨e, n, ne, nf, d⟩ := I.pin p hp
      refine ⟨(hs.2 p.1 ?_).trans e, n, ne, nf, d⟩
      intro q
      rw [q, hoc] at e
      have q' : oc = p.2 := Option.some.inj e
      exact d w' (by rw [← q']; exact hocd)
theorem store_ok {M : Model} {A : Around} {E : Value → Shared → Prop} {i : Nat} {x : Str} {v : V} {u : Value} {Q : Unit → Shared → Prop} (I : Inv X pins σ H s) (hN : X.N.Nodup) (hi : X.N[i]? = some x) (hx : Loc X.env.scope x) (r : RelV v u)
    (h : ∀ s', Inv X pins (σ.set i (some v)) H s' → Q () s') (hf : X.fn x = true ∨ X.env.scope.names.lookup x = some .local := by first | exact .inl rfl | exact .inr rfl | assumption) : wpAny M A (storeName X.env x u) Q E s :=
  store_ok2 I hN hi hx r (fun s' I' _ => h s' I') hf
/-- behind a call or a block, the state as it is -/
theorem Inv.call' {s' : Shared} {ch : List Addr} (I : Inv X pins σ H s) (ho : s'.os = s.os) (u : Un (frs X.stack) ch H H' s.heap s'.heap) (hok : HOk X.prog X.w H' s'.heap) (hg : AllBare s'.gens)
    (hch : ∀ b ∈ ch, (b ∈ X.ex ∨ X.s₀.heap.objs.size ≤ b) ∧ b ≠ X.env.locals ∧ (∀ x c, X.env.cells.lookup x = some c → c ≠ b) ∧ ∀ p ∈ X.pn ++ pins, p.1 ≠ b) : Inv X pins σ H' s' := by
  obtain ⟨h', g', d', t', o'⟩ := s'
  have e : o' = s.os := ho
  subst e
  exact I.call (g' := g') (t' := t') (d' := d') u hok hg hch
end

/-! ### the judgements -/
/-- an exception: its class, its own dict's address (where it has one), the abstract heap behind it -/
abbrev XK := Value → Option Addr → Hp → Prop
abbrev St := List (Option V)
abbrev VK := V → Hp → Prop
/-- an expression's reading; a test's; an argument list's -/
abbrev TE := St → Hp → VK → Prop
abbrev TT := St → Hp → (Bool → Hp → Prop) → Prop
abbrev TA := St → Hp → (List V → Hp → Prop) → Prop
/-- what is wanted behind a statement -/
structure Ends where
  nx : St → Hp → Prop
  rt : VK
  bk : St → Hp → Prop := fun _ _ => False
  ct : St → Hp → Prop := fun _ _ => False
abbrev TS := Ends → St → Hp → Prop

def EP (X : Cx) (pins : List (Addr × Obj)) (σ : St) (Q : VK) (u : Value) (s' : Shared) : Prop := ∃ v H', Inv X pins σ H' s' ∧ RelV v u ∧ Q v H'
def TP (X : Cx) (pins : List (Addr × Obj)) (σ : St) (Q : Bool → Hp → Prop) (b : Bool) (s' : Shared) : Prop := ∃ H', Inv X pins σ H' s' ∧ Q b H'
def AP (X : Cx) (pins : List (Addr × Obj)) (σ : St) (Q : List V → Hp → Prop) (us : List Value) (s' : Shared) : Prop := ∃ vs H', Inv X pins σ H' s' ∧ Vals vs us ∧ Q vs H'
def SP (X : Cx) (pins : List (Addr × Obj)) (D : Ends) (f : Flow) (s' : Shared) : Prop :=
  match f with
  | .next => ∃ σ' H', Inv X pins σ' H' s' ∧ D.nx σ' H'
  | .brk => ∃ σ' H', Inv X pins σ' H' s' ∧ D.bk σ' H'
  | .cont => ∃ σ' H', Inv X pins σ' H' s' ∧ D.ct σ' H'
  | .ret u => ∃ v σ' H', Inv X pins σ' H' s' ∧ RelV v u ∧ D.rt v H'

def PE (X : Cx) (e : Expr) (t : TE) : Prop :=
  ∀ (pins : List (Addr × Obj)) (s : Shared) (σ : St) (H : Hp) (Q : VK), Inv X pins σ H s → t σ H Q → wpAny (model X.prog X.w) X.A (eval e X.env) (EP X pins σ Q) X.xe s
def PT (X : Cx) (e : Expr) (t : TT) : Prop :=
  ∀ (pins : List (Addr × Obj)) (s : Shared) (σ : St) (H : Hp) (Q : Bool → Hp → Prop), Inv X pins σ H s → t σ H Q → wpAny (model X.prog X.w) X.A (isTrue e X.env (eval e X.env)) (TP X pins σ Q) X.xe s
/-- a test whatever its 'whole' is (and, or) -/
def PW (X : Cx) (e : Expr) (t : TT) : Prop :=
  ∀ (whole : Sem Value) (pins : List (Addr × Obj)) (s : Shared) (σ : St) (H : Hp) (Q : Bool → Hp → Prop), Inv X pins σ H s → t σ H Q → wpAny (model X.prog X.w) X.A (isTrue e X.env whole) (TP X pins σ Q) X.xe s
theorem PW.pt {X : Cx} {e : Expr} {t : TT} (h : PW X e t) : PT X e t := h _
/-- an argument list (no star), from the left -/
def PA (X : Cx) (es : List Expr) (t : TA) : Prop :=
  ∀ (pos : Pos) (pins : List (Addr × Obj)) (s : Shared) (σ : St) (H : Hp) (Q : List V → Hp → Prop), Inv X pins σ H s → t σ H Q → wpAny (model X.prog X.w) X.A (spliced (backTo pos (starEach es X.env))) (AP X pins σ Q) X.xe s
def PS (X : Cx) (st : Stmt) (t : TS) : Prop :=
  ∀ (pins : List (Addr × Obj)) (s : Shared) (σ : St) (H : Hp) (D : Ends), Inv X pins σ H s → t D σ H → wpAny (model X.prog X.w) X.A (exec st X.env) (SP X pins D) X.xe s
def PSs (X : Cx) (st : List Stmt) (t : TS) : Prop :=
  ∀ (pins : List (Addr × Obj)) (s : Shared) (σ : St) (H : Hp) (D : Ends), Inv X pins σ H s → t D σ H → wpAny (model X.prog X.w) X.A (execs st X.env) (SP X pins D) X.xe s
/-- weaken the end -/
theorem thn {α : Type} {t : Sem α} {Q Q' : α → Shared → Prop} {M : Model} {A : Around} {E : Value → Shared → Prop} {s : Shared} (h : wpAny M A t Q E s) (hQ : ∀ a s, Q a s → Q' a s) : wpAny M A t Q' E s := wpAny_mono h hQ fun _ _ x => x
end L2

namespace L2
open PySem PySem.Spec PyProof.Rows
section
variable {X : Cx}

/-- two expressions in a row -/
theorem bin {a b : Expr} {ta tb : TE} (ha : PE X a ta) (hb : PE X b tb) {pins : List (Addr × Obj)} {s : Shared} {σ : St} {H : Hp} {R : V → V → Hp → Prop} (I : Inv X pins σ H s) (h : ta σ H fun x H1 => tb σ H1 fun y H2 => R x y H2)
    {α : Type} {Q : α → Shared → Prop} {f : Value → Value → Sem α}
    (hf : ∀ v u s2 x y H2, Inv X pins σ H2 s2 → RelV x v → RelV y u → R x y H2 → wpAny (model X.prog X.w) X.A (f v u) Q X.xe s2) :
    wpAny (model X.prog X.w) X.A (eval a X.env) (fun v s₁ => wpAny (model X.prog X.w) X.A (eval b X.env) (fun u s₂ => wpAny (model X.prog X.w) X.A (f v u) Q X.xe s₂) X.xe s₁) X.xe s := by
  refine thn (ha pins s σ H _ I h) fun v s1 ⟨x, H1, I1, r1, q1⟩ => ?_
  refine thn (hb pins s1 σ H1 _ I1 q1) fun u s2 ⟨y, H2, I2, r2, q2⟩ => ?_
  exact hf v u s2 x y H2 I2 r1 r2 q2

/-! ### names and constants -/
def tVar (i : Nat) : TE := fun σ H Q => ∃ v, σ[i]? = some (some v) ∧ Q v H
def tC (v : V) : TE := fun _ H Q => Q v H
theorem pe_var {i : Nat} {x : Str} {pos : Pos} (hN : X.N[i]? = some x) (hv : Vis X.env.scope x) (hd : (x == ("__debug__" : Str)) = false := by decide) (hcd : (x == ("__classdict__" : Str)) = false := by decide) : PE X (.Name x pos) (tVar i) := by
  intro pins s σ H Q I h
  obtain ⟨v, e, h⟩ := h
  obtain ⟨m, hn, hl⟩ := I.loc
  obtain ⟨u, r, l⟩ := hl i x v hN e hv
  have fin : EP X pins σ Q u s := ⟨v, H, I, r, h⟩
  rcases l with ⟨hk, hm⟩ | ⟨hk, c, hc, hcell⟩
  · exact wpAny_Name (wpAny_loadName_local I.ok.kind hk hn hm fin) hd
  · rcases hk with hk | hk
    · exact wpAny_Name (wpAny_loadName_cell I.ok.kind hk hc hcell fin) hd
    · exact wpAny_Name (wpAny_loadName_free I.ok.kind hk hc hcell fin hcd) hd
theorem pe_int {i j pos} : PE X (.Constant (.int i) j pos) (tC (.int i)) := fun _ _ _ H _ I h => wpAny_Constant_int ⟨.int i, H, I.tok _, ⟨_, rfl⟩, h⟩
theorem pe_bl {b j pos} : PE X (.Constant (.bool b) j pos) (tC (.bl b)) := fun _ _ _ H _ I h => Constant_bool ⟨.bl b, H, I, rfl, h⟩
theorem pe_non {j pos} : PE X (.Constant .none j pos) (tC .non) := fun _ _ _ H _ I h => Constant_none ⟨.non, H, I, rfl, h⟩
theorem pe_str {x j pos} : PE X (.Constant (.str x) j pos) (tC (.str x)) := fun _ _ _ H _ I h => Calls.Constant_str ⟨.str x, H, I.tok _, ⟨_, rfl⟩, h⟩

/-- a global name of the def -/
def Gl (X : Cx) (x : Str) : Prop := X.env.kindOf x = some .globalImplicit
theorem ld_glob {E : Value → Shared → Prop} {pins : List (Addr × Obj)} {s : Shared} {σ : St} {H : Hp} {x : Str} {u : Value} {pos : Pos} {Q : Value → Shared → Prop} (I : Inv X pins σ H s) (hg : Gl X x) (hm : X.mg x = some u) (h : Q u s)
    (hd : (x == ("__debug__" : Str)) = false := by decide) : wpAny (model X.prog X.w) X.A (eval (.Name x pos) X.env) Q E s :=
  Calls.Name_function_global I.ok.kind hg (Calls.loadGlobal_global (by rw [I.ok.glob]; exact I.mod.glob.keeps I.bk) hm h) hd
theorem ld_blt {E : Value → Shared → Prop} {pins : List (Addr × Obj)} {s : Shared} {σ : St} {H : Hp} {x : Str} {u : Value} {pos : Pos} {Q : Value → Shared → Prop} (I : Inv X pins σ H s) (hg : Gl X x) (hm : X.mg x = none) (hv : bootBuiltins x = some u) (h : Q u s)
    (hn : x ≠ "__name__" := by decide) (hd : (x == ("__debug__" : Str)) = false := by decide) : wpAny (model X.prog X.w) X.A (eval (.Name x pos) X.env) Q E s := by
  obtain ⟨mb, h1, h2⟩ := I.mod.blt
  exact Calls.Name_function_global I.ok.kind hg (Calls.loadGlobal_builtin (by rw [I.ok.glob]; exact I.mod.glob.keeps I.bk) hm (by rw [I.ok.blt]; exact h1.keeps I.bk) ((h2 x hn).trans hv) h) hd
/-- a module's constant, a class, a function, as a value -/
theorem pe_glob {x : Str} {v : V} {u : Value} {pos : Pos} (hg : Gl X x) (hm : X.mg x = some u) (r : RelV v u) (hd : (x == ("__debug__" : Str)) = false := by decide) : PE X (.Name x pos) (tC v) :=
  fun _ _ _ H _ I h => ld_glob I hg hm ⟨v, H, I, r, h⟩ hd
theorem pe_bltn {x : Str} {v : V} {u : Value} {pos : Pos} (hg : Gl X x) (hm : X.mg x = none) (hv : bootBuiltins x = some u) (r : RelV v u) (hn : x ≠ "__name__" := by decide) (hd : (x == ("__debug__" : Str)) = false := by decide) : PE X (.Name x pos) (tC v) :=
  fun _ _ _ H _ I h => ld_blt I hg hm hv ⟨v, H, I, r, h⟩ hn hd

/-! ### arithmetic -/
variable {a b : Expr} {ta tb : TE} {pos : Pos}

/-! ### comparisons -/
def PC (X : Cx) (op : CmpOp) (a b : Expr) (t : TE) : Prop :=
  ∀ (pins : List (Addr × Obj)) (s : Shared) (σ : St) (H : Hp) (Q : VK), Inv X pins σ H s → t σ H Q →
    wpAny (model X.prog X.w) X.A (eval a X.env) (fun v s₁ => wpAny (model X.prog X.w) X.A (eval b X.env) (fun u s₂ => wpAny (model X.prog X.w) X.A (compareOp op v u) (EP X pins σ Q) X.xe s₂) X.xe s₁) X.xe s
/-- a comparison as a value, as a test -/
def tB (t : TE) : TT := fun σ H Q => t σ H fun x H1 => ∃ c, x = .bl c ∧ Q c H1
theorem pt_cmp {op : CmpOp} {t : TE} (h : PC X op a b t) (h1 : behindInMarks op b = false := by first | exact nobehind _ (by decide) (by decide) | rfl) : PT X (.Compare a [op] [b] pos) (tB t) := by
  intro pins s σ H Q I hw
  refine wpAny_isTrue_Compare1 (thn (h pins s σ H _ I hw) fun v s1 h1 => thn h1 fun u s2 h2 => thn h2 fun c s3 ⟨x, H1, I1, r1, q1⟩ => ?_) h1
  obtain ⟨d, rfl, q⟩ := q1
  cases r1
  exact wpAny_truthy_bool ⟨H1, I1, q⟩
/-- an expression whose value is a bool, as a test -/
theorem pt_val {e : Expr} {t : TE} (h : PE X e t) (he : ∀ whole, isTrue e X.env whole = (do let v ← whole; standAt e.pos; holding [v] (truthy v)) := by intro _; rfl) : PT X e (tB t) := by
  intro pins s σ H Q I hw
  refine isTrue_plain (thn (h pins s σ H _ I hw) fun v s1 ⟨x, H1, I1, r1, q1⟩ => ?_) (he _)
  obtain ⟨d, rfl, q⟩ := q1
  cases r1
  exact wpAny_truthy_bool ⟨H1, I1, q⟩

/-! ### and, or, not -/
variable {tA tB' : TT} {rest : List Expr}
def tAnd (t u : TT) : TT := fun σ H Q => t σ H fun c H1 => if c = true then u σ H1 Q else Q false H1
def tOr (t u : TT) : TT := fun σ H Q => t σ H fun c H1 => if c = true then Q true H1 else u σ H1 Q
def tNot (t : TT) : TT := fun σ H Q => t σ H fun c H1 => Q (!c) H1
theorem pw_and1 (ha : PT X a tA) : PW X (.BoolOp .And [a] pos) tA := by
  intro wh pins s σ H Q I h
  refine isTrue_and (thn (ha pins s σ H Q I h) fun c s1 e => ?_)
  cases c with
  | true => exact isTrue_and_nil e
  | false => exact e
theorem pw_or1 (ha : PT X a tA) : PW X (.BoolOp .Or [a] pos) tA := by
  intro wh pins s σ H Q I h
  refine isTrue_or (thn (ha pins s σ H Q I h) fun c s1 e => ?_)
  cases c with
  | false => exact isTrue_or_nil e
  | true => exact e
theorem pw_and (ha : PT X a tA) (hb : PW X (.BoolOp .And (b :: rest) pos) tB') : PW X (.BoolOp .And (a :: b :: rest) pos) (tAnd tA tB') := by
  intro wh pins s σ H Q I h
  refine isTrue_and (thn (ha pins s σ H _ I h) fun c s1 ⟨H1, I1, q1⟩ => ?_)
  cases c with
  | true => exact hb wh pins s1 σ H1 Q I1 q1
  | false => exact ⟨H1, I1, q1⟩
theorem pw_or (ha : PT X a tA) (hb : PW X (.BoolOp .Or (b :: rest) pos) tB') : PW X (.BoolOp .Or (a :: b :: rest) pos) (tOr tA tB') := by
  intro wh pins s σ H Q I h
  refine isTrue_or (thn (ha pins s σ H _ I h) fun c s1 ⟨H1, I1, q1⟩ => ?_)
  cases c with
  | true => exact ⟨H1, I1, q1⟩
  | false => exact hb wh pins s1 σ H1 Q I1 q1
theorem pt_not (ha : PT X a tA) : PT X (.UnaryOp .Not a pos) (tNot tA) := by
  intro pins s σ H Q I h
  exact isTrue_not (ha pins s σ H (fun c H1 => Q (!c) H1) I h)
/-- .. as values (bools) -/
def tAndV (ta tb : TE) : TE := fun σ H Q => ta σ H fun x H1 => ∃ c, x = .bl c ∧ if c = true then tb σ H1 Q else Q (.bl false) H1
def tNotV (ta : TE) : TE := fun σ H Q => ta σ H fun x H1 => ∃ c, x = .bl c ∧ Q (.bl (!c)) H1
theorem pe_one {op} {t : TE} (h : PE X a t) : PE X (.BoolOp op [a] pos) t := fun pins s σ H Q I hw => BoolOp_one (h pins s σ H Q I hw)
theorem pe_and (ha : PE X a ta) (hb : PE X (.BoolOp .And (b :: rest) pos) tb) : PE X (.BoolOp .And (a :: b :: rest) pos) (tAndV ta tb) := by
  intro pins s σ H Q I h
  refine BoolOp_and (thn (ha pins s σ H _ I h) fun v s1 ⟨x, H1, I1, r1, q1⟩ => ?_)
  obtain ⟨c, rfl, q1⟩ := q1
  cases r1
  refine wpAny_truthy_bool ?_
  cases c with
  | true => exact hb pins s1 σ H1 Q I1 q1
  | false => exact ⟨.bl false, H1, I1, rfl, q1⟩
theorem pe_not (ha : PE X a ta) : PE X (.UnaryOp .Not a pos) (tNotV ta) := by
  intro pins s σ H Q I h
  refine UnaryOp_ (thn (ha pins s σ H _ I h) fun v s1 ⟨x, H1, I1, r1, q1⟩ => ?_)
  obtain ⟨c, rfl, q1⟩ := q1
  cases r1
  exact not_of (wpAny_truthy_bool ⟨.bl (!c), H1, I1, rfl, q1⟩)
/-- a if t else b -/
def tIf (t : TT) (ta tb : TE) : TE := fun σ H Q => t σ H fun c H1 => if c = true then ta σ H1 Q else tb σ H1 Q
theorem pe_ifExp {c : Expr} (hc : PT X c tA) (ha : PE X a ta) (hb : PE X b tb) : PE X (.IfExp c a b pos) (tIf tA ta tb) := by
  intro pins s σ H Q I h
  refine wpAny_IfExp (thn (hc pins s σ H _ I h) fun d s1 ⟨H1, I1, q1⟩ => ?_)
  cases d with
  | true => exact ha pins s1 σ H1 Q I1 q1
  | false => exact hb pins s1 σ H1 Q I1 q1
end
end L2

namespace L2
open PySem PySem.Spec PyProof.Rows

/-! ### a list, a tuple that is read: tracked, frozen, or an object of the module -/
def SqL (K : PySem.W.Frag) (H : Hp) (a : Addr) (xs : List V) : Prop :=
  Rd H a (.lst xs) ∨
    ∃ (o : Obj) (its : Array Value) (n : Nat), K.lookup a = some o ∧ o.cls = .type "list" ∧ o.dict = none ∧ o.data = .seq its n ∧ its.size ≤ sizeLine ∧ Vals xs its.toList
def SqT (K : PySem.W.Frag) (H : Hp) (a : Addr) (xs : List V) : Prop :=
  Rd H a (.tup xs) ∨
    ∃ (o : Obj) (its : Array Value) (n : Nat), K.lookup a = some o ∧ o.cls = .type "tuple" ∧ o.data = .seq its n ∧ its.size ≤ sizeLine ∧ Vals xs its.toList
def absV : Value → Option V
  | .none => some .non
  | .bool b => some (.bl b)
  | .int i _ => some (.int i)
  | .str x _ => some (.str x)
  | .bytes b _ => some (.byt b)
  | .float b _ => some (.flt b)
  | .ref a => some (.ref a)
  | .type n => some (.ty n)
  | _ => none
theorem RelV.abs {x : V} {u : Value} (r : RelV x u) : absV u = some x := by
  cases x with
  | non => cases r; rfl
  | bl _ => cases r; rfl
  | int _ => obtain ⟨t, rfl⟩ := r; rfl
  | str _ => obtain ⟨t, rfl⟩ := r; rfl
  | byt _ => obtain ⟨t, rfl⟩ := r; rfl
  | flt _ => obtain ⟨t, rfl⟩ := r; rfl
  | ref _ => cases r; rfl
  | ty _ => cases r; rfl
theorem RelV.inj {x y : V} {u : Value} (r : RelV x u) (q : RelV y u) : x = y := Option.some.inj (r.abs.symm.trans q.abs)
theorem Vals.inj : ∀ {xs ys : List V} {us : List Value}, Vals xs us → Vals ys us → xs = ys
  | _, _, _, .nil, .nil => rfl
  | _, _, _, .cons r t, .cons r' t' => by rw [r.inj r', Vals.inj t t']
section
variable {X : Cx} {pins : List (Addr × Obj)} {σ : St} {H : Hp} {s : Shared} {a : Addr} {xs ys : List V}
theorem SqL.of {K : PySem.W.Frag} (h : H a = some (.lst xs)) : SqL K H a xs := .inl (.inl h)
theorem SqT.of {K : PySem.W.Frag} (h : H a = some (.tup xs)) : SqT K H a xs := .inl (.inl h)
theorem Inv.list (I : Inv X pins σ H s) (h : SqL X.K H a xs) : ∃ its : List Value, Vals xs its ∧ PlainL s.heap a its.toArray ∧ xs.length ≤ sizeLine := by
  rcases h with h | ⟨o, its, n, hk, hc, hd, hs, hz, r⟩
  · obtain ⟨z, its, n, r, e⟩ := h.ok I.hok
    exact ⟨its, r, ⟨_, n, e, rfl, rfl, rfl⟩, z⟩
  · refine ⟨its.toList, r, ⟨o, n, I.kIn a o hk, hc, hd, by simpa using hs⟩, ?_⟩
    have e := r.length
    simp only [Array.length_toList] at e
    omega
theorem Inv.tuple (I : Inv X pins σ H s) (h : SqT X.K H a xs) : ∃ its : List Value, Vals xs its ∧ IsTup s.heap a its.toArray ∧ xs.length ≤ sizeLine := by
  rcases h with h | ⟨o, its, n, hk, hc, hs, hz, r⟩
  · obtain ⟨z, its, r, p⟩ := h.ok I.hok
    exact ⟨its, r, p.tup, z⟩
  · refine ⟨its.toList, r, ⟨o, I.kIn a o hk, hc, n, by simpa using hs⟩, ?_⟩
    have e := r.length
    simp only [Array.length_toList] at e
    omega
theorem Inv.list_inj (I : Inv X pins σ H s) (h : SqL X.K H a xs) (h' : SqL X.K H a ys) : xs = ys := by
  obtain ⟨its, r, ⟨o, n, e, _, _, d⟩, _⟩ := I.list h
  obtain ⟨its', r', ⟨o', n', e', _, _, d'⟩, _⟩ := I.list h'
  rw [e] at e'; cases e'
  rw [d] at d'
  injection d' with d1 _
  have : its = its' := by simpa using congrArg Array.toList d1
  subst this
  exact r.inj r'
theorem Inv.tuple_inj (I : Inv X pins σ H s) (h : SqT X.K H a xs) (h' : SqT X.K H a ys) : xs = ys := by
  obtain ⟨its, r, ⟨o, e, _, n, d⟩, _⟩ := I.tuple h
  obtain ⟨its', r', ⟨o', e', _, n', d'⟩, _⟩ := I.tuple h'
  rw [e] at e'; cases e'
  rw [d] at d'
  injection d' with d1 _
  have : its = its' := by simpa using congrArg Array.toList d1
  subst this
  exact r.inj r'
end

/-! ### another wish about exceptions -/
abbrev Cx.wish (X : Cx) (E : Value → Shared → Prop) : Cx := { X with xe := E }
/-- no exception leaves -/
abbrev Cx.nox (X : Cx) : Cx := X.wish fun _ _ => False
theorem Cx.Ok.wish {X : Cx} (ok : X.Ok) (E : Value → Shared → Prop) : (X.wish E).Ok :=
  ⟨ok.mod, ok.kind, ok.glob, ok.blt, ok.above, ok.inj, ok.has, ok.cab, ok.hd, ok.frames, ok.stk, ok.exf, ok.bs, ok.bsz, ok.noex, ok.exfs, ok.funs, ok.frf⟩
theorem Cx.Ok.unwish {X : Cx} {E : Value → Shared → Prop} (ok : (X.wish E).Ok) : X.Ok :=
  ⟨ok.mod, ok.kind, ok.glob, ok.blt, ok.above, ok.inj, ok.has, ok.cab, ok.hd, ok.frames, ok.stk, ok.exf, ok.bs, ok.bsz, ok.noex, ok.exfs, ok.funs, ok.frf⟩
section
variable {X : Cx} {pins : List (Addr × Obj)} {σ : St} {H : Hp} {s : Shared} {E : Value → Shared → Prop}
theorem Inv.wish (I : Inv X pins σ H s) (E : Value → Shared → Prop) : Inv (X.wish E) pins σ H s := ⟨I.ok.wish E, I.os, I.bare, I.base, I.loc, I.cell, I.free, I.freeC, I.pin, I.hok, I.len⟩
theorem Inv.unwish (I : Inv (X.wish E) pins σ H s) : Inv X pins σ H s := ⟨I.ok.unwish, I.os, I.bare, I.base, I.loc, I.cell, I.free, I.freeC, I.pin, I.hok, I.len⟩
theorem SP.unwish {D : Ends} {f : Flow} {s' : Shared} (h : SP (X.wish E) pins D f s') : SP X pins D f s' := by
  cases f with
  | next => obtain ⟨σ', H', I, q⟩ := h; exact ⟨σ', H', I.unwish, q⟩
  | brk => obtain ⟨σ', H', I, q⟩ := h; exact ⟨σ', H', I.unwish, q⟩
  | cont => obtain ⟨σ', H', I, q⟩ := h; exact ⟨σ', H', I.unwish, q⟩
  | ret u => obtain ⟨v, σ', H', I, r, q⟩ := h; exact ⟨v, σ', H', I.unwish, r, q⟩
theorem PSs.nox {st : List Stmt} {t : TS} (h : PSs X.nox st t) : PSs X st t := fun pins s σ H D I hw =>
  wpAny_mono (h pins s σ H D (I.wish _) hw) (fun _ _ q => q.unwish) fun _ _ z => False.elim z
end

/-! ### blocks and small statements -/
section
variable {X : Cx} {st : Stmt} {rest : List Stmt} {t u : TS} {e : Expr} {te : TE} {pos : Pos}
def tNext : TS := fun D σ H => D.nx σ H
def tSeq (t u : TS) : TS := fun D σ H => t { D with nx := u D } σ H
theorem pss_nil : PSs X [] tNext := fun _ _ σ H _ I h => wpAny_execs_nil ⟨σ, H, I, h⟩
theorem pss_cons (h1 : PS X st t) (h2 : PSs X rest u) : PSs X (st :: rest) (tSeq t u) := by
  intro pins s σ H D I h
  refine wpAny_execs_cons (thn (h1 pins s σ H { D with nx := u D } I h) fun f s1 q => ?_)
  cases f with
  | next =>
    obtain ⟨σ', H', I', q⟩ := q
    exact h2 pins s1 σ' H' D I' q
  | ret v => exact q
  | brk => exact q
  | cont => exact q
theorem pss_one (h1 : PS X st t) : PSs X [st] t := by
  intro pins s σ H D I h
  refine wpAny_execs_cons (thn (h1 pins s σ H D I h) fun f s1 q => ?_)
  cases f with
  | next => exact wpAny_execs_nil q
  | ret v => exact q
  | brk => exact q
  | cont => exact q
/-- in a def's body nothing is shown -/
theorem Inv.quiet {pins : List (Addr × Obj)} {σ : St} {H : Hp} {s : Shared} (I : Inv X pins σ H s) : interactive X.env = false := by simp [interactive, I.ok.kind]
/-- an expression whose value is dropped -/
def tDrop (te : TE) : TS := fun D σ H => te σ H fun _ H1 => D.nx σ H1
theorem ps_expr (he : PE X e te) (hs : swapsWith e none pos.line X.env = pure false := by rfl) : PS X (.Expr e pos) (tDrop te) := by
  intro pins s σ H D I h
  exact wpAny_Expr_any (thn (he pins s σ H _ I h) fun v s1 ⟨x, H1, I1, r1, q1⟩ => ⟨σ, H1, I1, q1⟩) I.quiet hs
def tRet (te : TE) : TS := fun D σ H => te σ H D.rt
theorem ps_ret (he : PE X e te) : PS X (.Return (some e) pos) (tRet te) := by
  intro pins s σ H D I h
  exact wpAny_Return_some (thn (he pins s σ H _ I h) fun v s1 ⟨x, H1, I1, r1, q1⟩ => ⟨x, σ, H1, I1, r1, q1⟩)
def tIfS (c : TT) (t u : TS) : TS := fun D σ H => c σ H fun b H1 => if b = true then t D σ H1 else u D σ H1
theorem ps_if {c : Expr} {a b : List Stmt} {tc : TT} (hc : PT X c tc) (ha : PSs X a t) (hb : PSs X b u) : PS X (.If c a b pos) (tIfS tc t u) := by
  intro pins s σ H D I h
  refine wpAny_If (thn (hc pins s σ H _ I h) fun d s1 ⟨H1, I1, q1⟩ => ?_)
  cases d with
  | true => exact ha pins s1 σ H1 D I1 q1
  | false => exact hb pins s1 σ H1 D I1 q1
/-- code that the proof never comes to -/
def tNever : TS := fun _ _ _ => False
theorem pss_never {sts : List Stmt} : PSs X sts tNever := fun _ _ _ _ _ _ h => h.elim
end

/-! ### targets -/
abbrev TG := V → St → Hp → (St → Hp → Prop) → Prop
abbrev TGs := List V → St → Hp → (St → Hp → Prop) → Prop
def PG (X : Cx) (target : Expr) (t : TG) : Prop :=
  ∀ (pins : List (Addr × Obj)) (s : Shared) (σ : St) (H : Hp) (v : V) (u : Value) (Q : St → Hp → Prop), Inv X pins σ H s → RelV v u → t v σ H Q →
    wpAny (model X.prog X.w) X.A (assign target X.env u) (fun _ s' => ∃ σ' H', Inv X pins σ' H' s' ∧ Q σ' H') X.xe s
/-- several targets, one after another -/
def PGs (X : Cx) (ts : List Expr) (t : TGs) : Prop :=
  ∀ (pins : List (Addr × Obj)) (s : Shared) (σ : St) (H : Hp) (vs : List V) (us : List Value) (Q : St → Hp → Prop), Inv X pins σ H s → Vals vs us → t vs σ H Q →
    wpAny (model X.prog X.w) X.A (assignInOrder ((assignEach ts X.env).map (·.2)) us) (fun _ s' => ∃ σ' H', Inv X pins σ' H' s' ∧ Q σ' H') X.xe s
/-- o[i] = v, by values -/
abbrev TSet := V → V → V → Hp → (Hp → Prop) → Prop
def PSet (X : Cx) (t : TSet) : Prop :=
  ∀ (pins : List (Addr × Obj)) (s : Shared) (σ : St) (H : Hp) (o i v : V) (ov iv u : Value) (Q : Hp → Prop), Inv X pins σ H s → RelV o ov → RelV i iv → RelV v u → t o i v H Q →
    wpAny (model X.prog X.w) X.A (setItem ov iv u) (fun _ s' => ∃ H', Inv X pins σ H' s' ∧ Q H') X.xe s
section
variable {X : Cx} {pos : Pos}
def gName (i : Nat) : TG := fun v σ H Q => Q (σ.set i (some v)) H
theorem pg_name {i : Nat} {x : Str} (hN : X.N.Nodup) (hi : X.N[i]? = some x) (hx : Loc X.env.scope x) (hf : X.fn x = true ∨ X.env.scope.names.lookup x = some .local := by first | exact .inl rfl | exact .inr rfl | assumption) : PG X (.Name x pos) (gName i) := by
  intro pins s σ H v u Q I r h
  exact wpAny_assign_Name (store_ok I hN hi hx r (fun s' I' => ⟨_, H, I', h⟩) hf)
def gNil : TGs := fun vs σ H Q => vs = [] ∧ Q σ H
def gCons (t : TG) (u : TGs) : TGs := fun vs σ H Q => ∃ v r, vs = v :: r ∧ t v σ H fun σ' H' => u r σ' H' Q
theorem pgs_nil : PGs X [] gNil := by
  intro pins s σ H vs us Q I r h
  obtain ⟨e, h⟩ := h
  subst e
  cases r
  exact assignInOrder_nil ⟨σ, H, I, h⟩
theorem pgs_cons {e : Expr} {es : List Expr} {t : TG} {u : TGs} (h1 : PG X e t) (h2 : PGs X es u)
    (hs : (assignEach (e :: es) X.env).map (·.2) = assign e X.env :: (assignEach es X.env).map (·.2) := by rfl) : PGs X (e :: es) (gCons t u) := by
  intro pins s σ H vs us Q I r h
  obtain ⟨v, vr, e1, h⟩ := h
  subst e1
  cases r with
  | cons r rr =>
    rw [hs]
    refine assignInOrder_cons (thn (h1 pins s σ H _ _ _ I r h) fun _ s1 ⟨σ1, H1, I1, q1⟩ => ?_)
    exact h2 pins s1 σ1 H1 _ _ Q I1 rr q1
/-- (a, b, ..) = a tuple of that length -/
def gTup (K : PySem.W.Frag) (n : Nat) (t : TGs) : TG := fun v σ H Q => ∃ a xs, v = .ref a ∧ SqT K H a xs ∧ xs.length = n ∧ t xs σ H Q
theorem pg_tup {es : List Expr} {k : Nat} {t : TGs} {n : Nat} (hc : X.calm = true) (h : PGs X es t)
    (hn : (assignEach es X.env).length = n := by rfl) (hst : (assignEach es X.env).findIdx? (·.1) = none := by rfl) : PG X (.Tuple es k pos) (gTup X.K n t) := by
  intro pins s σ H v u Q I r hw
  obtain ⟨a, xs, e1, hq, hl, hw⟩ := hw
  subst e1
  cases r
  obtain ⟨its, rv, ht, hz⟩ := I.tuple hq
  refine assign_Tuple_tuple (I.ok.hd hc) ht (by simp [hn, ← hl, rv.length]) hst fun h' hx => ?_
  have I1 : Inv X pins σ H { s with heap := h' } := I.kept (t' := s.toks) fun b o e => hx b o (Nat.ne_of_lt (Heap.lt_size e)) e
  exact h pins _ σ H xs _ Q I1 (by simpa using rv) hw
/-- o[i] = .. -/
def gSub (to ti : TE) (t : TSet) : TG := fun v σ H Q => to σ H fun o H1 => ti σ H1 fun i H2 => t o i v H2 fun H3 => Q σ H3
theorem pg_sub {o i : Expr} {to ti : TE} {t : TSet} (ho : PE X o to) (hi : PE X i ti) (hs : PSet X t)
    (ha : ∀ v, assign (.Subscript o i pos) X.env v = (do
      let ov ← holding [v] (eval o X.env)
      let iv ← holding [v, ov] (eval i X.env)
      standAt pos
      holding [v, ov, iv] (setItem ov iv v)
      release [v, ov, iv] []) := by intro _; rfl) : PG X (.Subscript o i pos) (gSub to ti t) := by
  intro pins s σ H v u Q I r h
  rw [ha]
  refine wpAny_bind (wpAny_holding (thn (ho pins s σ H _ I h) fun ov s1 ⟨x, H1, I1, r1, q1⟩ => ?_))
  refine wpAny_bind (wpAny_holding (thn (hi pins s1 σ H1 _ I1 q1) fun iv s2 ⟨y, H2, I2, r2, q2⟩ => ?_))
  refine wpAny_bind (wpAny_standAt (wpAny_bind (wpAny_holding (thn (hs pins s2 σ H2 x y v ov iv u _ I2 r1 r2 r q2) fun _ s3 ⟨H3, I3, q3⟩ => ?_))))
  exact wpAny_release ⟨σ, H3, I3, q3⟩
/-- target = value -/
def tAsg (te : TE) (g : TG) : TS := fun D σ H => te σ H fun x H1 => g x σ H1 D.nx
theorem ps_asg {tg e : Expr} {te : TE} {g : TG} (he : PE X e te) (hg : PG X tg g) (hs : swapsWithSole [tg] e pos.line X.env = pure false := by rfl) (hw : swappedStores [tg] e X.env = pure none := by rfl)
    (h1 : (assignEach [tg] X.env).map (·.2) = [assign tg X.env] := by rfl) : PS X (.Assign [tg] e pos) (tAsg te g) := by
  intro pins s σ H D I h
  refine wpAny_Assign_stores (thn (he pins s σ H _ I h) fun v s1 ⟨x, H1, I1, r1, q1⟩ => ?_) hs hw
  rw [h1]
  exact thn (hg pins s1 σ H1 x v _ I1 r1 q1) fun _ s2 q => q
/-- name = value -/
theorem ps_set {i : Nat} {x : Str} {e : Expr} {te : TE} {pos' : Pos} (hN : X.N.Nodup) (hi : X.N[i]? = some x) (hx : Loc X.env.scope x) (he : PE X e te) (hs : swapsWith e (some (.Name x pos')) pos.line X.env = pure false := by rfl) (hf : X.fn x = true ∨ X.env.scope.names.lookup x = some .local := by first | exact .inl rfl | exact .inr rfl | assumption) :
    PS X (.Assign [.Name x pos'] e pos) (tAsg te (gName i)) := by
  intro pins s σ H D I h
  refine wpAny_Assign_Name (thn (he pins s σ H _ I h) fun v s1 ⟨y, H1, I1, r1, q1⟩ => ?_) hs
  exact store_ok I1 hN hi hx r1 (fun s2 I2 => ⟨_, H1, I2, q1⟩) hf
end

/-! ### while -/
section
variable {X : Cx} {pos : Pos}
end

/-! ### what a loop or a comprehension walks -/
/-- at turn i: it yields x (the heap may grow), or it stops -/
structure It where
  go : Nat → Hp → Prop
  yld : Nat → Hp → V → Hp → Prop
  stop : Nat → Hp → Prop
/-- the iterator's own objects may turn: they are not the frame's, not pinned, younger than the entry (or a comprehension's own) -/
def FpOk (X : Cx) (pins : List (Addr × Obj)) (H : Hp) (b : Addr) : Prop :=
  H b = none ∧ b ≠ X.env.locals ∧ b ∉ X.fs ∧ (b ∈ X.ex ∨ X.s₀.heap.objs.size ≤ b) ∧ (∀ x c, X.env.cells.lookup x = some c → c ≠ b) ∧ ∀ p ∈ X.pn ++ pins, p.1 ≠ b
theorem Inv.fpOk {X : Cx} {pins : List (Addr × Obj)} {σ : St} {H H' : Hp} {s : Shared} {b : Addr} (I : Inv X pins σ H s) (hb : s.heap.objs.size ≤ b) (hn : H' b = none) : FpOk X pins H' b := by
  refine ⟨hn, Nat.ne_of_gt (Nat.lt_of_lt_of_le I.lt hb), I.nofs hb, .inr (Nat.le_trans I.sz hb), fun x c e z => ?_, fun p hp z => ?_⟩
  · obtain ⟨v, q⟩ := I.cell x c e
    exact absurd (Nat.lt_of_lt_of_le q.lt (by rw [z]; exact hb)) (Nat.lt_irrefl _)
  · exact absurd (Nat.lt_of_lt_of_le (Heap.lt_size (I.pin p hp).1) (by rw [z]; exact hb)) (Nat.lt_irrefl _)
structure Turn (P : Program) (w : World) (K : PySem.W.Frag) (tg : Expr) (J : It) (fp : List Addr) (it : Addr) (tn : Nat → Heap → Prop) : Prop where
  mem : it ∈ fp
  obj : ∀ i h, tn i h → ∀ b ∈ fp, ∃ o, h.get? b = some o ∧ ∀ v, o.data ≠ .cell v
  keep : ∀ i h h', tn i h → (∀ b ∈ fp, ∀ o, h.get? b = some o → h'.get? b = some o) → tn i h'
  item : ∀ (X : Cx), X.prog = P → X.w = w → X.K = K → X.calm = true → ∀ (i : Nat) (pins : List (Addr × Obj)) (s : Shared) (σ : St) (H : Hp) (E : Value → Shared → Prop), Inv X pins σ H s → (∀ b ∈ fp, FpOk X pins H b) → tn i s.heap → J.go i H →
    wpAny (model P w) X.A (pyNext (.ref it)) (fun r s1 => ∃ u, r = some u ∧
      wpAny (model P w) X.A (letOwnedTupleGo tg (.ref it) u) (fun _ s2 => ∃ x H', Inv X pins σ H' s2 ∧ RelV x u ∧ J.yld i H x H' ∧ tn (i + 1) s2.heap ∧ ∀ b ∈ fp, H' b = none) E s1) E s
  done : ∀ (X : Cx), X.prog = P → X.w = w → X.K = K → X.calm = true → ∀ (i : Nat) (pins : List (Addr × Obj)) (s : Shared) (σ : St) (H : Hp) (E : Value → Shared → Prop), Inv X pins σ H s → (∀ b ∈ fp, FpOk X pins H b) → tn i s.heap → J.stop i H →
    wpAny (model P w) X.A (pyNext (.ref it)) (fun r s1 => r = none ∧ Inv X pins σ H s1) E s
  self : ∀ (A : Around) (i : Nat) (s : Shared) (Q : Value → Shared → Prop) (E : Value → Shared → Prop), tn i s.heap → Q (.ref it) s → wpAny (model P w) A (pyIter (.ref it)) Q E s
abbrev TI := St → Hp → (It → Hp → Prop) → Prop
/-- an iterator has come -/
def PIE (X : Cx) (pins : List (Addr × Obj)) (σ : St) (tg : Expr) (R : It → Hp → Prop) (itv : Value) (s2 : Shared) : Prop :=
  ∃ (it : Addr) (fp : List Addr) (tn : Nat → Heap → Prop) (J : It) (H' : Hp), itv = .ref it ∧ Inv X pins σ H' s2 ∧ Turn X.prog X.w X.K tg J fp it tn ∧ tn 0 s2.heap ∧ (∀ b ∈ fp, FpOk X pins H' b) ∧ R J H'
def PI (X : Cx) (tg iter : Expr) (wi : TI) : Prop :=
  ∀ (pins : List (Addr × Obj)) (s : Shared) (σ : St) (H : Hp) (R : It → Hp → Prop), Inv X pins σ H s → wi σ H R →
    wpAny (model X.prog X.w) X.A (eval iter X.env) (fun v s1 => wpAny (model X.prog X.w) X.A (pyIter v) (PIE X pins σ tg R) X.xe s1) X.xe s

/-- the step ahead of the store is nothing for an iterator that keeps no tuple -/
theorem go_of {M : Model} {A : Around} {E : Value → Shared → Prop} {s : Shared} {tg : Expr} {it : Addr} {u : Value} {o : Obj} {n : String} {vs : Array Value} {Q : Unit → Shared → Prop} (ho : s.heap.get? it = some o) (hc : o.cls = .type n) (hd : o.data = .fields vs)
    (hn : ["enumerate", "zip", "dict_itemiterator", "dict_reverseitemiterator", "odict_iterator", "itertools.zip_longest", "itertools.pairwise"].contains n = false) (hQ : Q () s) : wpAny M A (letOwnedTupleGo tg (.ref it) u) Q E s := by
  unfold letOwnedTupleGo
  cases tg <;> first
    | exact wpAny_pure hQ
    | (cases u <;> first
        | exact wpAny_pure hQ
        | (refine wpAny_bind (wpAny_load ho ?_)
           rw [hc, hd]
           show wpAny M A (if (["enumerate", "zip", "dict_itemiterator", "dict_reverseitemiterator", "odict_iterator", "itertools.zip_longest", "itertools.pairwise"].contains n && vs[0]? == some (rawInt _)) = true then _ else _) Q E s
           rw [if_neg (by intro h; rw [hn, Bool.false_and] at h; cases h)]
           exact wpAny_pure hQ))

/-- the list at a, as it stands at each turn (a loop may append to it) -/
def Itl (K : PySem.W.Frag) (a : Addr) : It :=
  ⟨fun i H => ∃ xs x, SqL K H a xs ∧ xs[i]? = some x, fun i H x H' => H' = H ∧ ∀ xs, SqL K H a xs → xs[i]? = some x, fun i H => ∃ xs, SqL K H a xs ∧ xs.length ≤ i⟩
def Itt (K : PySem.W.Frag) (a : Addr) : It :=
  ⟨fun i H => ∃ xs x, SqT K H a xs ∧ xs[i]? = some x, fun i H x H' => H' = H ∧ ∀ xs, SqT K H a xs → xs[i]? = some x, fun i H => ∃ xs, SqT K H a xs ∧ xs.length ≤ i⟩
/-- lo, lo + 1, .. (n of them) -/
def Itr (lo : Int) (n : Nat) : It := ⟨fun i _ => i < n, fun i H x H' => H' = H ∧ x = .int (lo + i), fun i _ => n ≤ i⟩
theorem turn_list {P : Program} {w : World} {K : PySem.W.Frag} {tg : Expr} (a it : Addr) : Turn P w K tg (Itl K a) [it] it (fun i h => h.IsListIter it a i) where
  mem := by simp
  obj := fun i h st b hb => by
    have e : b = it := by simpa using hb
    subst e
    obtain ⟨o, e, c, d⟩ := st
    exact ⟨o, e, fun v z => by rw [d] at z; cases z⟩
  keep := fun i h h' st k => st.at fun o e => k it (by simp) o e
  item := by
    intro X hP hw hK hc i pins s σ H E I hf st hg
    subst hP hw hK
    obtain ⟨xs, x, hq, hx⟩ := hg
    obtain ⟨its, rv, p, hz⟩ := I.list hq
    obtain ⟨u, hu, ru⟩ := rv.get hx
    obtain ⟨f0, f1, f2, f3, f4, f5⟩ := hf it (by simp)
    refine wpAny_pyNext_list_item st p.isList (x := u) (by simpa using hu) fun h' st' sb => ?_
    have I1 : Inv X pins σ H { s with heap := h' } := I.turned (t' := s.toks) (fun b o hb e => (sb.2 b hb).trans e) f0 f1 f3 f4 f5
    obtain ⟨o, e, c, d⟩ := id st'
    exact ⟨u, rfl, go_of (s := { s with heap := h' }) e c d (by decide) ⟨x, H, I1, ru, ⟨rfl, fun ys hy => by rw [I.list_inj hy hq]; exact hx⟩, st', fun b hb => (hf b hb).1⟩⟩
  done := by
    intro X hP hw hK hc i pins s σ H E I hf st hg
    subst hP hw hK
    obtain ⟨xs, hq, hx⟩ := hg
    obtain ⟨its, rv, p, hz⟩ := I.list hq
    obtain ⟨f0, f1, f2, f3, f4, f5⟩ := hf it (by simp)
    have hl := rv.length
    exact wpAny_pyNext_list_end (I.ok.hd hc) st p.isList (by simp; omega) fun h' eb => ⟨rfl, I.turned (t' := s.toks) (fun b o hb e => eb b o hb e) f0 f1 f3 f4 f5⟩
  self := fun _ _ _ _ _ st h => wpAny_pyIter_listiter st h
theorem turn_tuple {P : Program} {w : World} {K : PySem.W.Frag} {tg : Expr} (a it : Addr) : Turn P w K tg (Itt K a) [it] it (fun i h => h.IsTupleIter it a i) where
  mem := by simp
  obj := fun i h st b hb => by
    have e : b = it := by simpa using hb
    subst e
    obtain ⟨o, e, c, d⟩ := st
    exact ⟨o, e, fun v z => by rw [d] at z; cases z⟩
  keep := fun i h h' st k => st.at fun o e => k it (by simp) o e
  item := by
    intro X hP hw hK hc i pins s σ H E I hf st hg
    subst hP hw hK
    obtain ⟨xs, x, hq, hx⟩ := hg
    obtain ⟨its, rv, p, hz⟩ := I.tuple hq
    obtain ⟨u, hu, ru⟩ := rv.get hx
    obtain ⟨f0, f1, f2, f3, f4, f5⟩ := hf it (by simp)
    refine wpAny_pyNext_tuple_item st (show s.heap.IsTuple a its.toArray from p) (x := u) (by simpa using hu) fun h' st' sb => ?_
    have I1 : Inv X pins σ H { s with heap := h' } := I.turned (t' := s.toks) (fun b o hb e => (sb.2 b hb).trans e) f0 f1 f3 f4 f5
    obtain ⟨o, e, c, d⟩ := id st'
    exact ⟨u, rfl, go_of (s := { s with heap := h' }) e c d (by decide) ⟨x, H, I1, ru, ⟨rfl, fun ys hy => by rw [I.tuple_inj hy hq]; exact hx⟩, st', fun b hb => (hf b hb).1⟩⟩
  done := by
    intro X hP hw hK hc i pins s σ H E I hf st hg
    subst hP hw hK
    obtain ⟨xs, hq, hx⟩ := hg
    obtain ⟨its, rv, p, hz⟩ := I.tuple hq
    obtain ⟨f0, f1, f2, f3, f4, f5⟩ := hf it (by simp)
    have hl := rv.length
    exact wpAny_pyNext_tuple_end (I.ok.hd hc) st (show s.heap.IsTuple a its.toArray from p) (by simp; omega) fun h' eb => ⟨rfl, I.turned (t' := s.toks) (fun b o hb e => eb b o hb e) f0 f1 f3 f4 f5⟩
  self := fun _ _ _ _ _ st h => wpAny_pyIter_tupleiter st h
theorem turn_range {P : Program} {w : World} {K : PySem.W.Frag} {tg : Expr} (it : Addr) (lo : Int) (n : Nat) : Turn P w K tg (Itr lo n) [it] it (fun i h => IsRangeIter h it (lo + (i : Nat) * 1) ((n : Int) - (i : Nat)) 1) where
  mem := by simp
  obj := fun i h st b hb => by
    have e : b = it := by simpa using hb
    subst e
    exact ⟨_, st, fun v z => by
      have z' : Data.fields _ = Data.cell v := z
      cases z'⟩
  keep := fun i h h' st k => k it (by simp) _ st
  item := by
    intro X hP hw hK hc i pins s σ H E I hf st hg
    subst hP hw hK
    obtain ⟨f0, f1, f2, f3, f4, f5⟩ := hf it (by simp)
    have W := Walks.range (prog := X.prog) (w := X.w) (I.ok.hd hc) it lo 1 n
    refine W.item i s _ _ hg st fun v h' tk hv st' kk => ?_
    obtain ⟨t, rfl⟩ := hv
    have I1 : Inv X pins σ H { s with heap := h', toks := tk } := I.turned (fun b o hb e => kk b o (by simpa using hb) e) f0 f1 f3 f4 f5
    refine ⟨_, rfl, go_of (s := { s with heap := h', toks := tk }) (n := "range_iterator") st' rfl rfl (by decide) ⟨.int (lo + i), H, I1, ⟨t, ?_⟩, ⟨rfl, rfl⟩, st', fun b hb => (hf b hb).1⟩⟩
    rw [Int.mul_one]
  done := by
    intro X hP hw hK hc i pins s σ H E I hf st hg
    subst hP hw hK
    obtain ⟨f0, f1, f2, f3, f4, f5⟩ := hf it (by simp)
    exact wpAny_pyNext_range_end (I.ok.hd hc) st (by have : n ≤ i := hg; omega) fun h' eb => ⟨rfl, I.turned (t' := s.toks) (fun b o hb e => eb b o hb e) f0 f1 f3 f4 f5⟩
  self := fun _ _ _ _ _ st h => wpAny_pyIter_rangeiter st h
end L2

namespace L2
open PySem PySem.Spec PyProof.Rows
section
variable {X : Cx} {tg : Expr}
def iList (K : PySem.W.Frag) (tl : TE) : TI := fun σ H R => tl σ H fun x H1 => ∃ a, x = .ref a ∧ (∃ xs, SqL K H1 a xs) ∧ R (Itl K a) H1
def iTup (K : PySem.W.Frag) (tl : TE) : TI := fun σ H R => tl σ H fun x H1 => ∃ a, x = .ref a ∧ (∃ xs, SqT K H1 a xs) ∧ R (Itt K a) H1
theorem pi_list {l : Expr} {tl : TE} (hl : PE X l tl) : PI X tg l (iList X.K tl) := by
  intro pins s σ H R I h
  refine thn (hl pins s σ H _ I h) fun v s1 ⟨x, H1, I1, r1, q1⟩ => ?_
  obtain ⟨a, e, ⟨xs, hq⟩, q⟩ := q1
  subst e
  cases r1
  obtain ⟨its, rv, p, hz⟩ := I1.list hq
  refine wpAny_pyIter_list p.isList ?_
  refine ⟨s1.heap.objs.size, [s1.heap.objs.size], _, _, H1, rfl, I1.kept (t' := s1.toks) fun b o e => Heap.get?_push_of_some _ e, turn_list a _, ⟨_, Heap.get?_push_size _ rfl, rfl, rfl⟩, fun b hb => ?_, q⟩
  have e : b = s1.heap.objs.size := by simpa using hb
  subst e
  exact I1.fpOk (Nat.le_refl _) (I1.hok.fresh (Nat.le_refl _))
theorem pi_tup {l : Expr} {tl : TE} (hl : PE X l tl) : PI X tg l (iTup X.K tl) := by
  intro pins s σ H R I h
  refine thn (hl pins s σ H _ I h) fun v s1 ⟨x, H1, I1, r1, q1⟩ => ?_
  obtain ⟨a, e, ⟨xs, hq⟩, q⟩ := q1
  subst e
  cases r1
  obtain ⟨its, rv, p, hz⟩ := I1.tuple hq
  refine wpAny_pyIter_tuple (show s1.heap.IsTuple a its.toArray from p) ?_
  refine ⟨s1.heap.objs.size, [s1.heap.objs.size], _, _, H1, rfl, I1.kept (t' := s1.toks) fun b o e => Heap.get?_push_of_some _ e, turn_tuple a _, ⟨_, Heap.get?_push_size _ rfl, rfl, rfl⟩, fun b hb => ?_, q⟩
  have e : b = s1.heap.objs.size := by simpa using hb
  subst e
  exact I1.fpOk (Nat.le_refl _) (I1.hok.fresh (Nat.le_refl _))
/-- a range object just made, walked -/
theorem range_it {pins : List (Addr × Obj)} {σ : St} {H : Hp} {s : Shared} {R : It → Hp → Prop} {E : Value → Shared → Prop} {lo hi : Int} {t u v : Tok} {tk : Nat} (I : Inv X pins σ H s) (h1 : -(2 ^ 62) ≤ lo) (h2 : lo < 2 ^ 62) (h3 : -(2 ^ 62) ≤ hi) (h4 : hi < 2 ^ 62)
    (q : R (Itr lo (hi - lo).toNat) H) : wpAny (model X.prog X.w) X.A (pyIter (.ref s.heap.objs.size)) (PIE X pins σ tg R) E { s with heap := s.heap.push { cls := .type "range", data := .fields #[.int lo t, .int hi u, .int 1 v] }, toks := tk } := by
  refine wpAny_pyIter_range (IsRange.new ..) (small_one h1 h2 h3 h4) ?_
  have I1 : Inv X pins σ H { s with heap := s.heap.push { cls := .type "range", data := .fields #[.int lo t, .int hi u, .int 1 v] }, toks := tk } := I.kept fun b o e => Heap.get?_push_of_some _ e
  refine ⟨(s.heap.push { cls := .type "range", data := .fields #[.int lo t, .int hi u, .int 1 v] }).objs.size, [(s.heap.push { cls := .type "range", data := .fields #[.int lo t, .int hi u, .int 1 v] }).objs.size], _, _, H, rfl,
    I1.kept (t' := tk) fun b o e => Heap.get?_push_of_some _ e, turn_range _ lo (hi - lo).toNat, ?_, fun b hb => ?_, q⟩
  · have e1 : lo + ((0 : Nat) : Int) * 1 = lo := by simp
    have e2 : (((hi - lo).toNat : Nat) : Int) - ((0 : Nat) : Int) = Builtin.Range.rangeSize lo hi 1 := by rw [rangeSize_one]; split <;> omega
    show IsRangeIter _ _ (lo + ((0 : Nat) : Int) * 1) ((((hi - lo).toNat : Nat) : Int) - ((0 : Nat) : Int)) 1
    rw [e1, e2]
    exact Heap.get?_push_size _ rfl
  · have e : b = (s.heap.push { cls := .type "range", data := .fields #[.int lo t, .int hi u, .int 1 v] }).objs.size := by simpa using hb
    subst e
    exact I1.fpOk (Nat.le_refl _) (I1.hok.fresh (Nat.le_refl _))
def iRng1 (ta : TA) : TI := fun σ H R => ta σ H fun vs H1 => ∃ j : Int, vs = [.int j] ∧ -(2 ^ 62) ≤ j ∧ j < 2 ^ 62 ∧ R (Itr 0 j.toNat) H1
theorem pi_range1 {a : Expr} {ta : TA} {p pos : Pos} (hg : Gl X "range") (hm : X.mg "range" = none) (ha : PA X [a] ta) (hs : starEach [a] X.env = [(false, eval a X.env)] := by rfl) : PI X tg (.Call (.Name "range" p) [a] [] pos) (iRng1 ta) := by
  intro pins s σ H R I h
  refine Call_ (ld_blt I hg hm boot_range (PyProof.Rows.callWith_type1 (thn (ha pos pins s σ H _ I h) fun us s1 ⟨vs, H1, I1, r1, q1⟩ => ?_) hs rfl))
  obtain ⟨j, e, q1, q2, q⟩ := q1
  subst e
  cases r1 with
  | cons r rr =>
    cases rr
    obtain ⟨t, rfl⟩ := r
    exact call_range_1 (range_it I1 (by omega) (by omega) q1 q2 (by simpa using q))

/-! ### for -/
/-- W: the invariant by the turn and a measure; N: what the body is to reach -/
def tFor (wi : TI) (g : TG) (tb : TS) : TS := fun D σ H => wi σ H fun J H1 => ∃ W : Nat → Nat → St → Hp → Prop, (∃ m, W 0 m σ H1) ∧ ∀ i m σ H, W i m σ H →
  (J.stop i H ∧ D.nx σ H) ∨ (J.go i H ∧ ∃ N : St → Hp → Prop, (∀ σ' H', N σ' H' → ∃ m', m' < m ∧ W (i + 1) m' σ' H') ∧ ∀ x H', J.yld i H x H' → g x σ H' fun σ2 H2 => tb { D with nx := N, ct := N, bk := D.nx } σ2 H2)
/-- the records at fp as they stand -/
def pinsAt (fp : List Addr) (h : Heap) : List (Addr × Obj) := fp.filterMap fun b => (h.get? b).map fun o => (b, o)
theorem mem_pinsAt {fp : List Addr} {h : Heap} {b : Addr} {o : Obj} (hb : b ∈ fp) (e : h.get? b = some o) : (b, o) ∈ pinsAt fp h := List.mem_filterMap.mpr ⟨b, hb, by rw [e]; rfl⟩
theorem of_pinsAt {fp : List Addr} {h : Heap} {p : Addr × Obj} (hp : p ∈ pinsAt fp h) : p.1 ∈ fp ∧ h.get? p.1 = some p.2 := by
  obtain ⟨b, hb, e⟩ := List.mem_filterMap.mp hp
  cases q : h.get? b with
  | none => rw [q] at e; cases e
  | some o =>
    rw [q] at e
    have e' : (b, o) = p := Option.some.inj e
    subst e'
    exact ⟨hb, q⟩
theorem Inv.pinned {pins : List (Addr × Obj)} {σ : St} {H : Hp} {s : Shared} {fp : List Addr} (I : Inv X pins σ H s) (hf : ∀ b ∈ fp, FpOk X pins H b) (ho : ∀ b ∈ fp, ∃ o, s.heap.get? b = some o ∧ ∀ v, o.data ≠ .cell v) : Inv X (pins ++ pinsAt fp s.heap) σ H s :=
  I.pins_of fun p hp => (List.mem_append.mp hp).elim (fun z => I.pin p (List.mem_append_right _ z)) fun z => by
    obtain ⟨hb, e⟩ := of_pinsAt z
    obtain ⟨f0, f1, f2, _⟩ := hf p.1 hb
    obtain ⟨o, e', d⟩ := ho p.1 hb
    rw [e] at e'; cases e'
    exact ⟨e, f0, f1, f2, d⟩
theorem Inv.unpinned {pins pl : List (Addr × Obj)} {σ : St} {H : Hp} {s : Shared} (I : Inv X (pins ++ pl) σ H s) : Inv X pins σ H s := I.pins_of fun p hp => I.pin p (List.mem_append_right _ (List.mem_append_left _ hp))
theorem ps_for {iter : Expr} {body : List Stmt} {wi : TI} {g : TG} {tb : TS} {pos : Pos} (hp : PassesOwn (model X.prog X.w) X.A X.env X.xe) (hc : X.calm = true) (hi : PI X tg iter wi) (hg : PG X tg g) (hb : PSs X body tb)
    (hs : ∀ x, foldedSetIterable iter X.env x = pure x := by intro _; rfl) : PS X (.For tg iter body [] pos) (tFor wi g tb) := by
  intro pins s σ H D I h
  refine wpAny_For (thn (hi pins s σ H _ I h) fun v s1 h1 => thn h1 fun itv s2 h2 => ?_) hs
  obtain ⟨it, fp, tn, J, H2, e, I2, T, st2, f2, W, ⟨m0, w0⟩, turn⟩ := h2
  subst e
  -- what stays true of the iterator's objects through the loop
  have stat : ∀ {H' : Hp}, (∀ b ∈ fp, H' b = none) → ∀ b ∈ fp, FpOk X pins H' b := fun hn b hb => ⟨hn b hb, (f2 b hb).2⟩
  refine codeAny_forLoop_any (fun n s' => ∃ i σ' H', Inv X pins σ' H' s' ∧ tn i s'.heap ∧ (∀ b ∈ fp, H' b = none) ∧ W i n σ' H') ?_ m0 ⟨0, σ, H2, I2, st2, fun b hb => (f2 b hb).1, w0⟩
  rintro n s3 ⟨i, σ3, H3, I3, st3, fr3, w3⟩
  rcases turn i n σ3 H3 w3 with ⟨stop, qn⟩ | ⟨go, N, hN, step⟩
  · refine wpAny_passesOwn hp (thn (T.done X rfl rfl rfl hc i pins s3 σ3 H3 X.xe I3 (stat fr3) st3 stop) fun r s4 ⟨hr, I4⟩ => ?_)
    subst hr
    exact wpAny_execs_nil ⟨σ3, H3, I4, qn⟩
  · refine wpAny_passesOwn hp (thn (T.item X rfl rfl rfl hc i pins s3 σ3 H3 X.xe I3 (stat fr3) st3 go) fun r s4 ⟨u, hr, h4⟩ => ?_)
    subst hr
    refine wpAny_passesOwn hp (thn h4 fun _ s5 ⟨x, H5, I5, r5, y5, st5, fr5⟩ => ?_)
    have I5' := I5.pinned (stat fr5) (T.obj _ _ st5)
    refine wpAny_passesOwn hp (thn (hg _ s5 σ3 H5 x u _ I5' r5 (step x H5 y5)) fun _ s6 ⟨σ6, H6, I6, q6⟩ => ?_)
    refine wpAny_passesOwn hp (thn (hb _ s6 σ6 H6 _ I6 q6) fun f s7 q7 => ?_)
    have again : ∀ {σ7 : St} {H7 : Hp}, Inv X (pins ++ pinsAt fp s5.heap) σ7 H7 s7 → N σ7 H7 → ∃ m, m < n ∧ ∃ i σ' H', Inv X pins σ' H' s7 ∧ tn i s7.heap ∧ (∀ b ∈ fp, H' b = none) ∧ W i m σ' H' := fun {σ7 H7} I7 n7 => by
      obtain ⟨m', hm, w7⟩ := hN σ7 H7 n7
      refine ⟨m', hm, i + 1, σ7, H7, I7.unpinned, T.keep _ _ _ st5 fun b hb o e => (I7.pin (b, o) (List.mem_append_right _ (List.mem_append_right _ (mem_pinsAt hb e)))).1, fun b hb => ?_, w7⟩
      obtain ⟨o, e, d⟩ := T.obj _ _ st5 b hb
      exact (I7.pin (b, o) (List.mem_append_right _ (List.mem_append_right _ (mem_pinsAt hb e)))).2.1
    cases f with
    | next => obtain ⟨σ7, H7, I7, n7⟩ := q7; exact again I7 n7
    | cont => obtain ⟨σ7, H7, I7, n7⟩ := q7; exact again I7 n7
    | brk => obtain ⟨σ7, H7, I7, q7⟩ := q7; exact ⟨σ7, H7, I7.unpinned, q7⟩
    | ret v => obtain ⟨x7, σ7, H7, I7, r7, q7⟩ := q7; exact ⟨x7, σ7, H7, I7.unpinned, r7, q7⟩
end

/-! ### the forms one uses -/
/-- over a list that the body leaves as it is -/
theorem for_list {K : PySem.W.Frag} {a : Addr} {xs : List V} {g : TG} {tb : TS} {D : Ends} {σ : St} {H : Hp} (Pv : Nat → St → Hp → Prop) (h0 : Pv 0 σ H) (hl : ∀ i σ H, i ≤ xs.length → Pv i σ H → SqL K H a xs)
    (hs : ∀ i x σ H, xs[i]? = some x → Pv i σ H → g x σ H fun σ2 H2 => tb { D with nx := Pv (i + 1), ct := Pv (i + 1), bk := D.nx } σ2 H2) (hd : ∀ σ H, Pv xs.length σ H → D.nx σ H) :
    ∃ W : Nat → Nat → St → Hp → Prop, (∃ m, W 0 m σ H) ∧ ∀ i m σ H, W i m σ H →
      ((Itl K a).stop i H ∧ D.nx σ H) ∨ ((Itl K a).go i H ∧ ∃ N : St → Hp → Prop, (∀ σ' H', N σ' H' → ∃ m', m' < m ∧ W (i + 1) m' σ' H') ∧ ∀ x H', (Itl K a).yld i H x H' → g x σ H' fun σ2 H2 => tb { D with nx := N, ct := N, bk := D.nx } σ2 H2) := by
  refine ⟨fun i m σ H => m = xs.length - i ∧ i ≤ xs.length ∧ Pv i σ H, ⟨xs.length, by simp, Nat.zero_le _, h0⟩, ?_⟩
  rintro i m σ H ⟨rfl, hi, p⟩
  have q := hl i σ H hi p
  by_cases hlt : i < xs.length
  · refine .inr ⟨⟨xs, xs[i], q, by simp [hlt]⟩, Pv (i + 1), fun σ' H' p' => ⟨xs.length - (i + 1), by omega, rfl, hlt, p'⟩, fun x H' y => ?_⟩
    obtain ⟨e, y⟩ := y
    subst e
    exact hs i x σ _ (y xs q) p
  · have e : i = xs.length := by omega
    subst e
    exact .inl ⟨⟨xs, q, Nat.le_refl _⟩, hd σ H p⟩
theorem for_tup {K : PySem.W.Frag} {a : Addr} {xs : List V} {g : TG} {tb : TS} {D : Ends} {σ : St} {H : Hp} (Pv : Nat → St → Hp → Prop) (h0 : Pv 0 σ H) (hl : ∀ i σ H, i ≤ xs.length → Pv i σ H → SqT K H a xs)
    (hs : ∀ i x σ H, xs[i]? = some x → Pv i σ H → g x σ H fun σ2 H2 => tb { D with nx := Pv (i + 1), ct := Pv (i + 1), bk := D.nx } σ2 H2) (hd : ∀ σ H, Pv xs.length σ H → D.nx σ H) :
    ∃ W : Nat → Nat → St → Hp → Prop, (∃ m, W 0 m σ H) ∧ ∀ i m σ H, W i m σ H →
      ((Itt K a).stop i H ∧ D.nx σ H) ∨ ((Itt K a).go i H ∧ ∃ N : St → Hp → Prop, (∀ σ' H', N σ' H' → ∃ m', m' < m ∧ W (i + 1) m' σ' H') ∧ ∀ x H', (Itt K a).yld i H x H' → g x σ H' fun σ2 H2 => tb { D with nx := N, ct := N, bk := D.nx } σ2 H2) := by
  refine ⟨fun i m σ H => m = xs.length - i ∧ i ≤ xs.length ∧ Pv i σ H, ⟨xs.length, by simp, Nat.zero_le _, h0⟩, ?_⟩
  rintro i m σ H ⟨rfl, hi, p⟩
  have q := hl i σ H hi p
  by_cases hlt : i < xs.length
  · refine .inr ⟨⟨xs, xs[i], q, by simp [hlt]⟩, Pv (i + 1), fun σ' H' p' => ⟨xs.length - (i + 1), by omega, rfl, hlt, p'⟩, fun x H' y => ?_⟩
    obtain ⟨e, y⟩ := y
    subst e
    exact hs i x σ _ (y xs q) p
  · have e : i = xs.length := by omega
    subst e
    exact .inl ⟨⟨xs, q, Nat.le_refl _⟩, hd σ H p⟩
theorem for_range {lo : Int} {n : Nat} {g : TG} {tb : TS} {D : Ends} {σ : St} {H : Hp} (Pv : Nat → St → Hp → Prop) (h0 : Pv 0 σ H)
    (hs : ∀ i σ H, i < n → Pv i σ H → g (.int (lo + i)) σ H fun σ2 H2 => tb { D with nx := Pv (i + 1), ct := Pv (i + 1), bk := D.nx } σ2 H2) (hd : ∀ σ H, Pv n σ H → D.nx σ H) :
    ∃ W : Nat → Nat → St → Hp → Prop, (∃ m, W 0 m σ H) ∧ ∀ i m σ H, W i m σ H →
      ((Itr lo n).stop i H ∧ D.nx σ H) ∨ ((Itr lo n).go i H ∧ ∃ N : St → Hp → Prop, (∀ σ' H', N σ' H' → ∃ m', m' < m ∧ W (i + 1) m' σ' H') ∧ ∀ x H', (Itr lo n).yld i H x H' → g x σ H' fun σ2 H2 => tb { D with nx := N, ct := N, bk := D.nx } σ2 H2) := by
  refine ⟨fun i m σ H => m = n - i ∧ i ≤ n ∧ Pv i σ H, ⟨n, by simp, Nat.zero_le _, h0⟩, ?_⟩
  rintro i m σ H ⟨rfl, hi, p⟩
  by_cases hlt : i < n
  · refine .inr ⟨hlt, Pv (i + 1), fun σ' H' p' => ⟨n - (i + 1), by omega, rfl, hlt, p'⟩, fun x H' y => ?_⟩
    obtain ⟨e, y⟩ := y
    subst e y
    exact hs i σ _ hlt p
  · have e : i = n := by omega
    subst e
    exact .inl ⟨Nat.le_refl _, hd σ H p⟩
end L2

namespace L2
open PySem PySem.Spec PyProof.Rows

abbrev R2 := V → V → Hp → VK → Prop
/-- a two-place operation on values: f is binaryOp op, inplaceOp op or compareOp op -/
def OpR (X : Cx) (f : Value → Value → Sem Value) (r : R2) : Prop :=
  ∀ (pins : List (Addr × Obj)) (s : Shared) (σ : St) (H : Hp) (x y : V) (v u : Value) (Q : VK), Inv X pins σ H s → RelV x v → RelV y u → r x y H Q →
    wpAny (model X.prog X.w) X.A (f v u) (EP X pins σ Q) X.xe s
/-- a call of a value that is known (a builtin, a type) with values -/
def CallR (X : Cx) (f : Value) (r : List V → Hp → VK → Prop) : Prop :=
  ∀ (pins : List (Addr × Obj)) (s : Shared) (σ : St) (H : Hp) (xs : List V) (us : List Value) (Q : VK), Inv X pins σ H s → Vals xs us → r xs H Q →
    wpAny (model X.prog X.w) X.A (call f us) (EP X pins σ Q) X.xe s
/-- a value's truth -/
def TruR (X : Cx) (r : V → Hp → (Bool → Hp → Prop) → Prop) : Prop :=
  ∀ (pins : List (Addr × Obj)) (s : Shared) (σ : St) (H : Hp) (x : V) (v : Value) (Q : Bool → Hp → Prop), Inv X pins σ H s → RelV x v → r x H Q →
    wpAny (model X.prog X.w) X.A (truthy v) (TP X pins σ Q) X.xe s

def tOp (r : R2) (ta tb : TE) : TE := fun σ H Q => ta σ H fun x H1 => tb σ H1 fun y H2 => r x y H2 Q
/-- ints in, under C, and a value out -/
def rI (C : Int → Int → Prop) (g : Int → Int → V) : R2 := fun x y H Q => ∃ i j, x = .int i ∧ y = .int j ∧ C i j ∧ Q (g i j) H
def rI0 (g : Int → Int → V) : R2 := fun x y H Q => ∃ i j, x = .int i ∧ y = .int j ∧ Q (g i j) H

section
variable {X : Cx} {a b c : Expr} {ta tb tc : TE} {pos : Pos}

theorem binT (ha : PE X a ta) (hb : PE X b tb) {pins : List (Addr × Obj)} {s : Shared} {σ : St} {H : Hp} {R : V → V → Hp → Prop} (I : Inv X pins σ H s)
    (h : ta σ H fun x H1 => tb σ H1 fun y H2 => R x y H2) {Q : Value → Shared → Prop} {f : Value → Value → Sem Value}
    (hf : ∀ v u s2 x y H2, Inv X pins σ H2 s2 → RelV x v → RelV y u → R x y H2 → wpAny (model X.prog X.w) X.A (f v u) Q X.xe s2) :
    wpAny (model X.prog X.w) X.A (eval a X.env) (fun v s₁ => wpAny (model X.prog X.w) X.A (eval b X.env) (fun u s₂ => wpAny (model X.prog X.w) X.A (f v u) Q X.xe s₂) X.xe s₁) X.xe s := by
  refine thn (ha pins s σ H _ I h) fun v s1 ⟨x, H1, I1, r1, q1⟩ => ?_
  refine thn (hb pins s1 σ H1 _ I1 q1) fun u s2 ⟨y, H2, I2, r2, q2⟩ => ?_
  exact hf v u s2 x y H2 I2 r1 r2 q2

theorem pe_op {op : Operator} {r : R2} (ho : OpR X (binaryOp op) r) (ha : PE X a ta) (hb : PE X b tb) : PE X (.BinOp a op b pos) (tOp r ta tb) := by
  intro pins s σ H Q I h
  exact wpAny_BinOp (binT ha hb I h fun v u s2 x y H2 I2 rx ry q => ho pins s2 σ H2 x y v u Q I2 rx ry q)

/-! ### ints -/
theorem opI {f : Value → Value → Sem Value} {C : Int → Int → Prop} {g : Int → Int → Int}
    (rule : ∀ (i j : Int) (t u : Tok) (s : Shared) (Q : Value → Shared → Prop) (E : Value → Shared → Prop), C i j → Q (.int (g i j) s.toks) { s with toks := s.toks + 1 } → wpAny (model X.prog X.w) X.A (f (.int i t) (.int j u)) Q E s) :
    OpR X f (rI C fun i j => .int (g i j)) := by
  intro pins s σ H x y v u Q I rx ry h
  obtain ⟨i, j, rfl, rfl, hc, q⟩ := h
  obtain ⟨t, rfl⟩ := rx
  obtain ⟨t', rfl⟩ := ry
  exact rule i j t t' s _ _ hc ⟨.int (g i j), H, I.tok _, ⟨_, rfl⟩, q⟩
theorem opI0 {f : Value → Value → Sem Value} {g : Int → Int → Int}
    (rule : ∀ (i j : Int) (t u : Tok) (s : Shared) (Q : Value → Shared → Prop) (E : Value → Shared → Prop), Q (.int (g i j) s.toks) { s with toks := s.toks + 1 } → wpAny (model X.prog X.w) X.A (f (.int i t) (.int j u)) Q E s) :
    OpR X f (rI0 fun i j => .int (g i j)) := by
  intro pins s σ H x y v u Q I rx ry h
  obtain ⟨i, j, rfl, rfl, q⟩ := h
  obtain ⟨t, rfl⟩ := rx
  obtain ⟨t', rfl⟩ := ry
  exact rule i j t t' s _ _ ⟨.int (g i j), H, I.tok _, ⟨_, rfl⟩, q⟩
theorem opB0 {f : Value → Value → Sem Value} {g : Int → Int → Bool}
    (rule : ∀ (i j : Int) (t u : Tok) (s : Shared) (Q : Value → Shared → Prop) (E : Value → Shared → Prop), Q (.bool (g i j)) s → wpAny (model X.prog X.w) X.A (f (.int i t) (.int j u)) Q E s) :
    OpR X f (rI0 fun i j => .bl (g i j)) := by
  intro pins s σ H x y v u Q I rx ry h
  obtain ⟨i, j, rfl, rfl, q⟩ := h
  obtain ⟨t, rfl⟩ := rx
  obtain ⟨t', rfl⟩ := ry
  exact rule i j t t' s _ _ ⟨.bl (g i j), H, I, rfl, q⟩

def CDiv (i j : Int) : Prop := 0 < j ∧ j < 1073741824
def CPow (i j : Int) : Prop := 0 ≤ j ∧ j ≤ 1000000 ∧ i.natAbs < 2 ^ 64
def CMul (i j : Int) : Prop := (-(2 ^ 64) < i ∧ i < 2 ^ 64) ∨ (-(2 ^ 64) < j ∧ j < 2 ^ 64)
theorem CMul.ok {i j : Int} (h : CMul i j) : IntMulOk i j := by
  rcases h with ⟨h1, h2⟩ | ⟨h1, h2⟩
  · exact .of_left (intBits_le_64 h1 h2)
  · exact .of_right (intBits_le_64 h1 h2)

theorem op_add : OpR X (binaryOp .Add) (rI0 fun i j => .int (i + j)) := opI0 fun _ _ _ _ _ _ _ q => add_int q
theorem op_sub : OpR X (binaryOp .Sub) (rI0 fun i j => .int (i - j)) := opI0 fun _ _ _ _ _ _ _ q => sub_int q
theorem op_mul : OpR X (binaryOp .Mult) (rI CMul fun i j => .int (i * j)) := opI fun _ _ _ _ _ _ _ hc q => mul_int q hc.ok
/-- // by a positive divisor -/
theorem op_fdiv : OpR X (binaryOp .FloorDiv) (rI CDiv fun i j => .int (i / j)) := opI fun i j _ _ _ _ _ hc q => by
  have h1 : (0 : Int) < j := hc.1
  have h2 : j < 1073741824 := hc.2
  exact floordiv_int (by omega) (by rw [Int.fdiv_eq_ediv_of_nonneg i (by omega)]; exact q) (.inl (PyProof.noPylong_small (by omega)))
/-- % by a positive divisor of any size -/
theorem op_mod : OpR X (binaryOp .Mod) (rI (fun _ j => 0 < j) fun i j => .int (i % j)) := opI fun i j _ _ _ _ _ hc q => by
  have h1 : (0 : Int) < j := hc
  exact mod_int' (by omega) (by rw [Int.fmod_eq_emod_of_nonneg i (by omega)]; exact q)
theorem op_pow : OpR X (binaryOp .Pow) (rI CPow fun i j => .int (i ^ j.toNat)) := opI fun _ _ _ _ _ _ _ hc q => pow_int_small hc.1 hc.2.1 hc.2.2 q



/-! ### bools among ints: n += (a < b) -/
end

/-! ### comparisons -/
/-- the scalars that == tells apart as data does -/
def scal : V → V → Bool
  | .non, .non => true | .non, .int _ => true | .int _, .non => true | .non, .bl _ => true | .bl _, .non => true | .non, .str _ => true | .str _, .non => true
  | .int _, .int _ => true | .bl _, .bl _ => true | .str _, .str _ => true | .byt _, .byt _ => true
  | .int _, .str _ => true | .str _, .int _ => true | .bl _, .str _ => true | .str _, .bl _ => true
  | _, _ => false
def rEq : R2 := fun x y H Q => scal x y = true ∧ Q (.bl (decide (x = y))) H
def rNe : R2 := fun x y H Q => scal x y = true ∧ Q (.bl (!decide (x = y))) H

theorem dec_int {i j : Int} : decide (V.int i = V.int j) = (i == j) := by
  rw [Bool.eq_iff_iff]
  simp
theorem dec_bl {i j : Bool} : decide (V.bl i = V.bl j) = (i == j) := by
  rw [Bool.eq_iff_iff]
  simp
theorem dec_str {i j : Str} : decide (V.str i = V.str j) = (i == j) := by
  rw [Bool.eq_iff_iff]
  simp
theorem dec_byt {i j : Array UInt8} : decide (V.byt i = V.byt j) = (i.toList == j.toList) := by
  rw [Bool.eq_iff_iff]
  cases i
  cases j
  simp

section
variable {X : Cx} {a b c : Expr} {ta tb tc : TE} {pos : Pos}
theorem fin_bl {pins : List (Addr × Obj)} {σ : St} {H : Hp} {s : Shared} {Q : VK} {k k' : Bool} (I : Inv X pins σ H s) (q : Q (.bl k) H) (e : k = k') : EP X pins σ Q (.bool k') s := by
  subst e
  exact ⟨.bl k, H, I, rfl, q⟩
theorem op_eq : OpR X (compareOp .Eq) rEq := by
  intro pins s σ H x y v u Q I rx ry h
  obtain ⟨hs, q⟩ := h
  cases x with
  | non =>
    cases rx
    cases y with
    | non => cases ry; exact PySem.EqNone.eq_none_none (fin_bl I q (by simp))
    | bl j => cases ry; exact PySem.EqNone.eq_none_bool (fin_bl I q (by simp))
    | int j => obtain ⟨t', rfl⟩ := ry; exact PySem.EqNone.eq_none_int (fin_bl I q (by simp))
    | str j => obtain ⟨t', rfl⟩ := ry; exact PySem.EqNone.eq_none_str (fin_bl I q (by simp))
    | _ => exact absurd (show false = true from hs) Bool.false_ne_true
  | bl i =>
    cases rx
    cases y with
    | non => cases ry; exact PySem.EqNone.eq_bool_none (fin_bl I q (by simp))
    | bl j => cases ry; exact eq_bool (fin_bl I q dec_bl)
    | str j => obtain ⟨t', rfl⟩ := ry; exact PySem.EqMixed.eq_bool_str (fin_bl I q (by simp))
    | _ => exact absurd (show false = true from hs) Bool.false_ne_true
  | int i =>
    obtain ⟨t, rfl⟩ := rx
    cases y with
    | non => cases ry; exact PySem.EqNone.eq_int_none (fin_bl I q (by simp))
    | int j => obtain ⟨t', rfl⟩ := ry; exact eq_int (fin_bl I q dec_int)
    | str j => obtain ⟨t', rfl⟩ := ry; exact PySem.EqMixed.eq_int_str (fin_bl I q (by simp))
    | _ => exact absurd (show false = true from hs) Bool.false_ne_true
  | str i =>
    obtain ⟨t, rfl⟩ := rx
    cases y with
    | non => cases ry; exact PySem.EqNone.eq_str_none (fin_bl I q (by simp))
    | bl j => cases ry; exact PySem.EqMixed.eq_str_bool (fin_bl I q (by simp))
    | int j => obtain ⟨t', rfl⟩ := ry; exact PySem.EqMixed.eq_str_int (fin_bl I q (by simp))
    | str j => obtain ⟨t', rfl⟩ := ry; exact eq_str (fin_bl I q dec_str)
    | _ => exact absurd (show false = true from hs) Bool.false_ne_true
  | byt i =>
    obtain ⟨t, rfl⟩ := rx
    cases y with
    | byt j => obtain ⟨t', rfl⟩ := ry; exact PySem.W.eq_bytes (fin_bl I q dec_byt)
    | _ => exact absurd (show false = true from hs) Bool.false_ne_true
  | _ => cases y <;> exact absurd (show false = true from hs) Bool.false_ne_true
theorem op_ne : OpR X (compareOp .NotEq) rNe := by
  intro pins s σ H x y v u Q I rx ry h
  obtain ⟨hs, q⟩ := h
  cases x with
  | non =>
    cases rx
    cases y with
    | non => cases ry; exact PySem.EqNone.ne_none_none (fin_bl I q (by simp))
    | bl j => cases ry; exact PySem.EqNone.ne_none_bool (fin_bl I q (by simp))
    | int j => obtain ⟨t', rfl⟩ := ry; exact PySem.EqNone.ne_none_int (fin_bl I q (by simp))
    | str j => obtain ⟨t', rfl⟩ := ry; exact PySem.EqNone.ne_none_str (fin_bl I q (by simp))
    | _ => exact absurd (show false = true from hs) Bool.false_ne_true
  | bl i =>
    cases rx
    cases y with
    | non => cases ry; exact PySem.EqNone.ne_bool_none (fin_bl I q (by simp))
    | bl j => cases ry; exact ne_bool (fin_bl I q (congrArg not dec_bl))
    | str j => obtain ⟨t', rfl⟩ := ry; exact PySem.EqMixed.ne_bool_str (fin_bl I q (by simp))
    | _ => exact absurd (show false = true from hs) Bool.false_ne_true
  | int i =>
    obtain ⟨t, rfl⟩ := rx
    cases y with
    | non => cases ry; exact PySem.EqNone.ne_int_none (fin_bl I q (by simp))
    | int j => obtain ⟨t', rfl⟩ := ry; exact ne_int (fin_bl I q (congrArg not dec_int))
    | str j => obtain ⟨t', rfl⟩ := ry; exact PySem.EqMixed.ne_int_str (fin_bl I q (by simp))
    | _ => exact absurd (show false = true from hs) Bool.false_ne_true
  | str i =>
    obtain ⟨t, rfl⟩ := rx
    cases y with
    | non => cases ry; exact PySem.EqNone.ne_str_none (fin_bl I q (by simp))
    | bl j => cases ry; exact PySem.EqMixed.ne_str_bool (fin_bl I q (by simp))
    | int j => obtain ⟨t', rfl⟩ := ry; exact PySem.EqMixed.ne_str_int (fin_bl I q (by simp))
    | str j => obtain ⟨t', rfl⟩ := ry; exact ne_str (fin_bl I q (congrArg not dec_str))
    | _ => exact absurd (show false = true from hs) Bool.false_ne_true
  | byt i =>
    obtain ⟨t, rfl⟩ := rx
    cases y with
    | byt j => obtain ⟨t', rfl⟩ := ry; exact PySem.W.ne_bytes (fin_bl I q (congrArg not dec_byt))
    | _ => exact absurd (show false = true from hs) Bool.false_ne_true
  | _ => cases y <;> exact absurd (show false = true from hs) Bool.false_ne_true

theorem op_lt : OpR X (compareOp .Lt) (rI0 fun i j => .bl (decide (i < j))) := opB0 fun _ _ _ _ _ _ _ q => lt_int q
theorem op_gt : OpR X (compareOp .Gt) (rI0 fun i j => .bl (decide (j < i))) := opB0 fun _ _ _ _ _ _ _ q => gt_int q

/-- is None, is not None: the right side a value none -/
theorem op_isN : OpR X (compareOp .Is) (fun x y H Q => y = .non ∧ Q (.bl (decide (x = .non))) H) := by
  intro pins s σ H x y v u Q I rx ry h
  obtain ⟨rfl, q⟩ := h
  cases ry
  refine is_none_gen (fin_bl I q ?_)
  cases x <;> first
    | (cases rx; rfl)
    | (obtain ⟨t, rfl⟩ := rx; rfl)



theorem nomark (b : Expr) {op : CmpOp} (h : op ≠ .In := by decide) (h2 : op ≠ .NotIn := by decide) : behindInMarks op b = false := by
  have e1 : (op == CmpOp.In) = false := by cases op <;> first | rfl | exact absurd rfl h
  have e2 : (op == CmpOp.NotIn) = false := by cases op <;> first | rfl | exact absurd rfl h2
  cases b <;> simp [behindInMarks, e1, e2]
/-- a comparison as a value; hm: nomark b, or (for in, not in) by with_unfolding_all rfl -/
theorem pe_cmpR {op : CmpOp} {r : R2} (ho : OpR X (compareOp op) r) (ha : PE X a ta) (hb : PE X b tb) (hm : behindInMarks op b = false) : PE X (.Compare a [op] [b] pos) (tOp r ta tb) := by
  intro pins s σ H Q I h
  exact wpAny_Compare1 (binT ha hb I h fun v u s2 x y H2 I2 rx ry q => ho pins s2 σ H2 x y v u Q I2 rx ry q) hm
/-- a reading of a value as a test -/
def tTest (t : TE) : TT := fun σ H Q => t σ H fun x H' => ∃ k, x = .bl k ∧ Q k H'
theorem pt_cmpR {op : CmpOp} {r : R2} (ho : OpR X (compareOp op) r) (ha : PE X a ta) (hb : PE X b tb) (hm : behindInMarks op b = false) : PT X (.Compare a [op] [b] pos) (tTest (tOp r ta tb)) := by
  intro pins s σ H Q I h
  refine wpAny_isTrue_Compare1 (thn (ha pins s σ H _ I h) fun v s1 ⟨x, H1, I1, r1, q1⟩ => thn (hb pins s1 σ H1 _ I1 q1) fun u s2 ⟨y, H2, I2, r2, q2⟩ =>
    thn (ho pins s2 σ H2 x y v u _ I2 r1 r2 q2) fun c s3 ⟨z, H3, I3, r3, k, e, q3⟩ => ?_) hm
  subst e
  cases r3
  exact wpAny_truthy_bool ⟨H3, I3, q3⟩

/-! ### truth -/
/-- a value's truth by the abstract heap -/
def TruV (K : PySem.W.Frag) (x : V) (H : Hp) (k : Bool) : Prop :=
  match x with
  | .non => k = false
  | .bl b => k = b
  | .int i => k = (i != 0)
  | .str y => y.length ≤ sizeLine ∧ k = ((y.length : Int) != 0)
  | .byt y => y.size ≤ sizeLine ∧ k = ((y.size : Int) != 0)
  | .ref p => (∃ xs, SqL K H p xs ∧ k = !xs.isEmpty) ∨ (∃ xs, SqT K H p xs ∧ k = !xs.isEmpty) ∨ ∃ kvs, H p = some (.dK kvs) ∧ k = !kvs.isEmpty
  | _ => False
theorem isEmpty_kv {κ : Type} {kvs : List (κ × V)} {vs : List (κ × Value)} (r : KV kvs vs) : (!vs.isEmpty) = !kvs.isEmpty := by
  cases r <;> rfl
theorem isEmpty_of {xs : List V} {its : List Value} (r : Vals xs its) : (!its.toArray.isEmpty) = !xs.isEmpty := by
  cases r <;> simp
theorem line63 : (sizeLine : Nat) < 2 ^ 63 := by rw [sizeLine_eq]; decide
theorem tru_ok : TruR X (fun x H Q => ∃ k, TruV X.K x H k ∧ Q k H) := by
  intro pins s σ H x v Q I rx h
  obtain ⟨k, e, q⟩ := h
  have hl := line63
  have hs : sizeLine = 16777216 := sizeLine_eq
  cases x with
  | non =>
    cases rx
    have e' : k = false := e
    subst e'
    exact truthy_none ⟨H, I, q⟩
  | bl b =>
    cases rx
    have e' : k = b := e
    subst e'
    exact wpAny_truthy_bool ⟨H, I, q⟩
  | int i =>
    obtain ⟨t, rfl⟩ := rx
    have e' : k = (i != 0) := e
    subst e'
    exact PySem.P.truthy_int ⟨H, I, q⟩
  | str y =>
    obtain ⟨t, rfl⟩ := rx
    obtain ⟨hy, e'⟩ : y.length ≤ sizeLine ∧ k = ((y.length : Int) != 0) := e
    subst e'
    exact PySem.P.truthy_str (by omega) ⟨H, I.tok _, q⟩
  | byt y =>
    obtain ⟨t, rfl⟩ := rx
    obtain ⟨hy, e'⟩ : y.size ≤ sizeLine ∧ k = ((y.size : Int) != 0) := e
    subst e'
    exact PySem.W.truthy_bytes (by omega) ⟨H, I.tok _, q⟩
  | ref p =>
    cases rx
    have e' : (∃ xs, SqL X.K H p xs ∧ k = !xs.isEmpty) ∨ (∃ xs, SqT X.K H p xs ∧ k = !xs.isEmpty) ∨ ∃ kvs, H p = some (.dK kvs) ∧ k = !kvs.isEmpty := e
    rcases e' with ⟨xs, hx, e'⟩ | ⟨xs, hx, e'⟩ | ⟨kvs, hx, e'⟩
    · subst e'
      obtain ⟨its, r, pl, hz⟩ := I.list hx
      have hlen := r.length
      exact wpAny_truthy_list pl.isList (by simp only [List.size_toArray]; omega) ⟨H, I.tok _, by rw [isEmpty_of r]; exact q⟩
    · subst e'
      obtain ⟨its, r, pl, hz⟩ := I.tuple hx
      have hlen := r.length
      exact truthy_tuple pl (by simp only [List.size_toArray]; omega) ⟨H, I.tok _, by rw [isEmpty_of r]; exact q⟩
    · subst e'
      obtain ⟨hz, hS, vs, r, m⟩ : kvs.length ≤ sizeLine ∧ (p == sysModules) = false ∧ ∃ vs, KV kvs vs ∧ s.heap.DictOf (mixKind X.prog X.w) p vs := I.hok p _ hx
      have hlen : kvs.length = vs.length := Paired.length r
      exact wpAny_truthy_dict hS m (by omega) ⟨H, I.tok _, by rw [isEmpty_kv r]; exact q⟩
  | _ => exact (show False from e).elim
/-- any expression whose test is its value's truth (a name, a call, a subscript, a field ..: he by fun _ => rfl) -/
theorem pt_truth (ha : PE X a ta) (he : ∀ whole, isTrue a X.env whole = (do let v ← whole; standAt a.pos; holding [v] (truthy v))) :
    PT X a (fun σ H Q => ta σ H fun x H' => ∃ k, TruV X.K x H' k ∧ Q k H') := by
  intro pins s σ H Q I h
  exact isTrue_plain (thn (ha pins s σ H _ I h) fun v s1 ⟨x, H1, I1, r1, q1⟩ => tru_ok pins s1 σ H1 x v Q I1 r1 q1) (he _)

/-! ### strs and bytes -/
theorem op_add_str : OpR X (binaryOp .Add) (fun x y H Q => ∃ i j, x = .str i ∧ y = .str j ∧ i.length + j.length ≤ sizeLine ∧ Q (.str (i ++ j)) H) := by
  intro pins s σ H x y v u Q I rx ry h
  obtain ⟨i, j, rfl, rfl, hz, q⟩ := h
  obtain ⟨t, rfl⟩ := rx
  obtain ⟨t', rfl⟩ := ry
  exact add_str (fun t' tk => ⟨.str (i ++ j), H, I.tok _, ⟨_, rfl⟩, q⟩) hz


/-! ### scalar builtins, by CallR -/
theorem vals1 {x : V} {us : List Value} (r : Vals [x] us) : ∃ u, us = [u] ∧ RelV x u := by
  cases r with
  | cons r1 r2 => cases r2; exact ⟨_, rfl, r1⟩
theorem vals2 {x y : V} {us : List Value} (r : Vals [x, y] us) : ∃ u w', us = [u, w'] ∧ RelV x u ∧ RelV y w' := by
  cases r with
  | cons r1 r2 =>
    cases r2 with
    | cons r3 r4 => cases r4; exact ⟨_, _, rfl, r1, r3⟩
end
end L2

namespace L2
open PySem PySem.Spec PyProof.Rows

/-! ### an instance, its attributes a map -/
structure ObjM (h : Heap) (x dx C : Addr) (mA : Str → Option Value) : Prop where
  obj : h.get? x = some (PySem.W.instObj C dx)
  ns : h.Ns1 dx mA
  ne : dx ≠ x

theorem lookIn_ns {h : Heap} {dx : Addr} {mA : Str → Option Value} (n : h.Ns1 dx mA) : ∃ od, h.get? dx = some od ∧ ∀ name, PySem.W.lookIn name od = some (mA name) := by
  obtain ⟨o, es, ep, ho, hd, hk, _, hm⟩ := n
  refine ⟨o, ho, fun name => ?_⟩
  have e := hm name
  unfold nsFind findBy at e
  rw [← Array.find?_toList] at e
  unfold PySem.W.lookIn
  rw [hd]
  dsimp only
  split
  · rename_i y q
    rw [q] at e
    exact congrArg some e
  · rename_i q
    rw [q] at e
    have a : es.toList.any (·.refKey) = false := by
      rw [List.any_eq_false]
      intro y hy
      obtain ⟨z, t, hkey⟩ := hk y (Array.mem_toList_iff.mp hy)
      simp [DictEntry.refKey, hkey]
    have a' : ¬ es.toList.any (·.refKey) = true := by rw [a]; exact Bool.false_ne_true
    rw [if_neg a']
    exact congrArg some e

theorem ObjM.look {h : Heap} {x dx C : Addr} {mA : Str → Option Value} (I : ObjM h x dx C mA) : ∃ od, PySem.W.InstAt h x (PySem.W.instObj C dx) C (some od) ∧ ∀ name, PySem.W.lookIn name od = some (mA name) :=
  let ⟨od, ho, hl⟩ := lookIn_ns I.ns
  ⟨od, ⟨I.obj, rfl, rfl, ho⟩, hl⟩

section
variable {prog : Program} {w : World} {A : Around} {E : Value → Shared → Prop} {s : Shared} {K : PySem.W.Frag} {x dx C f : Addr} {mA : Str → Option Value} {name : Str} {v : Value}

theorem get_map {expr : Bool} {Q : Value → Shared → Prop} (X : K.In s.heap) (I : ObjM s.heap x dx C mA) (hg : PySem.W.plainGet K C name = true) (hh : PySem.W.hasDictIn K C = true)
    (ha : PySem.W.findIn K (.ref C) name = some none) (hv : mA name = some v) (hv' : PySem.W.handedIn v = true) (h : Q v { s with toks := s.toks + 1 }) :
    wpAny (model prog w) A (getAttr (.ref x) name expr) Q E s := by
  obtain ⟨od, J, hl⟩ := I.look
  exact PySem.W.get_value X J (PySem.W.plainGet_of hg).1 (PySem.W.findObj_own hh ha rfl (by rw [hl, hv])) hv' h


theorem get_meth {pl : Sem Bool} {Q : Value × List Value → Shared → Prop} (X : K.In s.heap) (I : ObjM s.heap x dx C mA) (hg : PySem.W.plainGet K C name = true)
    (hf : PySem.W.findIn K (.ref C) name = some (some (.ref f))) (ht : PySem.W.isFn K (.ref f) = true) (hv : mA name = none) (h : Q (.ref f, [.ref x]) s) :
    wpAny (model prog w) A (getMethod (.ref x) name pl) Q E s := by
  obtain ⟨od, J, hl⟩ := I.look
  exact PySem.W.method_fn X J (PySem.W.plainGet_of hg).1 (PySem.W.plainGet_of hg).2 hf (beq_iff_eq.mp ht) (by show (PySem.W.lookIn name od).map (·.isSome) = some false; rw [hl, hv]; rfl) h

theorem set_map {ns : List Str} {Q : Unit → Shared → Prop} (X : K.In s.heap) (I : ObjM s.heap x dx C mA)
    (hs : PySem.W.findIn K (.ref C) "__setattr__" = some (some (.builtin "object.__setattr__"))) (hp : PySem.W.plainOver K C = true) (ht : PySem.W.takerIn K C name = some none) (hh : PySem.W.hasDictIn K C = true)
    (hw : PySem.Within mA ns) (hsz : ns.length ≤ sizeLine)
    (h : ∀ h', ObjM h' x dx C (fun y => if y = name then some v else mA y) → Heap.SameBut dx s.heap h' → Q () { s with heap := h', toks := s.toks + 2 }) :
    wpAny (model prog w) A (setAttr (.ref x) name v) Q E s := by
  obtain ⟨od, J, hl⟩ := I.look
  refine PySem.W.set_plain X J hs (PySem.W.osa_open (s := { s with toks := s.toks + 1 }) (r := none) X J hp ht fun b => ?_)
  obtain ⟨cd, hc, hd'⟩ := PySem.W.any_some hh
  have hx : s.heap.get? x = some ⟨.ref C, some dx, .plain, #[]⟩ := I.obj
  refine wpAny_bind (wpAny_pure (wpAny_bind (wpAny_bind (wpAny_loadPart hx (wpAny_bind (PySem.W.Looks.here (s := { s with toks := s.toks + 1 }) (PySem.W.looks_clsIn X hc) ?_))))))
  rw [hd']
  refine wpAny_pure (a := some dx) (wpAny_bind (wpAny_pure (wpAny_bind ?_)))
  refine wpAny_nsSet1 (s := { s with toks := s.toks + 1 }) I.ns fun h' hn2 hs2 => ?_
  obtain ⟨oD, esD, epD, hoD, hdD, hcD⟩ := hn2.count (PySem.Within.cons name v hw)
  refine wpAny_bind (wpAny_lookBehind hoD (by rw [hdD]; exact pastItsLine_dict (Nat.le_trans hcD (by rw [List.length_cons]; omega))) ?_)
  exact wpAny_pure (h _ ⟨(hs2.2 _ (Ne.symm I.ne)).trans I.obj, hn2, I.ne⟩ hs2)

/-- C(..): the dict at the heap's end, the instance behind it; then its __init__ -/
theorem make_map {R : Result → Shared → Prop} {vs : List Value} {kw : List (Str × Value)} (X : K.In s.heap) (hm : PySem.W.makesIn K C = true)
    (hi : PySem.W.findIn K (.ref C) "__init__" = some (some (.ref f))) (hf : PySem.W.typeIn K (.ref f) = some (.type "function"))
    (h : codeAny (model prog w) (A.under (.builtin "type.__call__" ⟨.ref C :: vs, kw⟩)) (.call (.ref f) ⟨.ref (s.heap.objs.size + 1) :: vs, kw⟩) (PySem.W.InitBack (s.heap.objs.size + 1) R)
      { s with heap := (s.heap.push PySem.W.emptyDict).push (PySem.W.instObj C s.heap.objs.size) }) :
    codeAny (model prog w) A (.call (.ref C) ⟨vs, kw⟩) R s := by
  obtain ⟨hh, g, d, t, os⟩ := s
  exact PySem.W.make_core (PySem.W.makes_of X hm) (PySem.W.looks_findIn X hi) (fun self => PySem.W.bind_fn X self hf) (.inl rfl) h
end

/-! ### the attributes as a list of pairs -/
def putF (f : Str) (v : V) : List (Str × V) → List (Str × V)
  | [] => [(f, v)]
  | (g, x) :: r => if g = f then (g, v) :: r else (g, x) :: putF f v r
theorem lookup_putF (f g : Str) (v : V) : ∀ fs : List (Str × V), (putF f v fs).lookup g = if g = f then some v else fs.lookup g
  | [] => by
    show List.lookup g [(f, v)] = _
    by_cases h : g = f
    · have hb : (g == f) = true := beq_iff_eq.mpr h
      simp only [List.lookup, hb, if_pos h]
    · have hb : (g == f) = false := beq_eq_false_iff_ne.mpr h
      simp only [List.lookup, hb, if_neg h]
  | (k, x) :: r => by
    have ih := lookup_putF f g v r
    rw [show putF f v ((k, x) :: r) = (if k = f then (k, v) :: r else (k, x) :: putF f v r) from rfl]
    by_cases hk : k = f
    · rw [if_pos hk]
      by_cases h : g = k
      · have hb : (g == k) = true := beq_iff_eq.mpr h
        simp only [List.lookup, hb, if_pos (h.trans hk)]
      · have hb : (g == k) = false := beq_eq_false_iff_ne.mpr h
        simp only [List.lookup, hb, if_neg (fun e : g = f => h (e.trans hk.symm))]
    · rw [if_neg hk]
      by_cases h : g = k
      · have hb : (g == k) = true := beq_iff_eq.mpr h
        simp only [List.lookup, hb, if_neg (fun e : g = f => hk (h.symm.trans e))]
      · have hb : (g == k) = false := beq_eq_false_iff_ne.mpr h
        simp only [List.lookup, hb]
        exact ih
theorem keys_putF (f : Str) (v : V) : ∀ fs : List (Str × V), f ∈ (putF f v fs).map (·.1) ∧ ∀ g, g ∈ fs.map (·.1) → g ∈ (putF f v fs).map (·.1)
  | [] => ⟨by simp [putF], fun g h => by simp at h⟩
  | (k, x) :: r => by
    obtain ⟨i1, i2⟩ := keys_putF f v r
    rw [show putF f v ((k, x) :: r) = (if k = f then (k, v) :: r else (k, x) :: putF f v r) from rfl]
    by_cases hk : k = f
    · rw [if_pos hk]
      subst hk
      exact ⟨by simp, fun g h => by simpa using h⟩
    · rw [if_neg hk]
      refine ⟨?_, fun g h => ?_⟩
      · rw [List.map_cons]
        exact List.mem_cons_of_mem _ i1
      · rw [List.map_cons] at h ⊢
        rcases List.mem_cons.mp h with e | e
        · exact List.mem_cons.mpr (.inl e)
        · exact List.mem_cons_of_mem _ (i2 g e)
theorem length_putF (f : Str) (v : V) : ∀ fs : List (Str × V), (putF f v fs).length ≤ fs.length + 1
  | [] => by simp [putF]
  | (k, x) :: r => by
    have ih := length_putF f v r
    rw [show putF f v ((k, x) :: r) = (if k = f then (k, v) :: r else (k, x) :: putF f v r) from rfl]
    by_cases hk : k = f
    · rw [if_pos hk, List.length_cons, List.length_cons]; omega
    · rw [if_neg hk, List.length_cons, List.length_cons]; omega

theorem RelO.some_of {v : V} {o : Option Value} (r : RelO (some v) o) : ∃ u, o = some u ∧ RelV v u := by
  cases o with
  | none => exact (show False from r).elim
  | some u => exact ⟨u, rfl, r⟩
theorem RelO.none_of {o : Option Value} (r : RelO none o) : o = none := by
  cases o with
  | none => rfl
  | some u => exact (show False from r).elim
theorem handed_of {v : V} {u : Value} (r : RelV v u) : PySem.W.handedIn u = true := by
  cases v with
  | non => cases (show u = Value.none from r); rfl
  | bl b => cases (show u = Value.bool b from r); rfl
  | int i => obtain ⟨t, e⟩ := (show ∃ t, u = Value.int i t from r); cases e; rfl
  | str x => obtain ⟨t, e⟩ := (show ∃ t, u = Value.str x t from r); cases e; rfl
  | byt b => obtain ⟨t, e⟩ := (show ∃ t, u = Value.bytes b t from r); cases e; rfl
  | flt b => obtain ⟨t, e⟩ := (show ∃ t, u = Value.float b t from r); cases e; rfl
  | ref a => cases (show u = Value.ref a from r); rfl
  | ty n => cases (show u = Value.type n from r); rfl

section
variable {P : Program} {w : World} {H H' : Hp} {h h' : Heap} {a C dx : Addr} {fs fs' : List (Str × V)}
theorem ins_get (hok : HOk P w H h) (e : H a = some (.ins C dx fs)) : ∃ mA, ObjM h a dx C mA ∧ (∀ f, RelO (fs.lookup f) (mA f)) ∧ PySem.Within mA (fs.map (·.1)) ∧ fs.length ≤ 1000 ∧ H dx = some (.own a) := by
  obtain ⟨d, z, ne, ob, mA, n, r, q⟩ := (show ObjOk P w H h a (.ins C dx fs) from hok a _ e)
  exact ⟨mA, ⟨ob, n, ne⟩, r, q, z, d⟩
end

/-! ### what of the text a class must have -/
structure Cls (K : PySem.W.Frag) (C : Addr) : Prop where
  pg : PySem.W.plainGet K C Str.empty = true
  hd : PySem.W.hasDictIn K C = true
  po : PySem.W.plainOver K C = true
  sa : PySem.W.findIn K (.ref C) "__setattr__" = some (some (.builtin "object.__setattr__"))
theorem Cls.get {K : PySem.W.Frag} {C : Addr} (c : Cls K C) (f : Str) : PySem.W.plainGet K C f = true := c.pg
/-- no class of it has the name -/
def NoAttr (K : PySem.W.Frag) (C : Addr) (f : Str) : Prop := PySem.W.findIn K (.ref C) f = some none
theorem NoAttr.taker {K : PySem.W.Frag} {C : Addr} {f : Str} (n : NoAttr K C f) : PySem.W.takerIn K C f = some none := by
  unfold PySem.W.takerIn
  rw [show PySem.W.findIn K (.ref C) f = some none from n]
  rfl
/-- a constant of the class -/
structure Con (K : PySem.W.Frag) (C : Addr) (f : Str) (v : V) (u : Value) : Prop where
  at_ : PySem.W.findIn K (.ref C) f = some (some u)
  rel : RelV v u
  get : PySem.W.specialIn K u "__get__" = some none
  cp : PySem.W.copiedNames.contains f = false
/-- a method: a plain def of the class or of one above it -/
structure Meth (K : PySem.W.Frag) (C : Addr) (m : Str) (f : Addr) : Prop where
  at_ : PySem.W.findIn K (.ref C) m = some (some (.ref f))
  fn : PySem.W.isFn K (.ref f) = true
  kp : PySem.W.keepIn K (.ref f) = true

section
variable {X : Cx} {pins : List (Addr × Obj)} {σ : St} {H : Hp} {s : Shared} {a C dx : Addr} {fs : List (Str × V)} {f : Str} {v : V} {A : Around} {E : Value → Shared → Prop}

theorem getattr_ok {b : Bool} {Q : Value → Shared → Prop} (I : Inv X pins σ H s) (e : H a = some (.ins C dx fs)) (c : Cls X.K C) (n : NoAttr X.K C f) (l : fs.lookup f = some v)
    (h : ∀ u s', Inv X pins σ H s' → RelV v u → Q u s') : wpAny (model X.prog X.w) A (getAttr (.ref a) f b) Q E s := by
  obtain ⟨mA, O, r, _, _, _⟩ := ins_get I.hok e
  obtain ⟨u, hu, ru⟩ := RelO.some_of (v := v) (o := mA f) (by rw [← l]; exact r f)
  exact get_map I.kIn O (c.get f) c.hd n hu (handed_of ru) (h u _ (I.tok _) ru)


theorem getmeth_ok {m : Str} {g : Addr} {pl : Sem Bool} {Q : Value × List Value → Shared → Prop} (I : Inv X pins σ H s) (e : H a = some (.ins C dx fs)) (c : Cls X.K C) (k : Meth X.K C m g) (l : fs.lookup m = none)
    (h : Q (.ref g, [.ref a]) s) : wpAny (model X.prog X.w) A (getMethod (.ref a) m pl) Q E s := by
  obtain ⟨mA, O, r, _, _, _⟩ := ins_get I.hok e
  have hn : mA m = none := RelO.none_of (by rw [← l]; exact r m)
  exact get_meth I.kIn O (c.get m) k.at_ k.fn hn h

theorem setattr_ok {y : V} {u : Value} {Q : Unit → Shared → Prop} (I : Inv X pins σ H s) (e : H a = some (.ins C dx fs)) (c : Cls X.K C) (n : NoAttr X.K C f) (hl : fs.length < 1000) (ry : RelV y u)
    (h : ∀ s', Inv X pins σ (upd H a (.ins C dx (putF f y fs))) s' → Q () s') : wpAny (model X.prog X.w) A (setAttr (.ref a) f u) Q E s := by
  obtain ⟨mA, O, r, wi, _, ho⟩ := ins_get I.hok e
  have hz : (fs.map (·.1)).length ≤ sizeLine := by rw [List.length_map, sizeLine_eq]; omega
  refine set_map I.kIn O c.sa c.po n.taker c.hd wi hz fun h' O' sb => h _ ?_
  have hd : ∃ o, h'.get? dx = some o := let ⟨o, _, _, e', _⟩ := O'.ns; ⟨o, e'⟩
  refine I.write (x := a) (e := dx) (by rw [e]; exact True.intro) (.inr ho) (fun b q hb z => (sb.2 b hb).trans z) hd ?_
  refine ⟨by rw [upd_ne O.ne]; exact ho, ?_, O.ne, O'.obj, _, O'.ns, fun g => ?_, fun g hg => ?_⟩
  · have := length_putF f y fs; omega
  · show RelO ((putF f y fs).lookup g) (if g = f then some u else mA g)
    rw [lookup_putF]
    by_cases q : g = f
    · rw [if_pos q, if_pos q]; exact ry
    · rw [if_neg q, if_neg q]; exact r g
  · by_cases q : g = f
    · rw [q]; exact (keys_putF f y fs).1
    · refine (keys_putF f y fs).2 g (wi g fun z => hg ?_)
      show (if g = f then some u else mA g) = none
      rw [if_neg q]; exact z

/-- a new instance, tracked, without attributes -/
theorem Inv.made (I : Inv X pins σ H s) : Inv X pins σ (upd (upd H s.heap.objs.size (.own (s.heap.objs.size + 1))) (s.heap.objs.size + 1) (.ins C s.heap.objs.size []))
    { s with heap := (s.heap.push PySem.W.emptyDict).push (PySem.W.instObj C s.heap.objs.size) } := by
  have e1 : (s.heap.push PySem.W.emptyDict).get? s.heap.objs.size = some PySem.W.emptyDict := Heap.get?_push_size s.heap rfl
  have e2 : ((s.heap.push PySem.W.emptyDict).push (PySem.W.instObj C s.heap.objs.size)).get? (s.heap.objs.size + 1) = some (PySem.W.instObj C s.heap.objs.size) := by
    have := Heap.get?_push_size (s.heap.push PySem.W.emptyDict) (o := PySem.W.instObj C s.heap.objs.size) rfl
    rwa [Heap.size_push] at this
  have e3 : (s.heap.push PySem.W.emptyDict).Ns s.heap.objs.size (fun _ => none) := ⟨PySem.W.emptyDict, #[], _, e1, rfl, (fun e he => absurd he (by simp)), fun _ => rfl⟩
  have I1 := I.laid (a := s.heap.objs.size) (o := .own (s.heap.objs.size + 1)) (h' := s.heap.push PySem.W.emptyDict) (t' := s.toks) (fun b u q => Heap.get?_push_of_some _ q) (Nat.le_refl _) ⟨_, e1⟩
  refine I1.laid (a := s.heap.objs.size + 1) (o := .ins C s.heap.objs.size []) (t' := s.toks) (fun b u q => Heap.get?_push_of_some _ q) (Nat.le_of_eq (Heap.size_push _ _)) ?_
  have ne : s.heap.objs.size ≠ s.heap.objs.size + 1 := Nat.ne_of_lt (Nat.lt_succ_self _)
  refine ⟨by rw [upd_ne ne, upd_same], Nat.zero_le _, ne, e2, fun _ => none, (Heap.Ns1.of_empty e3).at fun o q => Heap.get?_push_of_some _ q, fun _ => True.intro, fun y hy => absurd rfl hy⟩

/-- e.f where nothing but the object is asked: through attributeBase (super) and the last hold -/
theorem attr_of {prog : Program} {w : World} {env : Env} {e : Expr} {f : Str} {pos : Pos} {s : Shared} {Q : Value → Shared → Prop} (hb : attributeBase e f env (eval e env) = eval e env)
    (h : wpAny (model prog w) A (eval e env) (fun o s₁ => wpAny (model prog w) A (getAttr o f true) Q E s₁) E s) : wpAny (model prog w) A (eval (.Attribute e f pos) env) Q E s :=
  Attribute_any_ h (by rw [arm_eval_Attribute, hb])
end

/-! ### readings and rules -/
/-- e.f, an attribute of the instance -/
def tFld (K : PySem.W.Frag) (ta : TE) (f : Str) : TE := fun σ H Q => ta σ H fun x H1 => ∃ a C dx fs v, x = .ref a ∧ H1 a = some (.ins C dx fs) ∧ Cls K C ∧ NoAttr K C f ∧ fs.lookup f = some v ∧ Q v H1
/-- e.f = value -/
def sFld (K : PySem.W.Frag) (ta tv : TE) (f : Str) : TS := fun D σ H => tv σ H fun y H1 => ta σ H1 fun x H2 => ∃ a C dx fs, x = .ref a ∧ H2 a = some (.ins C dx fs) ∧ Cls K C ∧ NoAttr K C f ∧ fs.length < 1000 ∧
  D.nx σ (upd H2 a (.ins C dx (putF f y fs)))

section
variable {X : Cx} {o e value : Expr} {f : Str} {pos pos' tpos : Pos} {ta tv : TE}
theorem pe_fld (he : PE X e ta) (hb : attributeBase e f X.env (eval e X.env) = eval e X.env) : PE X (.Attribute e f pos) (tFld X.K ta f) := by
  intro pins s σ H Q I h
  refine attr_of hb (thn (he pins s σ H _ I h) fun u s1 ⟨x, H1, I1, rx, a, C, dx, fs, v, ex, ea, c, n, l, q⟩ => ?_)
  subst ex
  obtain rfl : u = Value.ref a := rx
  exact getattr_ok I1 ea c n l fun u' s2 I2 ru => ⟨v, H1, I2, ru, q⟩
theorem ps_fld (ha : PE X o ta) (hv : PE X value tv) (hs : swapsWith value (some (.Attribute o f pos')) pos.line X.env = pure false) : PS X (.Assign [.Attribute o f pos'] value pos) (sFld X.K ta tv f) := by
  intro pins s σ H D I h
  refine plainObj_wpAny_Assign_Attribute (thn (hv pins s σ H _ I h) fun u s1 ⟨y, H1, I1, ry, q⟩ => thn (ha pins s1 σ H1 _ I1 q) fun ov s2 ⟨x, H2, I2, rx, a, C, dx, fs, ex, ea, c, n, l, q2⟩ => ?_) hs
  subst ex
  obtain rfl : ov = Value.ref a := rx
  exact setattr_ok I2 ea c n l ry fun s3 I3 => ⟨σ, _, I3, q2⟩

end

/-! ### isinstance -/
section
variable {X : Cx} {pins : List (Addr × Obj)} {σ : St} {H : Hp} {s : Shared} {A : Around} {E : Value → Shared → Prop} {Q : Value → Shared → Prop} {c : Value} {b : Bool}
/-- the type of a value, as the fragment's deciders take it; for an instance its class -/
inductive TyOf (K : PySem.W.Frag) (H : Hp) : V → Value → Prop where
  | non : TyOf K H .non (.type "NoneType")
  | bl (x : Bool) : TyOf K H (.bl x) (.type "bool")
  | int (i : Int) : TyOf K H (.int i) (.type "int")
  | str (x : Str) : TyOf K H (.str x) (.type "str")
  | flt (x : UInt64) : TyOf K H (.flt x) (.type "float")
  | lst {a : Addr} {xs : List V} (e : H a = some (.lst xs)) : TyOf K H (.ref a) (.type "list")
  | frz {a : Addr} {o : Obj} {xs : List V} (e : H a = some (.frz o (.lst xs))) : TyOf K H (.ref a) (.type "list")
  | tup {a : Addr} {xs : List V} (e : H a = some (.tup xs)) : TyOf K H (.ref a) (.type "tuple")
  | dK {a : Addr} {kvs : List (Key × V)} (e : H a = some (.dK kvs)) : TyOf K H (.ref a) (.type "dict")
  | dT {a : Addr} {kvs : List (List Key × V)} (e : H a = some (.dT kvs)) : TyOf K H (.ref a) (.type "dict")
  | ins {a C dx : Addr} {fs : List (Str × V)} (e : H a = some (.ins C dx fs)) (cl : Cls K C) (ha : PySem.W.findIn K (.ref C) "__class__" = some (some (.builtin "object.__class__")))
      (hn : PySem.W.specialIn K (.builtin "object.__class__") "__get__" = some (some (.builtin "getset_descriptor.__get__"))) (htk : PySem.W.takesIn K (.builtin "object.__class__") = some true)
      (hm : PySem.W.mroIn K C (.type "object") = some true) : TyOf K H (.ref a) (.ref C)
/-- isinstance(x, c) for one class c, a built-in or an own one: kitOne's answer -/
theorem isinst_ok {x : V} {u t : Value} (I : Inv X pins σ H s) (rx : RelV x u) (ty : TyOf X.K H x t) (e : PySem.W.kitOne X.K t c = some b) (h : ∀ tk, Q (.bool b) { s with toks := tk }) :
    wpAny (model X.prog X.w) A (call (.builtin "isinstance") [u, c]) Q E s := by
  cases ty with
  | non => cases (show u = Value.none from rx); exact PySem.W.kia_one PySem.W.kitx_none I.kIn True.intro e (fun z => nomatch z) h
  | bl y => cases (show u = Value.bool y from rx); exact PySem.W.kia_one PySem.W.kitx_bool I.kIn True.intro e (fun z => nomatch z) h
  | int i => obtain ⟨t, q⟩ := (show ∃ t, u = Value.int i t from rx); cases q; exact PySem.W.kia_one PySem.W.kitx_int I.kIn True.intro e (fun z => nomatch z) h
  | str y => obtain ⟨t, q⟩ := (show ∃ t, u = Value.str y t from rx); cases q; exact PySem.W.kia_one PySem.W.kitx_str I.kIn True.intro e (fun z => nomatch z) h
  | flt y => obtain ⟨t, q⟩ := (show ∃ t, u = Value.float y t from rx); cases q; exact PySem.W.kia_one PySem.W.kitx_float I.kIn True.intro e (fun z => nomatch z) h
  | @lst a xs ea =>
    cases (show u = Value.ref a from rx)
    obtain ⟨_, _, n, _, h1⟩ := (show ObjOk X.prog X.w H s.heap a (.lst xs) from I.hok a _ ea)
    exact PySem.W.kia_one PySem.W.kitx_list I.kIn ⟨_, h1, rfl⟩ e (fun z => nomatch z) h
  | @frz a ob xs ea =>
    cases (show u = Value.ref a from rx)
    obtain ⟨_, _, _, n, _, h1⟩ := (show ObjOk X.prog X.w H s.heap a (.frz ob (.lst xs)) from I.hok a _ ea)
    exact PySem.W.kia_one PySem.W.kitx_list I.kIn ⟨_, h1, rfl⟩ e (fun z => nomatch z) h
  | @tup a xs ea =>
    cases (show u = Value.ref a from rx)
    obtain ⟨_, _, _, p⟩ := (show ObjOk X.prog X.w H s.heap a (.tup xs) from I.hok a _ ea)
    obtain ⟨o, h1, h2, _⟩ := p
    exact PySem.W.kia_one PySem.W.kitx_tuple I.kIn ⟨o, h1, h2⟩ e (fun z => nomatch z) h
  | @dK a kvs ea =>
    cases (show u = Value.ref a from rx)
    obtain ⟨_, _, vs, _, p⟩ := (show ObjOk X.prog X.w H s.heap a (.dK kvs) from I.hok a _ ea)
    obtain ⟨o, es, ep, h1, h2, _⟩ := p
    exact PySem.W.kia_one PySem.W.kitx_dict I.kIn ⟨o, h1, h2.1⟩ e (fun z => nomatch z) h
  | @dT a kvs ea =>
    cases (show u = Value.ref a from rx)
    obtain ⟨_, _, xs, _, o, es, ep, h1, h2, _⟩ := (show ObjOk X.prog X.w H s.heap a (.dT kvs) from I.hok a _ ea)
    exact PySem.W.kia_one PySem.W.kitx_dict I.kIn ⟨o, h1, h2.1⟩ e (fun z => nomatch z) h
  | @ins a C dx fs ea cl ha hn htk hm =>
    cases (show u = Value.ref a from rx)
    obtain ⟨mA, O, _⟩ := ins_get I.hok ea
    obtain ⟨od, J, _⟩ := O.look
    exact PySem.W.kia_one (PySem.W.kitx_own (cl.get _) cl.hd ha hn htk hm) I.kIn J e (fun z => nomatch z) h
end
end L2

namespace L2
open PySem PySem.Spec PyProof.Rows

/-! ### room -/
structure Room (k : Nat) (A : Around) : Prop where
  hd : A.handled = none
  dp : A.depth + 3 * k + 5 < recursionLimit
  un : A.units + 16 * k + 200 < cLine
theorem Room.mono {j k : Nat} {A : Around} (r : Room k A) (h : j ≤ k) : Room j A := ⟨r.hd, by have := r.dp; omega, by have := r.un; omega⟩
theorem Room.deeper {k : Nat} {A : Around} (r : Room (k + 1) A) (env : Env) : Room k (A.deeper env) :=
  ⟨r.hd, by have := r.dp; show A.depth + 1 + 3 * k + 5 < _; omega, by have := r.un; show A.units + 3 + 16 * k + 200 < _; omega⟩
theorem make_depth {A : Around} {C : Addr} {us : List Value} {kw : List (Str × Value)} : (A.under (.builtin "type.__call__" ⟨.ref C :: us, kw⟩)).depth = A.depth + 1 := by
  first | rfl | simp [Around.under, Code.weight, Code.isCreation, Code.isGuard, Code.isCaller, Code.frames, Code.isFrame, guardIds]
theorem make_units {A : Around} {C : Addr} {us : List Value} {kw : List (Str × Value)} : (A.under (.builtin "type.__call__" ⟨.ref C :: us, kw⟩)).units = A.units + 1 := by
  first | rfl | simp [Around.under, Code.cUnits, Code.frames, Code.isFrame]
theorem Room.make {k : Nat} {A : Around} (r : Room (k + 1) A) (C : Addr) (us : List Value) (kw : List (Str × Value)) : Room k (A.under (.builtin "type.__call__" ⟨.ref C :: us, kw⟩)) :=
  ⟨r.hd, by have := r.dp; rw [make_depth]; omega, by have := r.un; rw [make_units]; omega⟩
theorem Room.depth {k : Nat} {A : Around} (r : Room k A) : A.depth < recursionLimit := by have := r.dp; omega
theorem Room.units {k : Nat} {A : Around} (r : Room k A) : A.units + 64 < cLine := by have := r.un; omega

/-! ### argument lists and displays -/
def tNil : TA := fun _ H Q => Q [] H
def tCons (ta : TE) (tr : TA) : TA := fun σ H Q => ta σ H fun x H1 => tr σ H1 fun xs H2 => Q (x :: xs) H2
section
variable {X : Cx} {e : Expr} {es : List Expr} {te : TE} {t : TA} {pos : Pos}
theorem pa_nil : PA X [] tNil := fun _ _ _ _ H Q I h => Calls.spliced_nil ⟨[], H, I, .nil, h⟩
theorem pa_cons (ha : PE X e te) (hr : PA X es t) (hs : starEach (e :: es) X.env = (false, eval e X.env) :: starEach es X.env := by rfl) : PA X (e :: es) (tCons te t) := by
  intro pos pins s σ H Q I h
  rw [hs]
  show wpAny _ _ (spliced ((false, eval e X.env) :: backTo pos (starEach es X.env))) _ _ s
  refine Calls.spliced_cons (thn (ha pins s σ H _ I h) fun u s1 ⟨x, H1, I1, r1, q1⟩ => ?_)
  exact thn (hr pos pins s1 σ H1 _ I1 q1) fun us s2 ⟨xs, H2, I2, r2, q2⟩ => ⟨x :: xs, H2, I2, .cons r1 r2, q2⟩

/-- a tuple, a list of written items -/
def tTup (t : TA) : TE := fun σ H Q => t σ H fun xs H1 => xs.length ≤ sizeLine ∧ ∀ p, H1 p = none → Q (.ref p) (upd H1 p (.tup xs))
def tLst (t : TA) : TE := fun σ H Q => t σ H fun xs H1 => xs.length ≤ sizeLine ∧ ∀ p, H1 p = none → Q (.ref p) (upd H1 p (.lst xs))
theorem pe_tup {x1} (h : PA X es t) : PE X (.Tuple es x1 pos) (tTup t) := by
  intro pins s σ H Q I hq
  refine wpAny_Tuple_spliced (thn (h pos pins s σ H _ I hq) fun us s1 ⟨xs, H1, I1, r, z, q⟩ => ⟨by rw [← r.length]; exact z, ?_⟩)
  have hf : H1 s1.heap.objs.size = none := I1.hok.fresh (Nat.le_refl _)
  refine ⟨.ref s1.heap.objs.size, upd H1 s1.heap.objs.size (.tup xs), I1.laid (t' := s1.toks) (fun b u e => Heap.get?_push_of_some _ e) (Nat.le_refl _) ?_, rfl, q _ hf⟩
  exact ⟨z, us, r, ⟨_, Heap.get?_push_size _ rfl, rfl, rfl, _, rfl⟩⟩
theorem pe_lst (h : PA X es t) : PE X (.List es pos) (tLst t) := by
  intro pins s σ H Q I hq
  refine wpAny_List_spliced (thn (h pos pins s σ H _ I hq) fun us s1 ⟨xs, H1, I1, r, z, q⟩ => ⟨by rw [← r.length]; exact z, ?_⟩)
  have hf : H1 s1.heap.objs.size = none := I1.hok.fresh (Nat.le_refl _)
  refine ⟨.ref s1.heap.objs.size, upd H1 s1.heap.objs.size (.lst xs), I1.laid (t' := s1.toks) (fun b u e => Heap.get?_push_of_some _ e) (Nat.le_refl _) ?_, rfl, q _ hf⟩
  exact ⟨z, us, 0, r, Heap.get?_push_size _ rfl⟩
end

/-! ### what a def promises -/
/-- a def's promise: the bound arguments in the parameters' order, the heap, the wanted end, the wanted exception -/
abbrev Sp := List V → Hp → VK → XK → Prop
/-- how an exception lies behind a call (file 08 gives it): the callers' frames, abstract heap and state ahead of the call, the wish, the exception, the state -/
abbrev CXT := List Env → Hp → Shared → XK → Value → Shared → Prop

/-- the state at a call -/
structure Env0 (P : Program) (w : World) (K : PySem.W.Frag) (mg : Str → Option Value) (base : Heap) (A : Around) (outer : List Env) (s : Shared) (H : Hp) : Prop where
  frames : A.frames = some outer
  mod : Mod K mg base
  bs : ∀ b o, base.get? b = some o → s.heap.get? b = some o ∧ H b = none
  bsz : base.objs.size ≤ s.heap.objs.size
  funs : s.heap.FunFrames base outer
  frf : ∀ b ∈ frs outer, H b = none
  hok : HOk P w H s.heap
  bare : AllBare s.gens
/-- a call's end -/
def CE (outer : List Env) (P : Program) (w : World) (H : Hp) (s : Shared) (Q : VK) (u : Value) (s' : Shared) : Prop :=
  ∃ v H', s'.os = s.os ∧ AllBare s'.gens ∧ Un (frs outer) [] H H' s.heap s'.heap ∧ HOk P w H' s'.heap ∧ RelV v u ∧ Q v H'
def CR (CX : CXT) (outer : List Env) (P : Program) (w : World) (H : Hp) (s : Shared) (Q : VK) (E : XK) (r : Result) (s' : Shared) : Prop :=
  match r with
  | .ok (.ret u) => CE outer P w H s Q u s'
  | .ok _ => False
  | .error e => CX outer H s E e s'
structure FnOk (P : Program) (w : World) (K : PySem.W.Frag) (mg : Str → Option Value) (base : Heap) (CX : CXT) (k : Nat) (f : Addr) (fd : FuncData) (ps : List Str) (sp : Sp) : Prop where
  len : ∀ vs H Q E, sp vs H Q E → vs.length = ps.length
  run : ∀ (A : Around) (outer : List Env) (s : Shared) (H : Hp) (args : Args) (us : List Value) (vs : List V) (Q : VK) (E : XK), Room k A → Env0 P w K mg base A outer s H → BindsTo s fd args (ps.zip us) → Vals vs us → sp vs H Q E →
    codeAny (model P w) A (.call (.ref f) args) (CR CX outer P w H s Q E) s

theorem Env0.make {P : Program} {w : World} {K : PySem.W.Frag} {mg : Str → Option Value} {base : Heap} {A : Around} {outer : List Env} {s : Shared} {H : Hp} (e : Env0 P w K mg base A outer s H) (C : Addr) (us : List Value) (kw : List (Str × Value)) :
    Env0 P w K mg base (A.under (.builtin "type.__call__" ⟨.ref C :: us, kw⟩)) outer s H := ⟨by first | exact e.frames | (simpa [Around.under, Code.envs, Code.isFrame, pushEnvs] using e.frames), e.mod, e.bs, e.bsz, e.funs, e.frf, e.hok, e.bare⟩

section
variable {X : Cx} {pins : List (Addr × Obj)} {σ : St} {H : Hp} {s s' : Shared}
/-- from a body: what a callee wants -/
theorem Inv.env0 (I : Inv X pins σ H s) : Env0 X.prog X.w X.K X.mg X.base X.A X.stack s H :=
  ⟨I.ok.frames, I.ok.mod, I.bs, Nat.le_trans I.ok.bsz I.sz, I.stack, I.stkFree, I.hok, I.bare⟩
/-- behind a call -/
theorem Inv.after {Q : VK} {u : Value} (I : Inv X pins σ H s) (h : CE X.stack X.prog X.w H s Q u s') : EP X pins σ Q u s' := by
  obtain ⟨v, H', os, bare, un, hok, r, q⟩ := h
  obtain ⟨hh, g, d, t, os'⟩ := s'
  obtain rfl : os' = s.os := os
  exact ⟨v, H', I.call (h' := hh) (g' := g) (d' := d) (t' := t) (ch := []) un hok bare (fun b z => absurd z (by simp)), r, q⟩
end

/-! ### calls -/
/-- f(..): the written arguments, then the defaults dvs; E: what is wanted of an exception -/
def tCall (sp : Sp) (dvs : List V) (E : XK) (t : TA) : TE := fun σ H Q => t σ H fun vs H1 => sp (vs ++ dvs) H1 Q E
/-- C(..): a new instance and its dict, then __init__ -/
def tMake (C : Addr) (sp : Sp) (dvs : List V) (E : XK) (t : TA) : TE := fun σ H Q => t σ H fun vs H1 => ∀ x dx, H1 x = none → H1 dx = none → dx ≠ x →
  sp (.ref x :: (vs ++ dvs)) (upd (upd H1 dx (.own x)) x (.ins C dx [])) (fun v H2 => v = .non ∧ Q (.ref x) H2) E

/-- how the parameters are bound: us the positional arguments, kw the keywords' values by name, ds the defaults that fill up -/
def Binds (K : PySem.W.Frag) (fd : FuncData) (ps : List Str) (ds : List Value) : Prop :=
  ∀ (s : Shared) (us : List Value), K.In s.heap → (us ++ ds).length = ps.length → BindsTo s fd ⟨us, []⟩ (ps.zip (us ++ ds))
/-- every parameter is given -/
theorem Binds.all {K : PySem.W.Frag} {fd : FuncData} {ps : List Str} (h : ∀ us : List Value, us.length = ps.length → bindArgs fd ⟨us, []⟩ = pure (ps.zip us)) : Binds K fd ps [] := fun s us _ hl => by
  rw [List.append_nil] at hl ⊢
  exact .of_eq (h us hl)

/-- an exception of a callee reaches what this body wants of exceptions -/
def Passes (CX : CXT) (X : Cx) (E : XK) : Prop := ∀ (pins : List (Addr × Obj)) (σ : St) (H : Hp) (s : Shared) (e : Value) (s' : Shared), Inv X pins σ H s → CX X.stack H s E e s' → X.xe e s'

section
variable {X : Cx} {CX : CXT} {k : Nat} {f C : Addr} {fd : FuncData} {ps : List Str} {sp : Sp} {dvs : List V} {ds : List Value} {E : XK} {x m : Str} {p pos apos : Pos} {e o : Expr} {es : List Expr} {ta : TE} {t : TA}

/-- the callee runs -/
theorem run_fn {pins : List (Addr × Obj)} {σ : St} {H : Hp} {s : Shared} {Q : VK} {us : List Value} {vs : List V} (F : FnOk X.prog X.w X.K X.mg X.base CX k f fd ps sp) (hr : Room k X.A) (hb : Binds X.K fd ps ds) (hd : Vals dvs ds) (hx : Passes CX X E)
    (I : Inv X pins σ H s) (r : Vals vs us) (h : sp (vs ++ dvs) H Q E) : wpAny (model X.prog X.w) X.A (call (.ref f) us) (EP X pins σ Q) X.xe s := by
  have r2 : Vals (vs ++ dvs) (us ++ ds) := r.append hd
  have hl : (us ++ ds).length = ps.length := by rw [← r2.length]; exact F.len _ _ _ _ h
  refine wpAny_call (codeAny_mono (F.run X.A X.stack s H ⟨us, []⟩ (us ++ ds) (vs ++ dvs) Q E hr I.env0 (hb s us I.kIn hl) r2 h) fun r s' hq => ?_)
  cases r with
  | error e => exact hx pins σ H s e s' I hq
  | ok fl =>
    cases fl with
    | ret u => exact I.after hq
    | next => exact False.elim hq
    | brk => exact False.elim hq
    | cont => exact False.elim hq

theorem pe_call (F : FnOk X.prog X.w X.K X.mg X.base CX k f fd ps sp) (hr : Room k X.A) (hg : Gl X x) (hm : X.mg x = some (.ref f)) (hk : PySem.W.keepIn X.K (.ref f) = true) (hb : Binds X.K fd ps ds) (hd : Vals dvs ds) (hx : Passes CX X E)
    (ha : PA X (e :: es) t) (hdb : (x == ("__debug__" : Str)) = false := by decide) (he : starEach (e :: es) X.env = (false, eval e X.env) :: starEach es X.env := by rfl) (hpl : (backTo pos (starEach es X.env)).any (·.1) = false := by rfl) :
    PE X (.Call (.Name x p) (e :: es) [] pos) (tCall sp dvs E t) := by
  intro pins s σ H Q I h
  refine wpAny_Call_Name_kw (ld_glob I hg hm ?_ hdb)
  refine PySem.W.callWith_K (h₀ := X.base) I.ok.mod.kin hk (thn (ha pos pins s σ H _ I h) fun us s1 ⟨vs, H1, I1, r, q⟩ => ⟨I1.kIn, ?_⟩) he hpl
  exact run_fn F hr hb hd hx I1 r q


/-- what a class must have to be made -/
structure Mk (K : PySem.W.Frag) (C f : Addr) : Prop where
  makes : PySem.W.makesIn K C = true
  init : PySem.W.findIn K (.ref C) "__init__" = some (some (.ref f))
  fn : PySem.W.isFn K (.ref f) = true
  kp : PySem.W.keepIn K (.ref C) = true

theorem run_make {pins : List (Addr × Obj)} {σ : St} {H : Hp} {s : Shared} {Q : VK} {us : List Value} {vs : List V} (M : Mk X.K C f) (F : FnOk X.prog X.w X.K X.mg X.base CX k f fd ps sp) (hr : Room (k + 1) X.A) (hb : Binds X.K fd ps ds) (hd : Vals dvs ds)
    (hx : Passes CX X E) (I : Inv X pins σ H s) (r : Vals vs us)
    (h : ∀ x dx, H x = none → H dx = none → dx ≠ x → sp (.ref x :: (vs ++ dvs)) (upd (upd H dx (.own x)) x (.ins C dx [])) (fun v H2 => v = .non ∧ Q (.ref x) H2) E) :
    wpAny (model X.prog X.w) X.A (call (.ref C) us) (EP X pins σ Q) X.xe s := by
  have hq := h (s.heap.objs.size + 1) s.heap.objs.size (I.hok.fresh (Nat.le_succ _)) (I.hok.fresh (Nat.le_refl _)) (Nat.ne_of_lt (Nat.lt_succ_self _))
  have I2 := Inv.made (C := C) I
  have r2 : Vals (V.ref (s.heap.objs.size + 1) :: (vs ++ dvs)) (Value.ref (s.heap.objs.size + 1) :: (us ++ ds)) := .cons rfl (r.append hd)
  have hl : (Value.ref (s.heap.objs.size + 1) :: us ++ ds).length = ps.length := by
    have e := r2.length
    rw [F.len _ _ _ _ hq] at e
    exact e.symm
  refine wpAny_call (make_map (f := f) I.kIn M.makes M.init (beq_iff_eq.mp M.fn) (codeAny_mono (F.run _ X.stack _ _ ⟨Value.ref (s.heap.objs.size + 1) :: us, []⟩ (Value.ref (s.heap.objs.size + 1) :: (us ++ ds)) _ _ E (hr.make C us [])
    (I2.env0.make C us []) (hb _ (Value.ref (s.heap.objs.size + 1) :: us) I2.kIn hl) r2 hq) fun r s' hq' => ?_))
  cases r with
  | error e => exact hx pins σ _ _ e s' I2 hq'
  | ok fl =>
    cases fl with
    | ret u =>
      obtain ⟨v, H', I3, rv, ev, q3⟩ := I2.after hq'
      subst ev
      exact ⟨rv, ⟨V.ref (s.heap.objs.size + 1), H', I3, rfl, q3⟩⟩
    | next => exact False.elim hq'
    | brk => exact False.elim hq'
    | cont => exact False.elim hq'
theorem pe_make (M : Mk X.K C f) (F : FnOk X.prog X.w X.K X.mg X.base CX k f fd ps sp) (hr : Room (k + 1) X.A) (hg : Gl X x) (hm : X.mg x = some (.ref C)) (hb : Binds X.K fd ps ds) (hd : Vals dvs ds) (hx : Passes CX X E)
    (ha : PA X (e :: es) t) (hdb : (x == ("__debug__" : Str)) = false := by decide) (he : starEach (e :: es) X.env = (false, eval e X.env) :: starEach es X.env := by rfl) (hpl : (backTo pos (starEach es X.env)).any (·.1) = false := by rfl) :
    PE X (.Call (.Name x p) (e :: es) [] pos) (tMake C sp dvs E t) := by
  intro pins s σ H Q I h
  refine wpAny_Call_Name_kw (ld_glob I hg hm ?_ hdb)
  refine PySem.W.callWith_K (h₀ := X.base) I.ok.mod.kin M.kp (thn (ha pos pins s σ H _ I h) fun us s1 ⟨vs, H1, I1, r, q⟩ => ⟨I1.kIn, ?_⟩) he hpl
  exact run_make M F hr hb hd hx I1 r q
end

/-! ### keywords -/
section
variable {X : Cx} {CX : CXT} {k : Nat} {f C : Addr} {fd : FuncData} {ps ks : List Str} {sp : Sp} {E : XK} {x m : Str} {p pos apos kpos : Pos} {e o : Expr} {es : List Expr} {kws : List Keyword} {te ta : TE} {t tk : TA} {nm : Option Str}

/-- how a call with keywords binds: g puts the positional values us and the keywords' values ws (names ks) in the parameters' order, defaults among them -/
structure KBinds (K : PySem.W.Frag) (fd : FuncData) (ps ks : List Str) (g : List Value → List Value → List Value) (gV : List V → List V → List V) : Prop where
  to : ∀ (s : Shared) (us ws : List Value), K.In s.heap → (g us ws).length = ps.length → BindsTo s fd ⟨us, ks.zip ws⟩ (ps.zip (g us ws))
  rel : ∀ {vs : List V} {us : List Value} {zs : List V} {ws : List Value}, Vals vs us → Vals zs ws → Vals (gV vs zs) (g us ws)
variable {g : List Value → List Value → List Value} {gV : List V → List V → List V}
end

/-! ### a def's body keeps its promise -/
/-- names: the parameters first -/
structure FnScope (N P : List Str) (sc : Scope) : Prop where
  kind : sc.kind = .function
  co : sc.isCoroutine = false
  gen : sc.isGenerator = false
  nd : N.Nodup
  pre : N.take P.length = P
  par : ∀ x ∈ P, sc.names.lookup x = some .local ∨ sc.names.lookup x = some .cell
  nofree : ∀ y ∈ sc.names, y.2 ≠ .free

theorem bindL_out {kindOf : Str → Option NameKind} {x : Str} : ∀ {binds : List (Str × Value)} {m : Str → Option Value}, (∀ v, (x, v) ∉ binds) → bindL kindOf binds m x = m x
  | [], _, _ => rfl
  | (n, v) :: r, m, h => by
    unfold bindL
    rw [bindL_out fun w hw => h w (List.mem_cons_of_mem _ hw)]
    split
    · have : x ≠ n := by rintro rfl; exact h v List.mem_cons_self
      simp [this]
    · rfl
theorem bindC_out {kindOf : Str → Option NameKind} {x : Str} : ∀ {binds : List (Str × Value)} {m : Str → Option Value}, (∀ v, (x, v) ∉ binds) → bindC kindOf binds m x = m x
  | [], _, _ => rfl
  | (n, v) :: r, m, h => by
    unfold bindC
    rw [bindC_out fun w hw => h w (List.mem_cons_of_mem _ hw)]
    split
    · rfl
    · have : x ≠ n := by rintro rfl; exact h v List.mem_cons_self
      simp [this]
theorem bindL_get {kindOf : Str → Option NameKind} {x : Str} {v : Value} : ∀ {P : List Str} {vs : List Value} {i : Nat} {m : Str → Option Value}, P.Nodup → P[i]? = some x → vs[i]? = some v → kindOf x = some .local →
    bindL kindOf (P.zip vs) m x = some v
  | [], _, _, _, _, h, _, _ => by simp at h
  | _ :: _, [], _, _, _, _, h, _ => by simp at h
  | p :: P, w :: vs, 0, m, nd, h1, h2, hk => by
    simp at h1 h2; subst h1; subst h2
    show bindL kindOf ((p, w) :: P.zip vs) m p = _
    unfold bindL
    rw [bindL_out fun v hv => (List.nodup_cons.mp nd).1 (List.of_mem_zip hv).1, if_pos hk]
    simp
  | p :: P, w :: vs, i + 1, m, nd, h1, h2, hk => by
    show bindL kindOf ((p, w) :: P.zip vs) m x = _
    unfold bindL
    exact bindL_get (i := i) (List.nodup_cons.mp nd).2 (by simpa using h1) (by simpa using h2) hk
theorem bindC_get {kindOf : Str → Option NameKind} {x : Str} {v : Value} : ∀ {P : List Str} {vs : List Value} {i : Nat} {m : Str → Option Value}, P.Nodup → P[i]? = some x → vs[i]? = some v → kindOf x ≠ some .local →
    bindC kindOf (P.zip vs) m x = some v
  | [], _, _, _, _, h, _, _ => by simp at h
  | _ :: _, [], _, _, _, _, h, _ => by simp at h
  | p :: P, w :: vs, 0, m, nd, h1, h2, hk => by
    simp at h1 h2; subst h1; subst h2
    show bindC kindOf ((p, w) :: P.zip vs) m p = _
    unfold bindC
    rw [bindC_out fun v hv => (List.nodup_cons.mp nd).1 (List.of_mem_zip hv).1, if_neg hk]
    simp
  | p :: P, w :: vs, i + 1, m, nd, h1, h2, hk => by
    show bindC kindOf ((p, w) :: P.zip vs) m x = _
    unfold bindC
    exact bindC_get (i := i) (List.nodup_cons.mp nd).2 (by simpa using h1) (by simpa using h2) hk

/-- the names' values at the entry -/
def start (N : List Str) (vs : List V) : St := vs.map some ++ List.replicate (N.length - vs.length) none

/-- the context of a def's body, at its entry; an exception leaves the frame, then lies as CX says -/
def cxOf (CX : CXT) (P : Program) (w : World) (K : PySem.W.Frag) (mg : Str → Option Value) (base : Heap) (N : List Str) (qual : Str) (scope : Scope) (f : Addr) (cd : Value) (A : Around) (outer : List Env) (s : Shared) (H : Hp) (E : XK) : Cx where
  prog := P
  w := w
  K := K
  mg := mg
  base := base
  A := A.deeper (envOfC qual scope s.heap.objs.size f cd)
  N := N
  s₀ := s
  H₀ := H
  env := envOfC qual scope s.heap.objs.size f cd
  outer := outer
  stack := envOfC qual scope s.heap.objs.size f cd :: outer
  ex := []
  calm := true
  fn := fun _ => true
  pn := []
  xe := fun e s' => wpAny (model P w) (A.deeper (envOfC qual scope s.heap.objs.size f cd)) (leaving (envOfC qual scope s.heap.objs.size f cd) e) (fun _ s'' => CX outer H s E e s'') (fun e' s'' => CX outer H s E e' s'') s'

theorem cell_has {sc : Scope} {n : Nat} {x : Str} (h : sc.names.lookup x = some .cell) : ∃ c, (cellsFrom n sc.names []).lookup x = some c := by
  have q := PySem.W.cellsFrom_some sc.names n [] (.inl h)
  exact Option.isSome_iff_exists.mp q

theorem inv_start {CX : CXT} {P : Program} {w : World} {K : PySem.W.Frag} {mg : Str → Option Value} {base : Heap} {N ps : List Str} {qual : Str} {scope : Scope} {f : Addr} {cd : Value} {A : Around} {outer : List Env} {s s1 : Shared} {H : Hp} {E : XK} {us : List Value} {vs : List V}
    (S : FnScope N ps scope) (hd : A.handled = none) (e0 : Env0 P w K mg base A outer s H) (hl : vs.length = ps.length) (r : Vals vs us)
    (x : InCallC s s.heap.objs.size (bindL (envOfC qual scope s.heap.objs.size f cd).kindOf (ps.zip us) fun _ => none) (cellsFrom (s.heap.objs.size + 1) scope.names []) (bindC (envOfC qual scope s.heap.objs.size f cd).kindOf (ps.zip us) fun _ => none) s1) :
    Inv (cxOf CX P w K mg base N qual scope f cd A outer s H E) [] (start N vs) H s1 := by
  have hpl : ps.length ≤ N.length := by have := congrArg List.length S.pre; rw [List.length_take] at this; omega
  obtain ⟨h1, tk, rfl, hk⟩ := x.done
  have noA : ∀ b : Addr, b ∉ (cxOf CX P w K mg base N qual scope f cd A outer s H E).ex := fun b z => absurd (show b ∈ ([] : List Addr) from z) (by simp)
  refine ⟨⟨e0.mod, S.kind, rfl, rfl, Nat.le_refl _, fun y z c h1 h2 => ?_, fun y hy => ?_, fun y c _ h => ?_, fun _ => hd, Around.frames_deeper e0.frames, .inr ⟨rfl, rfl⟩, fun b z => absurd z (noA b), e0.bs, e0.bsz, fun b _ _ => noA b, fun b z => absurd z (noA b), e0.funs, e0.frf⟩,
    rfl, e0.bare, Un.kept hk, ⟨_, x.toInCall.ns, fun i y v h1 h2 h3 => ?_⟩, fun y c h => ⟨_, x.cell y c h⟩, e0.hok.fresh (Nat.le_refl _), fun y c h => ?_, fun p hp => absurd (show p ∈ ([] : List (Addr × Obj)) from hp) (by simp), e0.hok.kept hk, ?_⟩
  · exact name_of_addr x.apart (PySem.mem_of_lookup h1) (PySem.mem_of_lookup h2)
  · have hy : scope.names.lookup y = some .cell ∨ scope.names.lookup y = some .free := hy
    rcases hy with hy | hy
    · exact cell_has hy
    · exact absurd rfl (S.nofree _ (PySem.mem_of_lookup hy))
  · exact Nat.le_of_lt (x.above y c (PySem.mem_of_lookup h))
  · have hi : i < vs.length := by
      unfold start at h2
      by_cases hi : i < vs.length
      · exact hi
      · rw [List.getElem?_append_right (by simpa using hi)] at h2
        rw [List.getElem?_replicate] at h2
        split at h2 <;> cases h2
    have ha : vs[i]? = some v := by
      unfold start at h2
      rw [List.getElem?_append_left (by simpa using hi), List.getElem?_map] at h2
      cases e : vs[i]? with
      | none => rw [e] at h2; cases h2
      | some a => rw [e] at h2; cases h2; rfl
    obtain ⟨u, hu, rv⟩ := r.get ha
    have hp : ps[i]? = some y := by
      rw [← S.pre, List.getElem?_take_of_lt (by omega)]; exact h1
    have ndP : ps.Nodup := by rw [← S.pre]; exact S.nd.sublist (List.take_sublist _ _)
    refine ⟨u, rv, ?_⟩
    rcases S.par y (List.mem_of_getElem? hp) with k | k
    · exact .inl ⟨k, bindL_get ndP hp hu k⟩
    · obtain ⟨c, e⟩ := cell_has (n := s.heap.objs.size + 1) k
      refine .inr ⟨.inl k, c, e, ?_⟩
      have q := x.cell y c e
      rw [bindC_get ndP hp hu (by show scope.names.lookup y ≠ _; rw [k]; decide)] at q
      exact q
  · exact e0.hok.fresh (Nat.le_of_lt (x.above y c (PySem.mem_of_lookup h)))
  · unfold start
    show _ = N.length
    rw [List.length_append, List.length_map, List.length_replicate]
    omega

/-- THE RULE: a def (or a method) of the text, by its body. The body's reading t is chosen for each entry; it is run at the parameters' values -/
theorem fn_of {CX : CXT} {P : Program} {w : World} {K : PySem.W.Frag} {mg : Str → Option Value} {base : Heap} {k : Nat} {f : Addr} {name qual : Str} {params : Arguments} {body : List Stmt} {scope : Scope} {dV kV doc pm cdv ct oc : Value} {an od : Option Addr}
    {osl : Array (Option Value)} {N ps : List Str} {sp : Sp} (lk : K.lookup f = some ⟨oc, od, .func (PySem.W.fnOf name qual params body scope dV kV doc pm an cdv ct), osl⟩) (hcd : PySem.W.codeIn K cdv qual = true) (S : FnScope N ps scope)
    (len : ∀ vs H Q E, sp vs H Q E → vs.length = ps.length)
    (hbody : ∀ (A : Around) (outer : List Env) (s : Shared) (H : Hp) (vs : List V) (Q : VK) (E : XK), Room k (A.deeper (envOfC qual scope s.heap.objs.size f cdv)) → sp vs H Q E →
      ∃ t, PSs (cxOf CX P w K mg base N qual scope f cdv A outer s H E) body t ∧ t { nx := fun _ H' => Q .non H', rt := Q } (start N vs) H) :
    FnOk P w K mg base CX (k + 1) f (PySem.W.fnOf name qual params body scope dV kV doc pm an cdv ct) ps sp := by
  refine ⟨len, fun A outer s H args us vs Q E hr e0 hb r hsp => ?_⟩
  have hl := len _ _ _ _ hsp
  have KX : K.In s.heap := e0.mod.kin.keeps fun b o e => (e0.bs b o e).1
  have lim : s.heap.NoLimit := e0.mod.nolimit.keeps fun b o e => (e0.bs b o e).1
  have hkind : ∀ y ∈ ps.zip us, scope.names.lookup y.1 = some .local ∨ (scope.names.lookup y.1 = some .cell ∧ ((cellsFrom (s.heap.objs.size + 1) scope.names []).lookup y.1).isSome = true) := fun ⟨n, v⟩ hy => by
    rcases S.par n (List.of_mem_zip hy).1 with q | q
    · exact .inl q
    · exact .inr ⟨q, PySem.W.cellsFrom_some _ _ _ (.inl q)⟩
  refine codeAny_call_function hr.depth (KX _ _ lk) rfl S.co S.gen rfl (PySem.W.codeRec_of KX hcd) (hb _ _ _ _ ?_)
  refine wpAny_newFunctionEnv_cells S.kind hkind fun env he s1 x => ?_
  subst he
  refine ⟨lim.keeps x.toInCall.keep, codeAny_func ?_⟩
  obtain ⟨t, ht, hq⟩ := hbody A outer s H vs Q E (hr.deeper _) hsp
  have I : Inv (cxOf CX P w K mg base N qual scope f cdv A outer s H E) [] (start N vs) H s1 := inv_start S hr.hd e0 hl r x
  refine wpAny_mono (ht [] s1 (start N vs) H _ I hq) (fun fl s' hs => ?_) fun e s' hs => hs
  have fin : ∀ {σ' : St} {H' : Hp} {v : V} {u : Value}, Inv (cxOf CX P w K mg base N qual scope f cdv A outer s H E) [] σ' H' s' → RelV v u → Q v H' → CE outer P w H s Q u s' :=
    fun {σ' H' v u} J rv q => ⟨v, H', J.os, J.bare, J.base, J.hok, rv, q⟩
  cases fl with
  | ret u =>
    obtain ⟨v, σ', H', J, rv, q⟩ := hs
    exact fin J rv q
  | next =>
    obtain ⟨σ', H', J, q⟩ := hs
    exact fin (v := V.non) (u := Value.none) J rfl q
  | brk =>
    obtain ⟨_, _, _, q⟩ := hs
    exact False.elim q
  | cont =>
    obtain ⟨_, _, _, q⟩ := hs
    exact False.elim q
end L2

namespace L2
open PySem PySem.Spec PyProof.Rows
section
variable {X : Cx} {x : Str} {p pos : Pos} {e : Expr} {es : List Expr} {t : TA} {id T : String} {r : List V → Hp → VK → Prop}

def tCB (r : List V → Hp → VK → Prop) (t : TA) : TE := fun σ H Q => t σ H fun vs H1 => r vs H1 Q
/-- f(e, ..), f a built-in function -/
theorem pe_callB (hc : CallR X (.builtin id) r) (hg : Gl X x) (hm : X.mg x = none) (hv : bootBuiltins x = some (.builtin id)) (ha : PA X (e :: es) t) (hn : x ≠ "__name__" := by decide) (hdb : (x == ("__debug__" : Str)) = false := by decide)
    (he : starEach (e :: es) X.env = (false, eval e X.env) :: starEach es X.env := by rfl) (hpl : (backTo pos (starEach es X.env)).any (·.1) = false := by rfl) : PE X (.Call (.Name x p) (e :: es) [] pos) (tCB r t) := by
  intro pins s σ H Q I h
  refine wpAny_Call_Name_kw (ld_blt I hg hm hv ?_ hn hdb)
  exact PyProof.Rows.callWith_builtin1 (thn (ha pos pins s σ H _ I h) fun us s1 ⟨vs, H1, I1, r1, q1⟩ => hc pins s1 σ H1 vs us Q I1 r1 q1) he hpl
/-- T(e, ..), T a built-in type -/
theorem pe_callTy (hc : CallR X (.type T) r) (hg : Gl X x) (hm : X.mg x = none) (hv : bootBuiltins x = some (.type T)) (ha : PA X (e :: es) t) (hn : x ≠ "__name__" := by decide) (hdb : (x == ("__debug__" : Str)) = false := by decide)
    (he : starEach (e :: es) X.env = (false, eval e X.env) :: starEach es X.env := by rfl) (hpl : (backTo pos (starEach es X.env)).any (·.1) = false := by rfl) : PE X (.Call (.Name x p) (e :: es) [] pos) (tCB r t) := by
  intro pins s σ H Q I h
  refine wpAny_Call_Name_kw (ld_blt I hg hm hv ?_ hn hdb)
  exact PyProof.Rows.callWith_type1 (thn (ha pos pins s σ H _ I h) fun us s1 ⟨vs, H1, I1, r1, q1⟩ => hc pins s1 σ H1 vs us Q I1 r1 q1) he hpl
end
end L2

namespace HT
open PySem PyProof.Rows



section
open PySem.SeqAt
open PySem.AutoSeq1 (wpAny_loadPart')
open PySem.MeetsSeq PySem.MeetsSeq2 PySem.MeetsSeq3

end

section
variable {prog : Program} {w : World} {A : Around} {E : Value → Shared → Prop} {s : Shared}



/-! ### t[a:b], not the whole -/
/-- a slice's bound as a place among n (d where it is left out) -/
def sIx (n d : Nat) : Option Int → Nat
  | none => d
  | some v => if v < 0 then (v + (n : Int)).toNat else min v.toNat n
theorem sIx_nat (n d k : Nat) : sIx n d (some (k : Int)) = min k n := by
  show (if (k : Int) < 0 then ((k : Int) + (n : Int)).toNat else min (k : Int).toNat n) = min k n
  rw [if_neg (by omega), Int.toNat_natCast]

end
end HT

namespace L2
open PySem PySem.Spec PyProof.Rows

/-! ### the parts of a slice -/
abbrev TO := St → Hp → (Option Int → Hp → Prop) → Prop
/-- a slice's part (left out, or an int) -/
def PO (X : Cx) (e : Option Expr) (t : TO) : Prop :=
  ∀ (pins : List (Addr × Obj)) (s : Shared) (σ : St) (H : Hp) (Q : Option Int → Hp → Prop), Inv X pins σ H s → t σ H Q →
    wpAny (model X.prog X.w) X.A (evalPart e X.env) (fun u s' => ∃ o H', Inv X pins σ H' s' ∧ IsPart u o ∧ Q o H') X.xe s
def tNoPart : TO := fun _ H Q => Q none H
def tPart (t : TE) : TO := fun σ H Q => t σ H fun x H1 => ∃ i, x = .int i ∧ Q (some i) H1


section
variable {X : Cx} {e : Expr} {te : TE} {lo hi : Option Expr} {tl th : TO} {pos p2 : Pos}

theorem po_none : PO X none tNoPart := by
  intro pins s σ H Q I h
  rw [evalPart_none]
  exact wpAny_pure ⟨none, H, I, .none, h⟩
theorem po_some (h : PE X e te) : PO X (some e) (tPart te) := by
  intro pins s σ H Q I hw
  rw [evalPart_some]
  refine thn (h pins s σ H _ I hw) fun u s1 ⟨x, H1, I1, r1, q1⟩ => ?_
  obtain ⟨i, rfl, q⟩ := q1
  obtain ⟨t, rfl⟩ := r1
  exact ⟨some i, H1, I1, .int i t, q⟩

/-- what a slice of a value is, by values: the slice object stands at sl -/
def SlR (X : Cx) (r : V → Option Int → Option Int → Hp → VK → Prop) : Prop :=
  ∀ (pins : List (Addr × Obj)) (s : Shared) (σ : St) (H : Hp) (x : V) (v vl vu : Value) (lo hi : Option Int) (sl : Addr) (Q : VK), Inv X pins σ H s → RelV x v → s.heap.IsSliceOf sl vl vu .none → IsPart vl lo → IsPart vu hi → r x lo hi H Q →
    ∃ T id, typeLookup (.type T) "__getitem__" = pure (some (.builtin id)) ∧ s.TypeIs v T ∧ wpAny (model X.prog X.w) X.A (getItem v (.ref sl)) (EP X pins σ Q) X.xe s
def tSl (r : V → Option Int → Option Int → Hp → VK → Prop) (te : TE) (tl th : TO) : TE := fun σ H Q => te σ H fun x H1 => tl σ H1 fun l H2 => th σ H2 fun u H3 => r x l u H3 Q
/-- a[lo:hi], any a -/
theorem pe_slice {r : V → Option Int → Option Int → Hp → VK → Prop} (hr : SlR X r) (he : PE X e te) (hl : PO X lo tl) (hu : PO X hi th) : PE X (.Subscript e (.Slice lo hi none p2) pos) (tSl r te tl th) := by
  intro pins s σ H Q I h
  refine Subscript_ (thn (he pins s σ H _ I h) fun v s1 ⟨x, H1, I1, r1, q1⟩ => ?_)
  refine wpAny_Slice (thn (hl pins s1 σ H1 _ I1 q1) fun vl s2 ⟨l, H2, I2, pl, q2⟩ => thn (hu pins s2 σ H2 _ I2 q2) fun vu s3 ⟨u, H3, I3, pu, q3⟩ => ?_)
  rw [evalPart_none]
  refine wpAny_pure ?_
  have I4 : Inv X pins σ H3 { s3 with heap := s3.heap.push { cls := .type "slice", data := .fields #[vl, vu, .none] } } := I3.kept (t' := s3.toks) fun b ob q => Heap.get?_push_of_some _ q
  obtain ⟨T, id, hT, ht, hg⟩ := hr pins { s3 with heap := s3.heap.push { cls := .type "slice", data := .fields #[vl, vu, .none] } } σ H3 x v vl vu l u s3.heap.objs.size Q I4 r1 (Heap.IsSliceOf.new ..) pl pu q3
  show wpAny (model X.prog X.w) X.A (subscriptTail e (.Slice lo hi none p2) v (.ref s3.heap.objs.size)) (EP X pins σ Q) X.xe { s3 with heap := s3.heap.push { cls := .type "slice", data := .fields #[vl, vu, .none] } }
  exact tail_any (ops := [.ref s3.heap.objs.size, v]) ht hT hg (by with_unfolding_all rfl)

/-- the items of xs[lo:hi] -/
def cutV (xs : List V) (lo hi : Option Int) : List V := (xs.drop (HT.sIx xs.length 0 lo)).take (HT.sIx xs.length xs.length hi - HT.sIx xs.length 0 lo)
theorem cutV_length (xs : List V) (lo hi : Option Int) : (cutV xs lo hi).length ≤ xs.length := by
  unfold cutV
  rw [List.length_take, List.length_drop]
  omega

/-! ### t < u, t + u -/
end
end L2

namespace L2
open PySem PySem.Spec PyProof.Rows

/-! ### places -/
/-- the place that an index of any sign means -/
def ixN (n : Nat) (i : Int) : Option Nat := if 0 ≤ i then (if i < n then some i.toNat else none) else if -(n : Int) ≤ i then some (i + n).toNat else none
def atI {α : Type} (xs : List α) (i : Int) : Option α := (ixN xs.length i).bind fun j => xs[j]?
theorem ixN_seq {n : Nat} {i : Int} {j : Nat} (h : ixN n i = some j) : seqIndex? i n = some j ∧ j < n ∧ -(n : Int) ≤ i ∧ i < n := by
  unfold ixN at h
  by_cases h0 : 0 ≤ i
  · rw [if_pos h0] at h
    by_cases h1 : i < n
    · rw [if_pos h1] at h
      have e : i.toNat = j := Option.some.inj h
      exact ⟨by rw [seqIndex_of h0 h1, e], by omega, by omega, h1⟩
    · rw [if_neg h1] at h; cases h
  · rw [if_neg h0] at h
    by_cases h1 : -(n : Int) ≤ i
    · rw [if_pos h1] at h
      have e : (i + n).toNat = j := Option.some.inj h
      exact ⟨by rw [seqIndex_neg (by omega) h1, e], by omega, h1, by omega⟩
    · rw [if_neg h1] at h; cases h
theorem atI_get {α : Type} {xs : List α} {i : Int} {v : α} (h : atI xs i = some v) : ∃ j, seqIndex? i xs.length = some j ∧ xs[j]? = some v ∧ j < xs.length ∧ -(xs.length : Int) ≤ i ∧ i < xs.length := by
  unfold atI at h
  cases e : ixN xs.length i with
  | none => rw [e] at h; cases h
  | some j =>
    rw [e] at h
    obtain ⟨h1, h2, h3, h4⟩ := ixN_seq e
    exact ⟨j, h1, h, h2, h3, h4⟩
theorem atI_nat {α : Type} {xs : List α} {j : Nat} {v : α} (h : xs[j]? = some v) : atI xs (j : Int) = some v := by
  have hj : j < xs.length := (List.getElem?_eq_some_iff.mp h).1
  have e : ixN xs.length (j : Int) = some j := by
    unfold ixN
    rw [if_pos (by omega), if_pos (by omega)]; simp
  unfold atI; rw [e]; exact h

/-! ### what may be subscripted -/
/-- what stands as an index of a plain subscript -/
def PlainIx (b : Expr) : Prop := ∀ o i, subscripted b false o i = operate [o, i] (getItem o i)
/-- a subscript by values -/
def IxR (X : Cx) (r : R2) : Prop :=
  ∀ (value slice : Expr) (pins : List (Addr × Obj)) (s : Shared) (σ : St) (H : Hp) (x y : V) (v u : Value) (Q : VK), Inv X pins σ H s → RelV x v → RelV y u → r x y H Q →
    subscripted slice false v u = operate [v, u] (getItem v u) → wpAny (model X.prog X.w) X.A (subscriptTail value slice v u) (EP X pins σ Q) X.xe s
/-- a call of a builtin's method by values: the receiver, the arguments -/
def MtR (X : Cx) (id : String) (r : V → List V → Hp → VK → Prop) : Prop :=
  ∀ (pins : List (Addr × Obj)) (s : Shared) (σ : St) (H : Hp) (x : V) (xs : List V) (v : Value) (us : List Value) (Q : VK), Inv X pins σ H s → RelV x v → Vals xs us → r x xs H Q →
    wpAny (model X.prog X.w) X.A (call (.builtin id) (v :: us)) (EP X pins σ Q) X.xe s
section
variable {X : Cx} {a b : Expr} {ta tb : TE} {pos : Pos}
/-- a[b] -/
theorem pe_ix {r : R2} (hr : IxR X r) (ha : PE X a ta) (hb : PE X b tb) (hs : PlainIx b) : PE X (.Subscript a b pos) (tOp r ta tb) := by
  intro pins s σ H Q I h
  exact Subscript_ (binT ha hb I h fun v u s2 x y H2 I2 rx ry q => hr a b pins s2 σ H2 x y v u Q I2 rx ry q (hs _ _))

def rIxL (K : PySem.W.Frag) : R2 := fun x y H Q => ∃ p xs i v, x = .ref p ∧ y = .int i ∧ SqL K H p xs ∧ atI xs i = some v ∧ Q v H
def rIxT (K : PySem.W.Frag) : R2 := fun x y H Q => ∃ p xs i v, x = .ref p ∧ y = .int i ∧ SqT K H p xs ∧ atI xs i = some v ∧ Q v H
def rIxS : R2 := fun x y H Q => ∃ z i c, x = .str z ∧ y = .int i ∧ z.length ≤ sizeLine ∧ atI z.cps.toList i = some c ∧ Q (.str ⟨#[c]⟩) H
theorem ix_list : IxR X (rIxL X.K) := by
  intro value slice pins s σ H x y v u Q I rx ry h hs
  obtain ⟨p, xs, i, z, rfl, rfl, hq, he, q⟩ := h
  cases rx
  obtain ⟨t, rfl⟩ := ry
  obtain ⟨its, r, pl, hz⟩ := I.list hq
  obtain ⟨j, h1, h2, h3, h4, h5⟩ := atI_get he
  obtain ⟨w, ew, rw'⟩ := r.get h2
  have hl := r.length
  have hn := line63
  have fin : EP X pins σ Q w s := ⟨z, H, I, rw', q⟩
  by_cases h0 : 0 ≤ i
  · have hj : i.toNat = j := by
      rw [seqIndex_of h0 h5] at h1
      exact Option.some.inj h1
    exact item_listR pl.isList h0 (by omega) (by rw [hj]; simpa using ew) fin hs
  · have hj : (i + (its.toArray.size : Int)).toNat = j := by
      rw [seqIndex_neg (by omega) h4] at h1
      rw [List.size_toArray, ← hl]
      exact Option.some.inj h1
    exact subscriptTail_builtinR (x := w) pl.isList.typeIs slot_list_getitem.lookup
      (wpAny_getItem_list_neg (Q := fun r s' => r = w ∧ EP X pins σ Q r s') pl.isList (by omega) (by rw [List.size_toArray] <;> omega) (by omega) (by rw [hj]; simpa using ew) ⟨rfl, fin⟩) hs
theorem ix_tup : IxR X (rIxT X.K) := by
  intro value slice pins s σ H x y v u Q I rx ry h hs
  obtain ⟨p, xs, i, z, rfl, rfl, hq, he, q⟩ := h
  cases rx
  obtain ⟨t, rfl⟩ := ry
  obtain ⟨its, r, pl, hz⟩ := I.tuple hq
  obtain ⟨j, h1, h2, h3, h4, h5⟩ := atI_get he
  obtain ⟨w, ew, rw'⟩ := r.get h2
  have hl := r.length
  have hn := line63
  have fin : EP X pins σ Q w s := ⟨z, H, I, rw', q⟩
  exact subscriptTail_builtinR (x := w) pl.typeIs slot_tuple_getitem.lookup
    (getItem_tuple (j := j) (Q := fun r s' => r = w ∧ EP X pins σ Q r s') pl (by omega) (by omega) (by rw [List.size_toArray, ← hl]; exact h1) (by simpa using ew) ⟨rfl, fin⟩) hs
theorem ix_str : IxR X rIxS := by
  intro value slice pins s σ H x y v u Q I rx ry h hs
  obtain ⟨z, i, c, rfl, rfl, hz, he, q⟩ := h
  obtain ⟨t, rfl⟩ := rx
  obtain ⟨t', rfl⟩ := ry
  obtain ⟨j, h1, h2, h3, h4, h5⟩ := atI_get he
  have hl : z.cps.toList.length = z.length := by simp [Str.length]
  rw [hl] at h1 h4 h5
  have hn := line63
  exact tail_any (typeIs_str s z t) slot_str_getitem.lookup (getItem_str (c := c) (by
    have e1 : decide (i < -(2 ^ 63 : Int)) = false := decide_eq_false (by omega)
    have e2 : decide (i ≥ 2 ^ 63) = false := decide_eq_false (by omega)
    rw [e1, e2, Bool.or_false]) (by rw [h1]; simpa using h2) ⟨.str ⟨#[c]⟩, H, I.tok _, ⟨_, rfl⟩, q⟩) hs

/-! ### xs[i] = v, any sign -/
/-- the list's object behind a store -/
theorem mapSeq_set (its : List Value) (n j : Nat) (u : Value) : Obj.mapSeq (·.setIfInBounds j u) { cls := .type "list", data := .seq its.toArray n } = { cls := .type "list", data := .seq (its.set j u).toArray n } := by
  simp [Obj.mapSeq]
theorem Inv.lst {pins : List (Addr × Obj)} {σ : St} {H : Hp} {s : Shared} {p : Addr} {xs : List V} (I : Inv X pins σ H s) (h : H p = some (.lst xs)) :
    ∃ (its : List Value) (n : Nat), Vals xs its ∧ s.heap.get? p = some { cls := .type "list", data := .seq its.toArray n } ∧ xs.length ≤ sizeLine := by
  obtain ⟨z, its, n, r, e⟩ := I.hok p _ h
  exact ⟨its, n, r, e, z⟩
/-- the list at p is written by an update of its object -/
theorem Inv.lstUpd {pins : List (Addr × Obj)} {σ : St} {H : Hp} {s : Shared} {p : Addr} {xs ys : List V} {its its' : List Value} {n n' : Nat} {f : Obj → Obj} (I : Inv X pins σ H s) (h : H p = some (.lst xs))
    (ho : s.heap.get? p = some { cls := .type "list", data := .seq its.toArray n }) (hf : f { cls := .type "list", data := .seq its.toArray n } = { cls := .type "list", data := .seq its'.toArray n' }) (r : Vals ys its') (hz : ys.length ≤ sizeLine) (t : Nat) :
    Inv X pins σ (upd H p (.lst ys)) { s with heap := s.heap.update p f, toks := t } := by
  have e : (s.heap.update p f).get? p = some { cls := .type "list", data := .seq its'.toArray n' } := by
    rw [Heap.get?_update_self f ho (by rw [hf] <;> rfl), hf]
  refine I.write (x := p) (e := p) (by rw [h]; trivial) (.inl rfl) (fun b u hb q => (Heap.get?_update_other _ _ (Ne.symm hb)).trans q) ⟨_, e⟩ ?_
  exact ⟨hz, its', n', r, e⟩
def rSetL : V → V → V → Hp → (Hp → Prop) → Prop := fun o i v H Q => ∃ p xs k j, o = .ref p ∧ i = .int k ∧ H p = some (.lst xs) ∧ ixN xs.length k = some j ∧ Q (upd H p (.lst (xs.set j v)))
theorem set_list : PSet X rSetL := by
  intro pins s σ H o i v ov iv u Q I ro ri rv h
  obtain ⟨p, xs, k, j, rfl, rfl, hp, hj, q⟩ := h
  cases ro
  obtain ⟨t, rfl⟩ := ri
  obtain ⟨its, n, r, ho, hz⟩ := I.lst hp
  obtain ⟨h1, h2, h3, h4⟩ := ixN_seq hj
  have hl := r.length
  have hn := line63
  have I' : Inv X pins σ (upd H p (.lst (xs.set j v))) { s with heap := s.heap.update p (Obj.mapSeq (·.setIfInBounds j u)) } :=
    I.lstUpd hp ho (mapSeq_set its n j u) (r.set rv j) (by rw [List.length_set]; exact hz) s.toks
  by_cases h0 : 0 ≤ k
  · have hk : k.toNat = j := by
      rw [seqIndex_of h0 h4] at h1
      exact Option.some.inj h1
    exact PySem.W.ki_setAt ho h0 (by omega) (by rw [List.size_toArray, ← hl]; exact h4) (by rw [hk]; exact ⟨_, I', q⟩)
  · have hk : (k + (its.toArray.size : Int)).toNat = j := by
      rw [seqIndex_neg (by omega) h3] at h1
      rw [List.size_toArray, ← hl]
      exact Option.some.inj h1
    exact PySem.W.ki_setBack ho (by omega) (by rw [List.size_toArray, ← hl]; exact h3) (by omega) (by rw [hk]; exact ⟨_, I', q⟩)

/-! ### slices -/
theorem slice_bounds (lo hi : Option Int) (n : Nat) : (sliceBounds lo hi none n).1 = ((HT.sIx n 0 lo : Nat) : Int) ∧ (sliceBounds lo hi none n).2.1 = ((HT.sIx n n hi : Nat) : Int) ∧ (sliceBounds lo hi none n).2.2 = 1 := by
  refine ⟨?_, ?_, rfl⟩
  · cases lo with
    | none => simp [sliceBounds, HT.sIx]
    | some i =>
      simp only [sliceBounds, HT.sIx, Option.getD_none, show (1 : Int) > 0 by decide, if_true]
      by_cases h : i < 0
      · simp only [h, if_true] <;> omega
      · simp only [h, if_false] <;> omega
  · cases hi with
    | none => simp [sliceBounds, HT.sIx]
    | some i =>
      simp only [sliceBounds, HT.sIx, Option.getD_none, show (1 : Int) > 0 by decide, if_true]
      by_cases h : i < 0
      · simp only [h, if_true] <;> omega
      · simp only [h, if_false] <;> omega
theorem slicePick_cut (its : List Value) (lo hi : Option Int) : slicePick its.toArray lo hi none = ((its.drop (HT.sIx its.length 0 lo)).take (HT.sIx its.length its.length hi - HT.sIx its.length 0 lo)).toArray := by
  obtain ⟨h1, h2, h3⟩ := slice_bounds lo hi its.toArray.size
  unfold slicePick
  rw [h1, h2, h3]
  simp only [sliceRange_one, pick_run, List.size_toArray] <;> rfl
/-- xs[lo:hi] of a list: a new list -/
def rSlL (K : PySem.W.Frag) : V → Option Int → Option Int → Hp → VK → Prop := fun x lo hi H Q => ∃ a xs, x = .ref a ∧ SqL K H a xs ∧ ∀ p, H p = none → Q (.ref p) (upd H p (.lst (cutV xs lo hi)))
theorem sl_list : SlR X (rSlL X.K) := by
  intro pins s σ H x v vl vu lo hi sl Q I rx hs pl pu h
  obtain ⟨a, xs, rfl, hx, q⟩ := h
  cases rx
  obtain ⟨its, r, ht, hz⟩ := I.list hx
  have hlen := r.length
  refine ⟨"list", _, slot_list_getitem.lookup, ht.isList.typeIs, ?_⟩
  refine wpAny_getItem_list_slice ht.isList hs pl pu .none (by simp) ?_ (by rw [List.size_toArray] <;> omega)
  rw [slicePick_cut, ← hlen]
  refine ⟨.ref s.heap.objs.size, _, I.laid (t' := s.toks) (o := .lst (cutV xs lo hi)) (fun b ob q => Heap.get?_push_of_some _ q) (Nat.le_refl _) ?_, rfl, q _ (I.hok.fresh (Nat.le_refl _))⟩
  exact ⟨Nat.le_trans (cutV_length xs lo hi) hz, _, 0, (r.drop (HT.sIx xs.length 0 lo)).take (HT.sIx xs.length xs.length hi - HT.sIx xs.length 0 lo), Heap.get?_push_size _ rfl⟩

/-! ### in, not in: flat items -/
def flatV : V → Bool
  | .non => true
  | .bl _ => true
  | .int _ => true
  | .str _ => true
  | _ => false
/-- == of flat values -/
def eqV : V → V → Bool
  | .non, .non => true
  | .bl a, .bl b => a == b
  | .bl a, .int b => (if a then 1 else 0) == b
  | .int a, .bl b => a == (if b then 1 else 0)
  | .int a, .int b => a == b
  | .str a, .str b => a == b
  | _, _ => false
theorem eqAt_V {A : Around} {s : Shared} {y x : V} {u v : Value} (ry : RelV y u) (rx : RelV x v) (fy : flatV y = true) (fx : flatV x = true) : SeqAt.EqAt A s u v (eqV y x) := by
  cases y with
  | non =>
    cases ry
    cases x with
    | non => cases rx; exact SeqAt.EqAt.same _
    | bl b => cases rx; exact SeqAt.EqAt.none_bool b
    | int b => obtain ⟨t, rfl⟩ := rx; exact SeqAt.EqAt.none_int b t
    | str b => obtain ⟨t, rfl⟩ := rx; exact SeqAt.EqAt.none_str b t
    | _ => exact absurd (show false = true from fx) Bool.false_ne_true
  | bl a =>
    cases ry
    cases x with
    | non => cases rx; exact SeqAt.EqAt.bool_none a
    | bl b => cases rx; exact SeqAt.EqAt.bool_bool a b
    | int b => obtain ⟨t, rfl⟩ := rx; exact SeqAt.EqAt.bool_int a b t
    | str b => obtain ⟨t, rfl⟩ := rx; exact SeqAt.EqAt.bool_str a b t
    | _ => exact absurd (show false = true from fx) Bool.false_ne_true
  | int a =>
    obtain ⟨t', rfl⟩ := ry
    cases x with
    | non => cases rx; exact SeqAt.EqAt.int_none a t'
    | bl b => cases rx; exact SeqAt.EqAt.int_bool a t' b
    | int b => obtain ⟨t, rfl⟩ := rx; exact SeqAt.EqAt.int_int a t' b t
    | str b => obtain ⟨t, rfl⟩ := rx; exact SeqAt.EqAt.int_str a t' b t
    | _ => exact absurd (show false = true from fx) Bool.false_ne_true
  | str a =>
    obtain ⟨t', rfl⟩ := ry
    cases x with
    | non => cases rx; exact SeqAt.EqAt.str_none a t'
    | bl b => cases rx; exact SeqAt.EqAt.str_bool a t' b
    | int b => obtain ⟨t, rfl⟩ := rx; exact SeqAt.EqAt.str_int a t' b t
    | str b => obtain ⟨t, rfl⟩ := rx; exact SeqAt.EqAt.str_str a t' b t
    | _ => exact absurd (show false = true from fx) Bool.false_ne_true
  | _ => exact absurd (show false = true from fy) Bool.false_ne_true
/-- the items' answers, read off the values (a value's own answer does not lean on its token) -/
def eqU (x : V) (u : Value) : Bool := match u with
  | .none => eqV .non x
  | .bool b => eqV (.bl b) x
  | .int i _ => eqV (.int i) x
  | .str z _ => eqV (.str z) x
  | _ => false
theorem eqU_of {x y : V} {u : Value} (r : RelV y u) (f : flatV y = true) : eqU x u = eqV y x := by
  cases y with
  | non => cases r; rfl
  | bl b => cases r; rfl
  | int i => obtain ⟨t, rfl⟩ := r; rfl
  | str z => obtain ⟨t, rfl⟩ := r; rfl
  | _ => exact absurd (show false = true from f) Bool.false_ne_true
theorem any_eqU {x : V} : ∀ {xs : List V} {us : List Value}, Vals xs us → xs.all flatV = true → us.any (eqU x) = xs.any fun y => eqV y x
  | _, _, .nil, _ => rfl
  | y :: xs, u :: us, .cons r t, f => by
    rw [List.all_cons, Bool.and_eq_true] at f
    rw [List.any_cons, List.any_cons, eqU_of r f.1, any_eqU t f.2]
theorem mem_eqAt {A : Around} {s : Shared} {x : V} {v : Value} (rx : RelV x v) (fx : flatV x = true) : ∀ {xs : List V} {us : List Value}, Vals xs us → xs.all flatV = true → ∀ u ∈ us, SeqAt.EqAt A s u v (eqU x u)
  | _, _, .nil, _ => fun u hu => by cases hu
  | y :: xs, u :: us, .cons r t, f => fun u' hu => by
    rw [List.all_cons, Bool.and_eq_true] at f
    rcases List.mem_cons.mp hu with rfl | hu
    · rw [eqU_of r f.1]; exact eqAt_V r rx f.1 fx
    · exact mem_eqAt rx fx t f.2 u' hu
def inV (x : V) (xs : List V) : Bool := xs.any fun y => eqV y x
/-- x in a list or tuple of flat items -/
def rIn (K : PySem.W.Frag) (neg : Bool) : R2 := fun x y H Q => ∃ p xs, y = .ref p ∧ (SqL K H p xs ∨ SqT K H p xs) ∧ flatV x = true ∧ xs.all flatV = true ∧ Q (.bl (if neg then !inV x xs else inV x xs)) H
theorem op_in_seq : OpR X (compareOp .In) (rIn X.K false) := by
  intro pins s σ H x y v u Q I rx ry h
  obtain ⟨p, xs, rfl, hq, fx, fs, q⟩ := h
  cases ry
  rcases hq with hq | hq
  · obtain ⟨its, r, pl, hz⟩ := I.list hq
    refine SeqAt.in_listAt (eqU x) pl.isList (fun w hw => mem_eqAt rx fx r fs w (by simpa using hw)) ⟨.bl _, H, I, rfl, ?_⟩
    rw [show its.toArray.any (eqU x) = its.any (eqU x) by simp, any_eqU r fs]
    exact q
  · obtain ⟨its, r, pl, hz⟩ := I.tuple hq
    refine SeqAt.in_tupleAt (eqU x) pl (fun w hw => mem_eqAt rx fx r fs w (by simpa using hw)) ⟨.bl _, H, I, rfl, ?_⟩
    rw [show its.toArray.any (eqU x) = its.any (eqU x) by simp, any_eqU r fs]
    exact q
theorem op_notIn_seq : OpR X (compareOp .NotIn) (rIn X.K true) := by
  intro pins s σ H x y v u Q I rx ry h
  obtain ⟨p, xs, rfl, hq, fx, fs, q⟩ := h
  cases ry
  rcases hq with hq | hq
  · obtain ⟨its, r, pl, hz⟩ := I.list hq
    refine SeqAt.notIn_listAt (eqU x) pl.isList (fun w hw => mem_eqAt rx fx r fs w (by simpa using hw)) ⟨.bl _, H, I, rfl, ?_⟩
    rw [show its.toArray.any (eqU x) = its.any (eqU x) by simp, any_eqU r fs]
    exact q
  · obtain ⟨its, r, pl, hz⟩ := I.tuple hq
    refine SeqAt.notIn_tupleAt (eqU x) pl (fun w hw => mem_eqAt rx fx r fs w (by simpa using hw)) ⟨.bl _, H, I, rfl, ?_⟩
    rw [show its.toArray.any (eqU x) = its.any (eqU x) by simp, any_eqU r fs]
    exact q

/-! ### len, list(x), tuple(x) of any list or tuple that is read -/
theorem call_len_seq : CallR X (.builtin "len") (fun xs H Q => ∃ p ys, xs = [.ref p] ∧ (SqL X.K H p ys ∨ SqT X.K H p ys) ∧ Q (.int ys.length) H) := by
  intro pins s σ H xs us Q I r h
  obtain ⟨p, ys, rfl, hq, q⟩ := h
  obtain ⟨u, rfl, rx⟩ := vals1 r
  cases rx
  have hn := line63
  rcases hq with hq | hq
  · obtain ⟨its, r', pl, hz⟩ := I.list hq
    have hlen := r'.length
    exact Calls.call_len_list pl.isList (by simp only [List.size_toArray] <;> omega) ⟨.int ys.length, H, I.tok _, ⟨s.toks + 1, by rw [List.size_toArray, hlen]⟩, q⟩
  · obtain ⟨its, r', pl, hz⟩ := I.tuple hq
    have hlen := r'.length
    exact len_tuple pl (by simp only [List.size_toArray] <;> omega) ⟨.int ys.length, H, I.tok _, ⟨s.toks + 1, by rw [List.size_toArray, hlen]⟩, q⟩
theorem call_len_str : CallR X (.builtin "len") (fun xs H Q => ∃ z, xs = [.str z] ∧ z.length ≤ sizeLine ∧ Q (.int z.length) H) := by
  intro pins s σ H xs us Q I r h
  obtain ⟨z, rfl, hz, q⟩ := h
  obtain ⟨u, rfl, t, rfl⟩ := vals1 r
  have hn := line63
  exact len_str (by omega) ⟨.int z.length, H, I.tok _, ⟨_, rfl⟩, q⟩
theorem call_list_of : CallR X (.type "list") (fun xs H Q => ∃ p ys, xs = [.ref p] ∧ (SqL X.K H p ys ∨ SqT X.K H p ys) ∧ ∀ l, H l = none → Q (.ref l) (upd H l (.lst ys))) := by
  intro pins s σ H xs us Q I r h
  obtain ⟨p, ys, rfl, hq, q⟩ := h
  obtain ⟨u, rfl, rx⟩ := vals1 r
  cases rx
  have fin : ∀ (its : List Value), Vals ys its → ys.length ≤ sizeLine → ∀ (h' : Heap) (c' : Nat), (∀ b o', s.heap.get? b = some o' → h'.get? b = some o') →
      h'.get? s.heap.objs.size = some { cls := .type "list", dict := none, data := .seq its.toArray c', slots := #[] } → EP X pins σ Q (.ref s.heap.objs.size) { s with heap := h' } := fun its r' hz h' c' kp e =>
    ⟨.ref s.heap.objs.size, _, I.laid (t' := s.toks) kp (Nat.le_refl _) (show ObjOk X.prog X.w _ h' _ (.lst ys) from ⟨hz, its, c', r', e⟩), rfl, q _ (I.hok.fresh (Nat.le_refl _))⟩
  rcases hq with hq | hq
  · obtain ⟨its, r', pl, hz⟩ := I.list hq
    have hlen := r'.length
    obtain ⟨o, ho, hc, n, hd⟩ := pl.isList
    exact call_list_seq p (.inl rfl) ho hc hd (fun h' c' kp e => fin its r' hz h' c' kp e) (by simp only [List.size_toArray] <;> omega)
  · obtain ⟨its, r', pl, hz⟩ := I.tuple hq
    have hlen := r'.length
    obtain ⟨o, ho, hc, n, hd⟩ := pl
    exact call_list_seq p (.inr rfl) ho hc hd (fun h' c' kp e => fin its r' hz h' c' kp e) (by simp only [List.size_toArray] <;> omega)
theorem call_tuple_of : CallR X (.type "tuple") (fun xs H Q => ∃ p ys, xs = [.ref p] ∧ ((SqL X.K H p ys ∧ ∀ l, H l = none → Q (.ref l) (upd H l (.tup ys))) ∨ (SqT X.K H p ys ∧ Q (.ref p) H))) := by
  intro pins s σ H xs us Q I r h
  obtain ⟨p, ys, rfl, h⟩ := h
  obtain ⟨u, rfl, rx⟩ := vals1 r
  cases rx
  rcases h with ⟨hq, q⟩ | ⟨hq, q⟩
  · obtain ⟨its, r', pl, hz⟩ := I.list hq
    have hlen := r'.length
    refine call_tuple_list pl.isList (fun h' kp => ?_) (by simp only [List.size_toArray] <;> omega)
    have I1 : Inv X pins σ H { s with heap := h' } := I.kept (t' := s.toks) kp
    have I2 : Inv X pins σ (upd H h'.objs.size (.tup ys)) { s with heap := h'.push { cls := .type "tuple", data := .seq its.toArray } } :=
      I1.laid (t' := s.toks) (fun b o e => Heap.get?_push_of_some _ e) (Nat.le_refl _) (show ObjOk X.prog X.w _ _ _ (.tup ys) from ⟨hz, its, r', TupN.new _ _⟩)
    exact ⟨.ref h'.objs.size, _, I2, rfl, q _ (I1.hok.fresh (Nat.le_refl _))⟩
  · obtain ⟨its, r', pl, hz⟩ := I.tuple hq
    exact call_tuple_same pl ⟨.ref p, H, I, rfl, q⟩

/-! ### the call of a builtin's method: o.m(..) -/
/-- the value is of that builtin type -/
def tyV (K : PySem.W.Frag) (T : String) (x : V) (H : Hp) : Prop := match x with
  | .str _ => T = "str"
  | .int _ => T = "int"
  | .ref p => (T = "list" ∧ ∃ xs, SqL K H p xs) ∨ (T = "tuple" ∧ ∃ o, K.lookup p = some o ∧ o.cls = .type "tuple" ∧ o.dict = none) ∨
      (T = "dict" ∧ ((∃ kvs, H p = some (.dK kvs)) ∨ ∃ kvs, H p = some (.dT kvs))) ∨ (T = "set" ∧ ∃ S n, H p = some (.set S n))
  | _ => False
theorem tyV_is {pins : List (Addr × Obj)} {σ : St} {H : Hp} {s : Shared} {T : String} {x : V} {v : Value} (I : Inv X pins σ H s) (r : RelV x v) (ty : tyV X.K T x H) :
    s.TypeIs v T ∧ ∀ a, v = .ref a → ∃ ob, s.heap.get? a = some ob ∧ ob.dict = none := by
  cases x with
  | str z =>
    obtain ⟨t, rfl⟩ := r
    cases (show T = "str" from ty)
    exact ⟨typeIs_str s z t, fun _ e => nomatch e⟩
  | int i =>
    obtain ⟨t, rfl⟩ := r
    cases (show T = "int" from ty)
    exact ⟨typeIs_int s i t, fun _ e => nomatch e⟩
  | ref p =>
    cases r
    rcases ty with ⟨rfl, xs, hq⟩ | ⟨rfl, o, hk, hc, hd⟩ | ⟨rfl, hk⟩ | ⟨rfl, S, n, hk⟩
    · obtain ⟨its, _, pl, _⟩ := I.list hq
      refine ⟨pl.isList.typeIs, fun a e => ?_⟩
      cases e
      obtain ⟨o, n, e, c, hd, _⟩ := pl
      exact ⟨o, e, hd⟩
    · refine ⟨⟨o, I.kIn p o hk, hc⟩, fun a e => ?_⟩
      cases e
      exact ⟨o, I.kIn _ o hk, hd⟩
    · have z : ∃ o, s.heap.get? p = some o ∧ o.ExactDict := by
        rcases hk with ⟨kvs, hk⟩ | ⟨kvs, hk⟩
        · obtain ⟨_, _, _, _, o, _, _, e, ex, _⟩ := I.hok p _ hk
          exact ⟨o, e, ex⟩
        · obtain ⟨_, _, _, _, o, _, _, e, ex, _⟩ := I.hok p _ hk
          exact ⟨o, e, ex⟩
      obtain ⟨o, e, ex⟩ := z
      refine ⟨⟨o, e, ex.1⟩, fun a e2 => ?_⟩
      cases e2
      exact ⟨o, e, ex.2.1⟩
    · obtain ⟨o, _, _, _, e, ex, _⟩ := I.hok p _ hk
      refine ⟨⟨o, e, ex.1⟩, fun a e2 => ?_⟩
      cases e2
      exact ⟨o, e, ex.2.1⟩
  | _ => exact False.elim ty
def tBM (K : PySem.W.Frag) (T : String) (r : V → List V → Hp → VK → Prop) (to : TE) (t : TA) : TE := fun σ H Q => to σ H fun x H1 => tyV K T x H1 ∧ t σ H1 fun xs H2 => r x xs H2 Q
variable {o e : Expr} {es : List Expr} {to : TE} {t : TA} {name : Str} {apos cpos : Pos} {T id : String} {r : V → List V → Hp → VK → Prop}
theorem pe_bm (pa : PlainAttrs T) (slot : Slot T name id) (hty : typeOf (.builtin id) = pure (.type "method_descriptor")) (hm : MtR X id r) (ho : PE X o to) (ha : PA X (e :: es) t)
    (hbase : attributeBase o name X.env (eval o X.env) = eval o X.env := by rfl)
    (hfew : ((backTo cpos (starEach (e :: es) X.env)).all (fun x => !x.1) && (backToKw cpos (keywordEach [] X.env)).all (fun x => x.1.isSome)
      && decide ((e :: es).length + ([] : List Keyword).length + (if ([] : List Keyword).isEmpty then 0 else 1) < 30)) = true := by rfl)
    (hline : (apos.endLine == cpos.line) = true := by rfl) (hs : starEach (e :: es) X.env = (false, eval e X.env) :: starEach es X.env := by rfl) (hplain : (backTo cpos (starEach es X.env)).any (·.1) = false := by rfl) :
    PE X (.Call (.Attribute o name apos) (e :: es) [] cpos) (tBM X.K T r to t) := by
  intro pins s σ H Q I h
  refine wpAny_Call_method_late hbase hfew hline rfl (thn (ho pins s σ H _ I h) fun v s1 ⟨x, H1, I1, r1, ty, q1⟩ => ?_)
  obtain ⟨h1, h2⟩ := tyV_is I1 r1 ty
  refine ⟨T, id, pa, slot, hty, h1, h2, ?_⟩
  have hA := ha cpos pins s1 σ H1 _ I1 q1
  rw [hs] at hA ⊢
  refine Calls.callWith_builtin (by show (false || (backTo cpos (starEach es X.env)).any (·.1)) = false; rw [hplain] <;> rfl) (Calls.evalArgs_plain ?_)
  exact thn hA fun us s2 ⟨vs, H2, I2, r2, q2⟩ => hm pins s2 σ H2 x vs v us Q I2 r1 r2 q2
/- xs.append(e), list.index on a module's tuple .. are MtR facts of 06m -/
end
end L2

namespace L2
open PySem PySem.Spec PyProof.Rows

def MtM (X : Cx) (id : String) (r : V → List V → Hp → VK → Prop) : Prop :=
  ∀ (pins : List (Addr × Obj)) (s : Shared) (σ : St) (H : Hp) (x : V) (xs : List V) (v : Value) (us : List Value) (Q : VK), Inv X pins σ H s → RelV x v → Vals xs us → r x xs H Q →
    wpAny (model X.prog X.w) X.A (call (.builtin id) (v :: us)) (EP X pins σ Q) X.xe s

/-! ### lists of values -/
theorem Vals.one : ∀ {x : V} {us : List Value}, Vals [x] us → ∃ u, us = [u] ∧ RelV x u
  | _, _, .cons r .nil => ⟨_, rfl, r⟩

section
variable {X : Cx} {pins : List (Addr × Obj)} {σ : St} {H : Hp} {s : Shared} {l b : Addr} {xs ys zs : List V}

/-! ### the two steps: a tracked list is rewritten, a new list is laid -/
theorem Inv.lset {its its' : List Value} {n : Nat} {f : Array Value → Array Value} {t' : Nat} (I : Inv X pins σ H s) (hH : H l = some (.lst xs))
    (e : s.heap.get? l = some { cls := .type "list", data := .seq its.toArray n }) (hf : f its.toArray = its'.toArray) (hv : Vals ys its') (hz : ys.length ≤ sizeLine) :
    Inv X pins σ (upd H l (.lst ys)) { s with heap := s.heap.update l (Obj.mapSeq f), toks := t' } := by
  have q := PySem.IsL.update e f
  rw [hf] at q
  refine I.write (x := l) (e := l) (by rw [hH]; exact trivial) (.inl rfl) (fun b' u hb hu => (Heap.get?_update_other s.heap (Obj.mapSeq f) (Ne.symm hb)).trans hu) ⟨_, q⟩ ?_
  exact ⟨hz, its', _, hv, q⟩
theorem Inv.lnew {its : List Value} {t' : Nat} (I : Inv X pins σ H s) (hv : Vals ys its) (hz : ys.length ≤ sizeLine) :
    Inv X pins σ (upd H s.heap.objs.size (.lst ys)) { s with heap := s.heap.push { cls := .type "list", data := .seq its.toArray }, toks := t' } :=
  I.laid (fun _ _ q => Heap.get?_push_of_some _ q) (Nat.le_refl _) ⟨hz, its, 0, hv, Heap.get?_push_size _ rfl⟩
theorem Inv.fresh (I : Inv X pins σ H s) : H s.heap.objs.size = none := I.hok.fresh (Nat.le_refl _)
theorem Inv.lstM (I : Inv X pins σ H s) (hH : H l = some (.lst xs)) : xs.length ≤ sizeLine ∧ ∃ (its : List Value) (n : Nat), Vals xs its ∧ xs.length = its.length ∧ s.heap.get? l = some { cls := .type "list", data := .seq its.toArray n } := by
  obtain ⟨z, its, n, r, e⟩ := I.hok l _ hH
  exact ⟨z, its, n, r, r.length, e⟩

theorem notLongL {n : Nat} (h : n ≤ sizeLine) : Builtin.List.listTooLong n = false := by
  unfold Builtin.List.listTooLong
  exact decide_eq_false (by omega)
end

section
variable {X : Cx}

/-! ### methods -/
def rAppend : V → List V → Hp → VK → Prop := fun x vs H Q => ∃ l xs y, x = .ref l ∧ vs = [y] ∧ H l = some (.lst xs) ∧ xs.length < sizeLine ∧ Q .non (upd H l (.lst (xs ++ [y])))
theorem mt_append : MtM X "list.append" rAppend := by
  intro pins s σ H x vs v us Q I rx rv h
  obtain ⟨l, xs, y, rfl, rfl, hH, hz, q⟩ := h
  cases rx
  obtain ⟨u, rfl, ru⟩ := rv.one
  obtain ⟨z, its, n, r, hl, e⟩ := I.lstM hH
  refine call_meets F.slot_list_append ⟨_, e, rfl⟩ F.entry_list_append (F.args_list_append_2 _ _) (PySem.list_append l its.toArray n u (by rw [List.size_toArray]; omega)) ⟨e, ?_⟩
  refine ⟨.non, _, I.lset (its' := its ++ [u]) hH e (by simp) (r.append (.cons ru .nil)) ?_, rfl, q⟩
  rw [List.length_append, List.length_singleton]
  omega






/-! ### list + list, list += list, list * int -/
def rCat : R2 := fun x y H Q => ∃ l b xs zs, x = .ref l ∧ y = .ref b ∧ H l = some (.lst xs) ∧ H b = some (.lst zs) ∧ xs.length + zs.length ≤ sizeLine ∧ ∀ p, H p = none → Q (.ref p) (upd H p (.lst (xs ++ zs)))
theorem op_cat : OpR X (binaryOp .Add) rCat := by
  intro pins s σ H x y v u Q I rx ry h
  obtain ⟨l, b, xs, zs, rfl, rfl, hH, hB, hz, q⟩ := h
  cases rx
  cases ry
  obtain ⟨z, its, n, r, hl, e⟩ := I.lstM hH
  obtain ⟨z2, its2, n2, r2, hl2, e2⟩ := I.lstM hB
  refine PySem.P.add_list e e2 ?_ (by rw [List.size_toArray, List.size_toArray]; omega)
  have ea : its.toArray ++ its2.toArray = (its ++ its2).toArray := by simp
  rw [ea]
  exact ⟨.ref _, _, I.lnew (t' := s.toks) (r.append r2) (by rw [List.length_append]; omega), rfl, q _ I.fresh⟩

/-! ### del xs[i] -/
end

/-! ### xs[a:b] = ys -/
section
variable {prog : Program} {w : World} {A : Around} {E : Value → Shared → Prop} {s : Shared}
set_option maxRecDepth 100000 in
end

section
variable {X : Cx}
end
end L2

namespace L2
open PySem PySem.Spec PyProof.Rows

/-! ### lists of pairs as tables -/
section
variable {κ : Type} [DecidableEq κ]
def valV (kvs : List (κ × V)) (k : κ) : Option V := (kvs.find? fun kv => decide (kv.1 = k)).map (·.2)

theorem valV_pos {p : κ × V} {r : List (κ × V)} {k : κ} (e : p.1 = k) : valV (p :: r) k = some p.2 := by simp [valV, List.find?_cons, e]
theorem valV_neg {p : κ × V} {r : List (κ × V)} {k : κ} (e : ¬ p.1 = k) : valV (p :: r) k = valV r k := by simp [valV, List.find?_cons, e]


/-- raw tables of the same keys -/
theorem KV.val {kvs : List (κ × V)} {vs : List (κ × Value)} (r : KV kvs vs) (k : κ) : RelO (valV kvs k) (valueAt vs k) := by
  unfold KV at r
  induction r with
  | nil => exact True.intro
  | @cons p q ps qs h t ih =>
    obtain ⟨h1, h2⟩ := h
    by_cases e : p.1 = k
    · have e' : q.1 = k := h1.symm.trans e
      have b : valueAt (q :: qs) k = some q.2 := by simp [valueAt, List.find?_cons, e']
      rw [valV_pos e, b]; exact h2
    · have e' : ¬ q.1 = k := fun z => e (h1.trans z)
      have b : valueAt (q :: qs) k = valueAt qs k := by simp [valueAt, List.find?_cons, e']
      rw [valV_neg e, b]; exact ih
theorem KV.length {kvs : List (κ × V)} {vs : List (κ × Value)} (r : KV kvs vs) : kvs.length = vs.length := Paired.length r
end


/-! ### a tracked dict, its keys ints and texts or tuples of these -/


section
variable {P : Program} {w : World} {H : Hp} {h : Heap} {a : Addr}
theorem rd_of {u : HO} (ok : HOk P w H h) (e : Rd H a u) : ObjOk P w H h a u := e.ok ok
theorem dk_rd {kvs : List (Key × V)} (ok : HOk P w H h) (e : Rd H a (.dK kvs)) : kvs.length ≤ sizeLine ∧ (a == sysModules) = false ∧ ∃ vs, KV kvs vs ∧ h.DictOf (mixKind P w) a vs :=
  show ObjOk P w H h a (.dK kvs) from rd_of ok e
theorem dk_of {kvs : List (Key × V)} (ok : HOk P w H h) (e : H a = some (.dK kvs)) : kvs.length ≤ sizeLine ∧ (a == sysModules) = false ∧ ∃ vs, KV kvs vs ∧ h.DictOf (mixKind P w) a vs := dk_rd ok (.inl e)
end



section
variable {X : Cx} {pins : List (Addr × Obj)} {σ : St} {H : Hp} {s : Shared} {a : Addr} {y v : V} {u r : Value} {o : Option V} {A : Around} {E : Value → Shared → Prop}

theorem Inv.big (I : Inv X pins σ H s) : sysModules < s.heap.objs.size := by
  have h : mainGlobals < s.heap.objs.size := (I.mod.glob.keeps I.bk).lt
  exact Nat.lt_trans (by decide) h

end

section
variable {X : Cx} {pins : List (Addr × Obj)} {σ : St} {H : Hp} {s : Shared} {a : Addr} {kvs : List (Key × V)} {k : Key} {u : Value} {A : Around} {E : Value → Shared → Prop}
end


/-! ### readings and rules -/



section
variable {X : Cx} {o i e value : Expr} {pos pos' tpos : Pos} {td ty tv : TE}
end


/-! ### displays -/
theorem dk_empty {P : Program} {w : World} {H : Hp} (h : Heap) (hb : sysModules < h.objs.size) : ObjOk P w H (h.push { cls := .type "dict", data := .dict #[] }) h.objs.size (.dK []) :=
  ⟨Nat.zero_le _, beq_eq_false_iff_ne.mpr (Ne.symm (Nat.ne_of_lt hb)), [], .nil, Heap.DictOf.new h⟩
/-- {}, to be a dict of the kind that is wanted -/
def tDNewK : TE := fun _ H Q => ∀ p, H p = none → Q (.ref p) (upd H p (.dK []))
section
variable {X : Cx} {pos : Pos}
theorem pe_dnewK : PE X (.Dict [] [] pos) tDNewK := fun pins s σ H Q I h =>
  wpAny_Dict_empty ⟨.ref s.heap.objs.size, _, I.laid (a := s.heap.objs.size) (o := .dK []) (t' := s.toks) (fun _ _ q => Heap.get?_push_of_some _ q) (Nat.le_refl _) (dk_empty s.heap I.big), rfl, h _ (I.hok.fresh (Nat.le_refl _))⟩
end




/-! ### methods -/
/-- a method call o.m(e) of a built-in, with one argument: what must be seen of the text -/
structure M1 (X : Cx) (o : Expr) (m : Str) (apos : Pos) (e : Expr) (cpos : Pos) : Prop where
  base : attributeBase o m X.env (eval o X.env) = eval o X.env
  few : ((backTo cpos (starEach [e] X.env)).all (fun x => !x.1) && (backToKw cpos (keywordEach [] X.env)).all (fun x => x.1.isSome)
    && decide (([e] : List Expr).length + ([] : List Keyword).length + (if ([] : List Keyword).isEmpty then 0 else 1) < 30)) = true
  line : (apos.endLine == cpos.line) = true
  trees : backTo cpos (starEach [e] X.env) = [(false, eval e X.env)]
structure M2 (X : Cx) (o : Expr) (m : Str) (apos : Pos) (e f : Expr) (cpos : Pos) : Prop where
  base : attributeBase o m X.env (eval o X.env) = eval o X.env
  few : ((backTo cpos (starEach [e, f] X.env)).all (fun x => !x.1) && (backToKw cpos (keywordEach [] X.env)).all (fun x => x.1.isSome)
    && decide (([e, f] : List Expr).length + ([] : List Keyword).length + (if ([] : List Keyword).isEmpty then 0 else 1) < 30)) = true
  line : (apos.endLine == cpos.line) = true
  trees : backTo cpos (starEach [e, f] X.env) = [(false, eval e X.env), (false, eval f X.env)]


section
variable {X : Cx} {pins : List (Addr × Obj)} {σ : St} {H : Hp} {s : Shared} {a : Addr} {y d : V} {u r : Value} {o : Option V} {A : Around} {E : Value → Shared → Prop}
end

section
variable {X : Cx} {o e f : Expr} {apos cpos : Pos} {td ty tx : TE}
end

/-! ### dict(d): a copy -/
section
variable {X : Cx} {pins : List (Addr × Obj)} {σ : St} {H : Hp} {s : Shared} {a : Addr} {kvs : List (Key × V)} {A : Around} {E : Value → Shared → Prop}
end


section
variable {X : Cx} {pins : List (Addr × Obj)} {σ : St} {H : Hp} {s : Shared} {a : Addr} {y : V} {u : Value} {A : Around} {E : Value → Shared → Prop}
end
end L2

namespace Att
open PySem PySem.W PySem.Calls PyProof.Rows

/-! ### the script -/
theorem ints_of_wellAll {P : Params} {h : Heap} : ∀ (ns : List Int) (vs : List Value), WellAll P h vs (ns.map WData.int) → IntsAre vs ns := by
  intro ns
  induction ns with
  | nil =>
    intro vs w
    rw [List.map_nil] at w
    cases w
    exact .nil
  | cons n ns ih =>
    intro vs w
    rw [List.map_cons] at w
    cases w with
    | cons a b =>
      cases a
      exact .cons _ _ (ih _ b)

theorem script_of {l : OpenLaw} {n : Nat} (hn : l.most = some n) {P : Params} {h : Heap} {args : List WData} {vals : List Value}
    (hpre : l.row.toRowW.claim.pre args = true) (hwl : WellAll P h vals args) :
    ∃ a vs ns, vals = [Value.ref a] ∧ args = [WData.list (ns.map WData.int)] ∧ h.get? a = some { cls := .type "list", data := .seq vs.toArray } ∧ IntsAre vs ns ∧ ns.length ≤ n := by
  have hsh : WShape.hasAll [] args [.list .int] = true := (pre_splitW hpre).1
  have hc : l.pre.holds [] { args := args } = true := (pre_splitW hpre).2
  obtain ⟨d, r, rfl, h1, h2⟩ := hasAllW_cons hsh
  obtain rfl := hasAllW_nil h2
  obtain ⟨xs, rfl, h3⟩ := hasW_list h1
  obtain ⟨ns, rfl⟩ := items_int h3
  have hlen : ns.length ≤ n := by
    unfold OpenLaw.pre at hc
    have h4 : (WTm.not (.lt (.lit (.int (n : Int))) (.len (.arg 0)))).holds [] { args := [.list (ns.map .int)] } = true := by
      have h4 := (holds_andW hc).1
      rw [hn] at h4
      exact h4
    have h5 := condW_of h4 (w_not (w_lt w_lit (w_len_list (w_arg rfl))))
    rw [List.length_map] at h5
    refine Nat.le_of_not_lt fun q => ?_
    have q' : (n : Int) < ((ns.length : Nat) : Int) := by omega
    first
      | (rw [decide_eq_true q'] at h5; exact absurd h5 (by decide))
      | (simp at h5; omega)
  cases hwl with
  | cons w1 w2 =>
    cases w2
    cases w1 with
    | list ho hall => exact ⟨_, _, ns, rfl, rfl, ho, ints_of_wellAll ns _ hall, hlen⟩

theorem post_true (l : OpenLaw) (args : List WData) : l.row.toRowW.claim.post args (.bool true) args = true :=
  postW_of (r := l.row.toRowW) (X := (true == true))
    (show WShape.has [] (.bool true) .bool = true by first | rfl | decide | simp [WShape.has, WShape.arms, WShape.armsAll])
    (show (WTm.eq .res (.lit (.bool true))).value [] { args := args, res := some (.bool true), after := args } = some (.bool (true == true)) from w_eq_bool (w_res rfl) w_lit) rfl

/-! ### the attachment: holds_open's last premise (the goal 'hc' behind k_head) from a wpAny of the law's body -/

/-- the same from a codeAny of the CALL (for a layer whose function contracts speak of calls) -/
theorem attach_call {l : OpenLaw} {n : Nat} {q : Program} {loose : List Str} {XP : (Str → Option Value) → Heap → Prop} {YP : World → Heap → Prop} {d : DefRec}
    (hn : l.most = some n) (hdf : d.params.defaults = [])
    (call : ∀ (w : World) (s₀ s₁ : Shared) (mg mb : Str → Option Value) (fa : Addr) (o : Obj) (pm cd doc : Value) (a : Addr) (vs : List Value) (ns : List Int),
      Ground q loose [] XP w s₀ mg mb s₁.heap → YP w s₁.heap →
      s₁.heap.get? fa = some o → o.data = .func (docDef d.name d.params d.body d.scope pm cd doc) → s₁.heap.CodeRec cd d.name → mg d.name = some (.ref fa) →
      s₁.heap.get? a = some { cls := .type "list", data := .seq vs.toArray } → IntsAre vs ns → ns.length ≤ n → s₁.gens = #[] →
      codeAny (model l.prog w) callerA (.call (.ref fa) ⟨[.ref a], []⟩) (fun r s' => r = .ok (.ret (.bool true)) ∧ OldK s₁.heap s'.heap ∧ s'.os = s₁.os ∧ AllBare s'.gens) s₁) :
    WalkO q loose XP YP l.row.toRowW d [] (fun f vs => PySem.call f vs) := by
  intro w s₀ s₁ mg mb G Y fa o pm cd doc dV kV ho hd hcd hD hmg hg args vals as hpre hlay hrd hwl hlo
  obtain rfl : dV = .none := Dflts.none hD hdf
  obtain rfl : kV = .none := Dflts.noKw hD
  obtain ⟨a, vs, ns, rfl, rfl, hobj, hints, hlen⟩ := script_of hn hpre hwl
  refine enter_call (codeAny_mono (call w s₀ s₁ mg mb fa o pm cd doc a vs ns G Y ho (fd_plain hd) hcd hmg hobj hints hlen hg) fun r s' hq => ?_)
  obtain ⟨rfl, h2, h3, h4⟩ := hq
  exact ⟨.inl ⟨.bool true, .bool true, [], rfl, fun _ => rfl, .bool true, post_true l _, fun _ => ⟨List.Pairwise.nil, fun _ hm => (nomatch hm)⟩⟩, h2, h3, h4⟩


/-! ### rules over ANY heap (no ledger) from facts about the written part K: the library's own take a ledger (News) for what they write -/
section
variable {prog : Program} {w : World} {A : Around} {E : Value → Shared → Prop} {s : Shared} {K : Frag}





/-! the whole heap as the ledger: makes every rule that writes through a ledger a rule over any heap -/

end
end Att

namespace L2
open PySem PySem.Spec PyProof.Rows

theorem vals_ints : ∀ {vs : List Value} {ns : List Int}, IntsAre vs ns → Vals (ns.map V.int) vs
  | _, _, .nil => .nil
  | _, _, .cons n t h => .cons ⟨t, rfl⟩ (vals_ints h)

/-- nothing is tracked but the script, known to the object (or it is an object of the module) -/
def Only (H : Hp) : Prop := ∀ b, H b = none ∨ ∃ o xs, H b = some (.frz o (.lst xs))

/-- THE HEAD: the law's promise, at the heap behind the top. F, the promise of the law's def, may use that base is part of the heap (so K.In base, base.Ns mainGlobals mg stand in Mod) -/
theorem law_call {P : Program} {w : World} {K : PySem.W.Frag} {mg mb : Str → Option Value} {CX : CXT} {k : Nat} {fa a : Addr} {fd : FuncData} {x : Str} {sp : Sp} {s₁ : Shared} {vs : List Value} {ns : List Int}
    (KX : K.In s₁.heap) (hns : s₁.heap.Ns mainGlobals mg) (hb : s₁.heap.Ns builtinsNs mb) (hbb : ∀ x : Str, x ≠ "__name__" → mb x = bootBuiltins x) (hlim : s₁.heap.NoLimit) (hg : s₁.gens = #[])
    (ha : s₁.heap.get? a = some { cls := .type "list", data := .seq vs.toArray }) (hi : IntsAre vs ns) (hl : ns.length ≤ sizeLine) (hr : Room k callerA)
    (F : ∀ base : Heap, K.In base → base.Ns mainGlobals mg → FnOk P w K mg base CX k fa fd [x] sp) (hbind : ∀ (s : Shared) (u : Value), BindsTo s fd ⟨[u], []⟩ [(x, u)])
    (hsp : ∀ H : Hp, Only H → SqL K H a (ns.map V.int) → sp [.ref a] H (fun v _ => v = .bl true) fun _ _ _ => False)
    (hCX : ∀ H e s', CX [] H s₁ (fun _ _ _ => False) e s' → False) :
    codeAny (model P w) callerA (.call (.ref fa) ⟨[.ref a], []⟩) (fun r s' => r = .ok (.ret (.bool true)) ∧ OldK s₁.heap s'.heap ∧ s'.os = s₁.os ∧ AllBare s'.gens) s₁ := by
  have rv := vals_ints hi
  have lenV := hi.length
  -- from an abstract heap in which nothing but the script may be tracked
  have core : ∀ H : Hp, Only H → SqL K H a (ns.map V.int) → HOk P w H s₁.heap → (∀ b, H b ≠ none → b = a) → (H a ≠ none → K.lookup a = none) →
      codeAny (model P w) callerA (.call (.ref fa) ⟨[.ref a], []⟩) (fun r s' => r = .ok (.ret (.bool true)) ∧ OldK s₁.heap s'.heap ∧ s'.os = s₁.os ∧ AllBare s'.gens) s₁ := by
    intro H hO hS hok hA hK
    have base_of : ∀ {b : Addr} {o : Obj}, s₁.heap.get? b = some o → H b = none → (hidT s₁.heap H).get? b = some o := fun e n => hidT_get e n
    have noA : ∀ {b : Addr} {o : Obj} {es : Array DictEntry} {ep : Nat}, s₁.heap.get? b = some o → o.data = .dict es ep → H b = none := fun {b o es ep} e d => by
      cases q : H b with
      | none => rfl
      | some u =>
        have e' : b = a := hA b (by rw [q]; simp)
        subst e'
        rw [ha] at e; cases e
        have d' : Data.seq vs.toArray _ = Data.dict es ep := d
        cases d'
    have nsK : ∀ {b : Addr} {m : Str → Option Value}, s₁.heap.Ns b m → (hidT s₁.heap H).Ns b m := fun {b m} ⟨o, es, ep, e, d, r⟩ => ⟨o, es, ep, base_of e (noA e d), d, r⟩
    have hKb : K.In (hidT s₁.heap H) := fun b o e => base_of (KX b o e) (by
      cases q : H b with
      | none => rfl
      | some u =>
        have e' : b = a := hA b (by rw [q]; simp)
        subst e'
        rw [hK (by rw [q]; simp)] at e; cases e)
    have hM : Mod K mg (hidT s₁.heap H) := ⟨hKb, nsK hns, ⟨mb, nsK hb, hbb⟩, let ⟨mc, h1, h2⟩ := hlim; ⟨mc, nsK h1, h2⟩⟩
    have e0 : Env0 P w K mg (hidT s₁.heap H) callerA [] s₁ H := ⟨rfl, hM, fun b o e => of_hidT e, Nat.le_of_eq (hidT_size _ _), trivial, fun b hb => absurd (show b ∈ ([] : List Addr) from hb) (by simp), hok, .of_eq hg⟩
    refine codeAny_mono ((F _ hKb (nsK hns)).run callerA [] s₁ H ⟨[.ref a], []⟩ [.ref a] [.ref a] _ _ hr e0 (hbind s₁ (.ref a)) (.cons rfl .nil) (hsp H hO hS)) fun r s' h => ?_
    cases r with
    | error e => exact (hCX H e s' h).elim
    | ok fl =>
      cases fl with
      | next => exact False.elim h
      | brk => exact False.elim h
      | cont => exact False.elim h
      | ret u =>
        obtain ⟨v, H', os, bare, un, hok', r', q⟩ := h
        have q' : v = .bl true := q
        subst q'
        obtain rfl : u = Value.bool true := r'
        refine ⟨rfl, OldK.of_keep fun b o e => ?_, os, bare⟩
        cases q : H b with
        | none => exact un.keep b o e q (by intro z; exact absurd (show b ∈ ([] : List Addr) from z) (by simp)) (by simp)
        | some u =>
          rcases hO b with z | ⟨ob, xs, z⟩
          · rw [q] at z; cases z
          · have z2 := un.frzs b ob _ z
            obtain ⟨e1, _⟩ := hok b _ z
            obtain ⟨e2, _⟩ := hok' b _ z2
            rw [e] at e1; cases e1
            exact e2
  cases hk : K.lookup a with
  | some o =>
    -- the script is one of the module's own objects
    have e := KX a o hk
    rw [ha] at e
    cases e
    refine core (fun _ => none) (fun _ => .inl rfl) (.inr ⟨_, vs.toArray, _, hk, rfl, rfl, rfl, by rw [List.size_toArray, lenV]; exact hl, by simpa using rv⟩) (fun b u z => by have z' : (none : Option HO) = some u := z; cases z') (fun b z => absurd rfl z) fun z => absurd rfl z
  | none =>
    refine core (fun b => if b = a then some (.frz { cls := .type "list", data := .seq vs.toArray } (.lst (ns.map V.int))) else none) (fun b => ?_) (.inl (.inr ⟨{ cls := .type "list", data := .seq vs.toArray }, if_pos rfl⟩)) (fun b u z => ?_) (fun b z => ?_) fun _ => hk
    · by_cases hb : b = a
      · exact .inr ⟨_, _, if_pos hb⟩
      · exact .inl (if_neg hb)
    · by_cases hb : b = a
      · have z' := (if_pos hb).symm.trans z
        cases z'
        subst hb
        exact ⟨ha, by rw [List.length_map]; exact hl, vs, _, rv, ha⟩
      · have z' := (if_neg hb).symm.trans z
        cases z'
    · by_cases hb : b = a
      · exact hb
      · exact absurd (if_neg hb) z
end L2

namespace L2
open PySem PySem.Spec PyProof.Rows


/-- the goal that k_head leaves (case hc), from the law's promise. F gives the function object fd (K's own) once, then the promise over every base -/
theorem walk_of {l : PySem.W.OpenLaw} {n k : Nat} {q : Program} {loose : List Str} {XP : (Str → Option Value) → Heap → Prop} {YP : World → Heap → Prop} {d : DefRec} {K : Params → PySem.W.Frag} {CX : World → CXT} {sp : World → Sp} {x : Str}
    (hn : l.most = some n) (hn2 : n ≤ sizeLine) (hdf : d.params.defaults = []) (hr : Room k callerA)
    (hY : ∀ (w : World) (h : Heap), YP w h → (K w.params).In h)
    (F : ∀ (w : World) (mg : Str → Option Value) (fa : Addr) (h : Heap), (K w.params).In h → h.Ns mainGlobals mg → mg d.name = some (.ref fa) →
      ∃ fd : FuncData, (∀ (s : Shared) (u : Value), BindsTo s fd ⟨[u], []⟩ [(x, u)]) ∧
        ∀ base : Heap, (K w.params).In base → base.Ns mainGlobals mg → FnOk l.prog w (K w.params) mg base (CX w) k fa fd [x] (sp w))
    (hsp : ∀ (w : World) (H : Hp) (a : Addr) (ns : List Int), ns.length ≤ n → Only H → SqL (K w.params) H a (ns.map V.int) → sp w [.ref a] H (fun v _ => v = .bl true) fun _ _ _ => False)
    (hCX : ∀ (w : World) (H : Hp) (s : Shared) (e : Value) (s' : Shared), CX w [] H s (fun _ _ _ => False) e s' → False) :
    PySem.W.WalkO q loose XP YP l.row.toRowW d [] (fun f vs => PySem.call f vs) := by
  refine Att.attach_call hn hdf fun w s₀ s₁ mg mb fa o pm cd doc a vs ns G Y ho hd hcd hmg hobj hints hlen hg => ?_
  have KX := hY w _ Y
  obtain ⟨fd, hb, hF⟩ := F w mg fa _ KX G.T.g hmg
  exact law_call KX G.T.g G.T.b G.T.builtins G.T.nolimit hg hobj hints (Nat.le_trans hlen hn2) hr hF hb (fun H hO hS => hsp w H a ns hlen hO hS) fun H e s' => hCX w H s₁ e s'
end L2

/- THE LAST THEOREM (shape; LID, My.* are yours):
   My.Adr: a structure of the addresses that your layer names (classes, functions); My.Txt K t: a structure (Prop) of the equations over K;
   My.txt_mk : {K} {implicit addresses ..} (e1 : nsIn K mainGlobals "law" = some (some (.ref f))) (e2 : K.lookup f = some ⟨oc, od, .func (fnOf "law" "law" params body scope dV kV doc pm an cdv ct), sl⟩) (e3 : codeIn K cdv "law" = true) .. : ∃ t, My.Txt K t

set_option maxRecDepth 100000 in
set_option maxHeartbeats 0 in
theorem PySem.Challenge.cw_LID_holds : PySem.Challenge.rw_LID.Holds := by
  w_on; o_law; k_head; (case hw => w_witness2)
  k_fill
  refine L2.walk_of (l := PySem.Challenge.rw_LID) (n := 63) (k := 40) (x := "script") (CX := fun w => ..) (sp := fun _ => My.sp_law) rfl (by decide) rfl ⟨rfl, by decide, by decide⟩ (fun w h Y => PySem.W.kIn_of Y) ?F ?S ?C
  case F =>
    intro w mg fa h KX G hmg
    have T : ∃ t, My.Txt (L2.KOf KX) t := by
      dsimp only [L2.KOf]                          -- K must stand as «<heap const> w.params» for k_is
      refine' My.txt_mk ?e1 ?e2 ?e3 ..
      (case e1 => PySem.W.k_is)                    -- in the order: a name -> its address -> its object -> its parts
      (case e2 => PySem.W.k_is)
      ..
    obtain ⟨t, T⟩ := T
    have e0 := hmg.symm.trans (PySem.W.mg_of KX G T.law)
    cases e0                                       -- fa is the law's own address
    exact ⟨_, fun s u => .of_eq rfl, fun base kb nb => My.law_fn T kb nb⟩     -- if «.of_eq rfl» comes too early: refine' ⟨_, ?b, fun base kb nb => My.law_fn T kb nb⟩; exact fun s u => .of_eq rfl
  case S => exact fun w H a ns hl hO hS => ..
  case C => exact ..
(the tactic k_is has no namespace: write k_is) -/

/-! SHORT WORDS over the layer: a def of the text, its body, what a loop and a test want. -/
namespace L2
open PySem PySem.Spec PyProof.Rows

/-! ### the text by places -/
/-- the j-th statement of a class's body -/
def inClass (s : Stmt) (j : Nat) : Stmt := match s with
  | .ClassDef _ _ _ body _ _ _ _ _ _ _ => body.getD j (.Pass ⟨0, 0, 0, 0⟩)
  | _ => .Pass ⟨0, 0, 0, 0⟩
def defArgs (s : Stmt) : Arguments := match s with
  | .FunctionDef _ a _ _ _ _ _ _ _ _ => a
  | _ => { posonlyargs := [], args := [], vararg := none, kwonlyargs := [], kw_defaults := [], kwarg := none, defaults := [] }
def defBody (s : Stmt) : List Stmt := match s with
  | .FunctionDef _ _ b _ _ _ _ _ _ _ => b
  | _ => []
def defScope (s : Stmt) : Scope := match s with
  | .FunctionDef _ _ _ _ _ _ sc _ _ _ => sc
  | _ => { kind := .function, names := [], isGenerator := false, isCoroutine := false }

/-! ### no exception leaves a def -/
abbrev CX0 : CXT := fun _ _ _ _ _ _ => False
abbrev E0 : XK := fun _ _ _ => False
theorem pass0 {X : Cx} : Passes CX0 X E0 := fun _ _ _ _ _ _ _ h => h.elim

/-! ### a def (or method) of the text as it stands behind the top -/
structure Fun (K : PySem.W.Frag) (x qual : Str) (st : Stmt) (f : Addr) (fd : FuncData) : Prop where
  ex : ∃ (oc : Value) (od : Option Addr) (kV doc pm : Value) (an : Option Addr) (cdv ct : Value) (osl : Array (Option Value)),
    fd = PySem.W.fnOf x qual (defArgs st) (defBody st) (defScope st) .none kV doc pm an cdv ct ∧ K.lookup f = some ⟨oc, od, .func fd, osl⟩ ∧ PySem.W.codeIn K cdv qual = true
  kp : PySem.W.keepIn K (.ref f) = true
section
variable {P : Program} {w : World} {K : PySem.W.Frag} {mg : Str → Option Value} {base : Heap}
/-- THE RULE for a def: its body as a term of rules, and the reading of that term -/
theorem Fun.ok {x qual : Str} {st : Stmt} {f : Addr} {fd : FuncData} {N ps : List Str} {k : Nat} {sp : Sp} (F : Fun K x qual st f fd) (S : FnScope N ps (defScope st)) (len : ∀ vs H Q E, sp vs H Q E → vs.length = ps.length)
    (hbody : ∀ (cdv : Value) (A : Around) (outer : List Env) (s : Shared) (H : Hp) (vs : List V) (Q : VK) (E : XK), Room k (A.deeper (envOfC qual (defScope st) s.heap.objs.size f cdv)) → sp vs H Q E →
      ∃ t, PSs (cxOf CX0 P w K mg base N qual (defScope st) f cdv A outer s H E).nox (defBody st) t ∧ t { nx := fun _ H' => Q .non H', rt := Q } (start N vs) H) : FnOk P w K mg base CX0 (k + 1) f fd ps sp := by
  obtain ⟨oc, od, kV, doc, pm, an, cdv, ct, osl, rfl, lk, hcd⟩ := F.ex
  refine fn_of lk hcd S len fun A outer s H vs Q E hr hsp => ?_
  obtain ⟨t, h, q⟩ := hbody cdv A outer s H vs Q E hr hsp
  exact ⟨t, h.nox, q⟩
/-- how its arguments bind (no defaults): h is «fun _ _ _ _ _ _ us hl => match us, hl with | [_, _], _ => rfl», one _ a parameter -/
theorem Fun.binds {x qual : Str} {st : Stmt} {f : Addr} {fd : FuncData} {ps : List Str} (F : Fun K x qual st f fd)
    (h : ∀ (kV doc pm : Value) (an : Option Addr) (cdv ct : Value) (us : List Value), us.length = ps.length → bindArgs (PySem.W.fnOf x qual (defArgs st) (defBody st) (defScope st) .none kV doc pm an cdv ct) ⟨us, []⟩ = pure (ps.zip us)) : Binds K fd ps [] := by
  obtain ⟨oc, od, kV, doc, pm, an, cdv, ct, osl, rfl, lk, hcd⟩ := F.ex
  exact .all (h kV doc pm an cdv ct)
theorem fun_mk {x qual : Str} {st : Stmt} {f : Addr} {oc : Value} {od an : Option Addr} {osl : Array (Option Value)} {kV doc pm cdv ct : Value} (l : K.lookup f = some ⟨oc, od, .func (PySem.W.fnOf x qual (defArgs st) (defBody st) (defScope st) .none kV doc pm an cdv ct), osl⟩)
    (c : PySem.W.codeIn K cdv qual = true) (k : PySem.W.keepIn K (.ref f) = true) : Fun K x qual st f (PySem.W.fnOf x qual (defArgs st) (defBody st) (defScope st) .none kV doc pm an cdv ct) := ⟨⟨oc, od, kV, doc, pm, an, cdv, ct, osl, rfl, l, c⟩, k⟩
end
theorem small1000 {n : Nat} (h : n ≤ 1000) : n < sizeLine := Nat.lt_of_le_of_lt h (by decide)

/-! ### expressions in short: the name that stands in the i-th slot -/
section
variable {X : Cx}
theorem pv (i : Nat) {x : Str} {pos : Pos} (hN : X.N[i]? = some x := by rfl) (hv : Vis X.env.scope x := by first | exact Or.inl rfl | exact Or.inr (Or.inl rfl) | exact Or.inr (Or.inr rfl)) (hd : (x == ("__debug__" : Str)) = false := by decide)
    (hcd : (x == ("__classdict__" : Str)) = false := by decide) : PE X (.Name x pos) (tVar i) := pe_var hN hv hd hcd
end

/-! ### tests -/
theorem iteF {A B : Prop} (h : B) : if false = true then A else B := by
  rw [if_neg Bool.false_ne_true]
  exact h
theorem iteT {A B : Prop} (h : A) : if true = true then A else B := by
  rw [if_pos rfl]
  exact h
theorem ite2 {c A B : Prop} [Decidable c] (h1 : c → A) (h2 : ¬ c → B) : if c then A else B := by
  by_cases h : c
  · rw [if_pos h]
    exact h1 h
  · rw [if_neg h]
    exact h2 h

/-! ### heaps -/
/-- all that was tracked is as it was -/
def Same (H H' : Hp) : Prop := ∀ b o, H b = some o → H' b = some o
theorem Same.refl (H : Hp) : Same H H := fun _ _ h => h
theorem Same.trans {H H1 H2 : Hp} (a : Same H H1) (b : Same H1 H2) : Same H H2 := fun c o h => b c o (a c o h)
theorem Same.seq {K : PySem.W.Frag} {H H' : Hp} {a : Addr} {xs : List V} (e : Same H H') (h : SqL K H a xs) : SqL K H' a xs := by
  rcases h with (h | ⟨o, h⟩) | h
  · exact .inl (.inl (e _ _ h))
  · exact .inl (.inr ⟨o, e _ _ h⟩)
  · exact .inr h

/-! ### a dict's pairs: keys that differ -/
section
variable {κ : Type} [DecidableEq κ]
end
end L2
namespace L2
open PySem PySem.Spec PyProof.Rows
section
variable {X : Cx}
/-- text[lo:hi] -/
def rSlS : V → Option Int → Option Int → Hp → VK → Prop := fun x lo hi H Q => ∃ z, x = .str z ∧ z.length ≤ sizeLine ∧ Q (.str (Txt.slice z lo hi)) H
theorem part_val {v : Value} {o : Option Int} (p : IsPart v o) : ∃ q : Option (Int × Tok), v = partValue q ∧ o = q.map (·.1) := by
  cases p with
  | none => exact ⟨none, rfl, rfl⟩
  | int i t => exact ⟨some (i, t), rfl, rfl⟩
theorem sl_str : SlR X rSlS := by
  intro pins s σ H x v vl vu lo hi sl Q I rx hs pl pu h
  obtain ⟨z, rfl, hz, q⟩ := h
  obtain ⟨t, rfl⟩ := rx
  obtain ⟨l, rfl, rfl⟩ := part_val pl
  obtain ⟨u, rfl, rfl⟩ := part_val pu
  refine ⟨"str", _, PySem.F.slot_str_getitem.lookup, typeIs_str _ _ _, ?_⟩
  have hq : ∀ t' k, EP X pins σ Q (.str (Txt.slice z (l.map (·.1)) (u.map (·.1))) t') { s with toks := k } := fun t' k => ⟨.str _, H, I.tok k, ⟨t', rfl⟩, q⟩
  have hl := Nat.le_trans (Txt.slice_le z (l.map (·.1)) (u.map (·.1))) hz
  cases l <;> cases u <;> exact wpAny_getItem_str_slice (st := none) hs rfl (post_val_or_str ⟨hl, fun t' k => hq t' k⟩)
end

/-! ### two lists that hold the same, lists and dicts within -/
/-- the two are equal here -/
def EqW (P : Program) (w : World) (A : Around) (s : Shared) (y x : Value) : Prop := ∀ (E : Value → Shared → Prop) (Q : Bool → Shared → Prop), Q true s → wpAny (model P w) A (eqBool y x) Q E s
section
variable {P : Program} {w : World} {A : Around} {s : Shared}
theorem EqW.of {y x : Value} (h : SeqAt.EqAt A s y x true) : EqW P w A s y x := fun E Q q => h P w E Q q
theorem EqW.refs {l b : Addr} (hne : l ≠ b) (h : ∀ (E : Value → Shared → Prop) (Q : Value → Shared → Prop), Q (.bool true) s → wpAny (model P w) A (richCompare .Eq (.ref l) (.ref b)) Q E s) : EqW P w A s (.ref l) (.ref b) := by
  intro E Q q
  unfold eqBool
  refine wpAny_holding ?_
  refine wpAny_ite_split (fun z => absurd (by have := eq_of_beq z; injection this) hne) (fun _ => ?_)
  exact wpAny_bind (h E _ (wpAny_truthy_bool q))
end
section
open AutoSeq1 (wpAny_loadPart')
open MeetsSeq MeetsSeq2 MeetsSeq3
theorem ne_loopW (P : Program) (w : World) (a b : Addr) (us vs : Array Value) (n1 n2 : Nat) (d1 d2 : Option Addr) (s1 s2 : Array (Option Value)) (hz : us.size = vs.size) (m : Nat) :
    ∀ i : Nat, us.size - i = m → MeetsIn P w (Builtin.«list.__eq__.loop» ⟨[.ref a, .ref b, rawInt i, rawInt 3], []⟩)
      (fun A R s => s.heap.get? a = some { cls := .type "list", dict := d1, data := .seq us n1, slots := s1 } ∧ s.heap.get? b = some { cls := .type "list", dict := d2, data := .seq vs n2, slots := s2 } ∧
        (∀ j (h1 : j < us.size) (h2 : j < vs.size), EqW P w A.in1 s us[j] vs[j]) ∧ R (.ok (.ret (.bool false))) s) := by
  induction m with
  | zero =>
    intro i hm A R st hh
    obtain ⟨k0, k1, k2, k3, k4⟩ := st
    obtain ⟨hA, hB, hE, hR⟩ := hh
    wp_walk using wpAny_loadPart' hA, wpAny_loadPart' hB
    have e1 : us[((i : Nat) : Int).toNat]? = none := by simp; omega
    have e2 : vs[((i : Nat) : Int).toNat]? = none := by simp; omega
    rw [e1, e2]
    wp_walk using wpAny_loadPart' hA, wpAny_loadPart' hB
    show R (.ok (.ret (.bool (us.size != vs.size)))) _
    rw [hz]
    simpa using hR
  | succ m ih =>
    intro i hm A R st hh
    obtain ⟨k0, k1, k2, k3, k4⟩ := st
    obtain ⟨hA, hB, hE, hR⟩ := hh
    wp_walk using wpAny_loadPart' hA, wpAny_loadPart' hB
    have l1 : i < us.size := by omega
    have l2 : i < vs.size := by omega
    have e1 : us[((i : Nat) : Int).toNat]? = some us[i] := by simp [l1]
    have e2 : vs[((i : Nat) : Int).toNat]? = some vs[i] := by simp [l2]
    have e3 : ((i : Int) + 1) = ((i + 1 : Nat) : Int) := by push_cast; rfl
    rw [e1, e2]
    refine wpAny_bind (hE i l1 l2 _ _ ?_)
    wp_walk
    rw [e3]
    exact ⟨plainId_quiet plain_eq_loop _, codeAny_builtin entry_eq_loop (by
      rw [Around.under_plainId plain_eq_loop _]
      exact ih (i + 1) (by omega) A R _ ⟨hA, hB, hE, hR⟩)⟩
theorem list_neW (P : Program) (w : World) (a b : Addr) (us vs : Array Value) (n1 n2 : Nat) (d1 d2 : Option Addr) (s1 s2 : Array (Option Value)) (hz : us.size = vs.size) :
    MeetsIn P w (Builtin.«list.__ne__» ⟨[.ref a, .ref b], []⟩)
      (fun A R s => s.heap.get? a = some { cls := .type "list", dict := d1, data := .seq us n1, slots := s1 } ∧ s.heap.get? b = some { cls := .type "list", dict := d2, data := .seq vs n2, slots := s2 } ∧
        (∀ j (h1 : j < us.size) (h2 : j < vs.size), EqW P w A.in1 s us[j] vs[j]) ∧ R (.ok (.ret (.bool false))) s) := by
  intro A R st hh
  obtain ⟨k0, k1, k2, k3, k4⟩ := st
  obtain ⟨hA, hB, hE, hR⟩ := hh
  have fs := AutoSeq1.sub_list_list
  have hn : ¬ (us.size != vs.size) = true := by simp [hz]
  wp_walk using wpAny_loadPart' hA, wpAny_loadPart' hB
  exact ⟨plainId_quiet plain_eq_loop _, codeAny_builtin entry_eq_loop (by
    rw [Around.under_plainId plain_eq_loop _]
    exact ne_loopW P w a b us vs n1 n2 d1 d2 s1 s2 hz _ 0 rfl A R _ ⟨hA, hB, hE, hR⟩)⟩
end
/-- equal, down to lists and dicts of flat things -/
inductive EqT (K : PySem.W.Frag) (H : Hp) : V → V → Prop
  | flat {x : V} : flatV x = true → EqT K H x x
  | lst {a b : Addr} {xs : List V} : SqL K H a xs → SqL K H b xs → (∀ x ∈ xs, flatV x = true) → EqT K H (.ref a) (.ref b)
  | dk {a b : Addr} {kvs : List (Key × V)} : H a = some (.dK kvs) → H b = some (.dK kvs) → (kvs.map (·.1)).Nodup → (∀ p ∈ kvs, flatV p.2 = true) → EqT K H (.ref a) (.ref b)
theorem eqV_self {x : V} (h : flatV x = true) : eqV x x = true := by
  cases x <;> first | (simp [eqV]; done) | (simp [flatV] at h; done) | (simp [eqV, flatV] at *)
theorem valV_mem {κ : Type} [DecidableEq κ] {k : κ} {v : V} : ∀ {kvs : List (κ × V)}, (kvs.map (·.1)).Nodup → (k, v) ∈ kvs → valV kvs k = some v
  | [], _, h => by cases h
  | p :: r, hn, h => by
    have hn : (p.1 :: r.map (·.1)).Nodup := hn
    obtain ⟨h1, h2⟩ := List.nodup_cons.mp hn
    rcases List.mem_cons.mp h with e | h
    · subst e; exact valV_pos rfl
    · rw [valV_neg fun e => h1 (e ▸ List.mem_map.mpr ⟨_, h, rfl⟩)]
      exact valV_mem h2 h
section
variable {X : Cx} {pins : List (Addr × Obj)} {σ : St} {H : Hp} {s : Shared} {A : Around}
theorem hits_all {A : Around} {s : Shared} {kb : List (Key × Value)} : ∀ (ka : List (Key × Value)), (∀ p ∈ ka, ∃ y, valueAt kb p.1 = some y ∧ SeqAt.EqAt A s p.2 y true) → PySem.W.KeqHits A s kb ka true
  | [], _ => .nil
  | (k, v) :: r, h => by
    obtain ⟨y, e1, e2⟩ := h (k, v) List.mem_cons_self
    exact .hit (e := true) (b := true) e1 e2 (hits_all r fun p hp => h p (List.mem_cons_of_mem _ hp))
theorem kv_mem {κ : Type} : ∀ {kvs : List (κ × V)} {vs : List (κ × Value)}, KV kvs vs → ∀ q ∈ vs, ∃ p ∈ kvs, p.1 = q.1 ∧ RelV p.2 q.2
  | _, _, .nil, q, h => by cases h
  | _, _, .cons r t, q, h => by
    rcases List.mem_cons.mp h with e | h
    · subst e; exact ⟨_, List.mem_cons_self, r⟩
    · obtain ⟨p, hp, z⟩ := kv_mem t q h
      exact ⟨p, List.mem_cons_of_mem _ hp, z⟩
theorem eqT_w {x y : V} {u v : Value} (I : Inv X pins σ H s) (e : EqT X.K H x y) (ru : RelV x u) (rv : RelV y v) (hu : A.units + 4 < cLine) : EqW X.prog X.w A s u v := by
  cases e with
  | flat f =>
    have z := eqAt_V (A := A) (s := s) ru rv f f
    rw [eqV_self f] at z
    exact .of z
  | @lst a b xs h1 h2 hf =>
    cases ru
    cases rv
    by_cases hab : a = b
    · subst hab
      exact .of (SeqAt.EqAt.same _)
    · obtain ⟨i1, r1, p1, z1⟩ := I.list h1
      obtain ⟨i2, r2, p2, z2⟩ := I.list h2
      have l1 := r1.length
      have l2 := r2.length
      have q := SeqAt.RcAt.lists (A := A) (e := fun _ => true) p1.isList p2.isList (by simp; omega) (by omega) (fun j j1 j2 => by
        have j1' : j < i1.length := by simpa using j1
        have j2' : j < i2.length := by simpa using j2
        have jx : j < xs.length := by omega
        obtain ⟨u1, e1, w1⟩ := r1.get (i := j) (x := xs[j]) (List.getElem?_eq_getElem jx)
        obtain ⟨u2, e2, w2⟩ := r2.get (i := j) (x := xs[j]) (List.getElem?_eq_getElem jx)
        rw [List.getElem?_eq_getElem j1'] at e1
        rw [List.getElem?_eq_getElem j2'] at e2
        have f := hf _ (List.getElem_mem jx)
        have z := eqAt_V (A := A.in1) (s := s) w1 w2 f f
        rw [eqV_self f] at z
        have g1 : i1.toArray[j] = u1 := by simpa using Option.some.inj e1
        have g2 : i2.toArray[j] = u2 := by simpa using Option.some.inj e2
        rw [g1, g2]
        exact z)
      have qt : ((List.range i1.toArray.size).all fun _ => true) = true := by simp
      rw [qt] at q
      exact .of (SeqAt.EqAt.of_refs hab q)
  | @dk a b kvs h1 h2 hn hf =>
    cases ru
    cases rv
    by_cases hab : a = b
    · subst hab
      exact .of (SeqAt.EqAt.same _)
    · obtain ⟨z1, y1, v1, k1, d1⟩ := dk_of I.hok h1
      obtain ⟨z2, y2, v2, k2, d2⟩ := dk_of I.hok h2
      refine EqW.refs hab fun E Q q => ?_
      refine PySem.W.keq_eq (r := true) y1 y2 d1 d2 (by omega) (fun _ => hits_all _ fun p hp => ?_) ?_
      · obtain ⟨p', hp', e1, e2⟩ := kv_mem k1 p hp
        have hv : valV kvs p.1 = some p'.2 := valV_mem hn (by rw [← e1]; exact hp')
        have hr := k2.val p.1
        rw [hv] at hr
        obtain ⟨y, ey, ry⟩ := RelO.some_of hr
        have f := hf p' hp'
        have z := eqAt_V (A := A.in1) (s := s) e2 ry f f
        rw [eqV_self f] at z
        exact ⟨y, ey, z⟩
      · have e : (v1.length == v2.length) = true := by
          rw [← k1.length, ← k2.length]
          exact beq_self_eq_true _
        rw [e]
        exact q
/-- xs != ys, which hold the same -/
theorem op_ne_deep (hu : X.A.units + 8 < cLine) : OpR X (compareOp .NotEq) (fun x y H Q => ∃ a b xs ys, x = .ref a ∧ y = .ref b ∧ SqL X.K H a xs ∧ SqL X.K H b ys ∧ Paired (EqT X.K H) xs ys ∧ Q (.bl false) H) := by
  intro pins s σ H x y v u Q I r1 r2 h
  obtain ⟨a, b, xs, ys, rfl, rfl, h1, h2, hp, q⟩ := h
  cases r1
  cases r2
  obtain ⟨i1, w1, p1, z1⟩ := I.list h1
  obtain ⟨i2, w2, p2, z2⟩ := I.list h2
  have l1 := w1.length
  have l2 := w2.length
  have l3 := Paired.length hp
  obtain ⟨⟨c1, g1, t1, o1⟩, e1, f1, n1, m1⟩ := id p1.isList
  obtain ⟨⟨c2, g2, t2, o2⟩, e2, f2, n2, m2⟩ := id p2.isList
  simp only at f1 m1 f2 m2
  subst f1 m1 f2 m2
  have pg : ∀ {xs ys : List V}, Paired (EqT X.K H) xs ys → ∀ (j : Nat) (x y : V), xs[j]? = some x → ys[j]? = some y → EqT X.K H x y := by
    intro xs ys h
    induction h with
    | nil => intro j x y e; simp at e
    | cons r _ ih =>
      intro j x y e e'
      cases j with
      | zero => simp at e e'; subst e; subst e'; exact r
      | succ j => exact ih j x y (by simpa using e) (by simpa using e')
  refine wpAny_richCompare_same_room (op := .NotEq) ⟨_, e1, rfl⟩ ⟨_, e2, rfl⟩ PySem.F.slot_list_ne (call_meetsIn PySem.F.slot_list_ne ⟨_, e1, rfl⟩ PySem.F.entry_list_ne (PySem.F.args_list_ne_2 _ _)
    (list_neW X.prog X.w a b i1.toArray i2.toArray _ _ _ _ _ _ (by simp; omega)) ⟨e1, e2, fun j j1 j2 => ?_, ?_⟩) (by omega)
  · have j1' : j < i1.length := by simpa using j1
    have j2' : j < i2.length := by simpa using j2
    have jx : j < xs.length := by omega
    have jy : j < ys.length := by omega
    obtain ⟨u1, q1, t1⟩ := w1.get (i := j) (x := xs[j]) (List.getElem?_eq_getElem jx)
    obtain ⟨u2, q2, t2⟩ := w2.get (i := j) (x := ys[j]) (List.getElem?_eq_getElem jy)
    rw [List.getElem?_eq_getElem j1'] at q1
    rw [List.getElem?_eq_getElem j2'] at q2
    have g1 : i1.toArray[j] = u1 := by simpa using Option.some.inj q1
    have g2 : i2.toArray[j] = u2 := by simpa using Option.some.inj q2
    rw [g1, g2]
    exact eqT_w I (pg hp j _ _ (List.getElem?_eq_getElem jx) (List.getElem?_eq_getElem jy)) t1 t2 (by show X.A.units + 1 + 4 < cLine; omega)
  · show Value.bool false ≠ Value.notImplemented ∧ _
    exact ⟨(fun z => nomatch z), ⟨.bl false, H, I, rfl, q⟩⟩
/-- xs != [] -/
theorem op_ne_nil (hu : X.A.units + 8 < cLine) : OpR X (compareOp .NotEq) (fun x y H Q => ∃ a b xs, x = .ref a ∧ y = .ref b ∧ SqL X.K H a xs ∧ SqL X.K H b [] ∧ Q (.bl (!xs.isEmpty)) H) := by
  intro pins s σ H x y v u Q I r1 r2 h
  obtain ⟨a, b, xs, rfl, rfl, h1, h2, q⟩ := h
  cases r1
  cases r2
  obtain ⟨i1, w1, p1, z1⟩ := I.list h1
  obtain ⟨i2, w2, p2, z2⟩ := I.list h2
  cases w2
  cases xs with
  | nil =>
    cases w1
    exact SeqAt.RcNeAt.lists (A := X.A) (e := fun _ => true) p1.isList p2.isList rfl (by omega) (fun j j1 => absurd j1 (Nat.not_lt_zero _)) _ _ _ _ ⟨.bl false, H, I, rfl, q⟩
  | cons x r =>
    have l1 := w1.length
    refine SeqAt.RcNeAt.lists_lengths (A := X.A) p1.isList p2.isList ?_ (by omega) _ _ _ _ ⟨.bl true, H, I, rfl, q⟩
    simp only [List.size_toArray, ← l1]
    rfl
end

/-! ### [elt for target in iter], no name of the def around within -/
section
variable {X : Cx}
end
end L2
namespace L2
open PySem PySem.Spec PyProof.Rows
/-! ### [elt for target in iter if test], names of the def around within -/
section
variable {X : Cx}
def cxLG (X : Cx) (N' : List Str) (scope : Scope) (cl : List (Str × Addr)) (s : Shared) (H : Hp) (ex : List Addr) : Cx where
  prog := X.prog
  w := X.w
  K := X.K
  mg := X.mg
  base := X.base
  A := X.A
  N := N'
  s₀ := s
  H₀ := H
  env := compEnvC scope cl s.heap.objs.size X.env
  outer := X.stack
  stack := X.stack
  ex := ex
  calm := true
  fn := fun _ => false
  pn := []
  xe := fun _ _ => False
/-- the names of the def around that stand within: name, its place there -/
inductive Caps (X : Cx) (scope : Scope) (cl : List (Str × Addr)) : List (Str × Nat) → Prop
  | nil : Caps X scope cl []
  | cons {x : Str} {j : Nat} {r : List (Str × Nat)} : X.N[j]? = some x → (X.env.kindOf x = some .cell ∨ X.env.kindOf x = some .free) → (cl.lookup x = X.env.cells.lookup x) → Caps X scope cl r → Caps X scope cl ((x, j) :: r)
theorem Caps.get {scope : Scope} {cl : List (Str × Addr)} : ∀ {caps : List (Str × Nat)}, Caps X scope cl caps → ∀ q ∈ caps, X.N[q.2]? = some q.1 ∧ (X.env.kindOf q.1 = some .cell ∨ X.env.kindOf q.1 = some .free) ∧ cl.lookup q.1 = X.env.cells.lookup q.1
  | _, .nil, q, h => by cases h
  | _, .cons a b c r, q, h => by
    rcases List.mem_cons.mp h with rfl | h
    · exact ⟨a, b, c⟩
    · exact r.get q h
def capV (σ : St) (caps : List (Str × Nat)) : St := caps.map fun p => (σ[p.2]?).join
/-- the tests -/
def PIf (X : Cx) (ifs : List Expr) (t : TT) : Prop :=
  ∀ (pins : List (Addr × Obj)) (s : Shared) (σ : St) (H : Hp) (Q : Bool → Hp → Prop), Inv X pins σ H s → t σ H Q →
    wpAny (model X.prog X.w) X.A (forIn ifs true fun c r => if r = true then do let ok ← isTrue c X.env (eval c X.env); pure (ForInStep.yield ok) else pure (ForInStep.yield r)) (TP X pins σ Q) X.xe s
def tYes : TT := fun _ H Q => Q true H
theorem pif_nil : PIf X [] tYes := fun _ _ _ H _ I h => wpAny_tests_nil ⟨H, I, h⟩
theorem pif_one {c : Expr} {t : TT} (h : PT X c t) : PIf X [c] t := fun pins s σ H Q I hw => wpAny_tests_one (h pins s σ H Q I hw)
def tLG (n : Nat) (caps : List (Str × Nat)) (wi : TI) (g : TG) (tt : TT) (te : TE) : TE := fun σ H Q => wi σ H fun J H1 => ∀ D, H1 D = none →
  ∃ W : Nat → Nat → St → Hp → Prop, (∃ m, W 0 m (List.replicate n none ++ capV σ caps) (upd H1 D (.lst []))) ∧ ∀ i m σ' H', W i m σ' H' →
    (J.stop i H' ∧ Q (.ref D) H') ∨ (J.go i H' ∧ ∃ N : St → Hp → Prop, (∀ σ2 H2, N σ2 H2 → ∃ m', m' < m ∧ W (i + 1) m' σ2 H2) ∧
      ∀ x H2, J.yld i H' x H2 → g x σ' H2 fun σ3 H3 => tt σ3 H3 fun b H4 => if b = true then te σ3 H4 fun y H5 => ∃ xs, H5 D = some (.lst xs) ∧ xs.length < sizeLine ∧ N σ3 (upd H5 D (.lst (xs ++ [y]))) else N σ3 H4)
structure LcOk (X : Cx) (scope : Scope) (cl : List (Str × Addr)) (caps : List (Str × Nat)) : Prop where
  kind : scope.kind = .function
  cell : ∀ x ∈ scope.names, x.2 ≠ .cell
  names : ∀ x ∈ scope.names, x.2 = .local → scope.names.lookup x.1 = some .local
  clos : closureFor scope X.env = pure cl
  cap : Caps X scope cl caps
  sub : (cl.all fun p => caps.any fun q => q.1 == p.1) = true
  has : ((relabel scope X.env).names.all fun p => p.2 == .local || p.2 == .globalImplicit || (cl.lookup p.1).isSome) = true
  own : (caps.all fun q => ((relabel scope X.env).names.lookup q.1 == some .cell) || ((relabel scope X.env).names.lookup q.1 == some .free)) = true
theorem LcOk.at {scope : Scope} {cl : List (Str × Addr)} {caps : List (Str × Nat)} (h : LcOk X scope cl caps) {x : Str} {c : Addr} (e : cl.lookup x = some c) : X.env.cells.lookup x = some c := by
  have h1 := List.all_eq_true.mp h.sub _ (PySem.mem_of_lookup e)
  obtain ⟨q, hq, e1⟩ := List.any_eq_true.mp h1
  have e2 : q.1 = x := by simpa using e1
  have := (h.cap.get q hq).2.2
  rw [e2] at this
  rw [← this]; exact e
theorem lcg_start {pins : List (Addr × Obj)} {σ : St} {H : Hp} {s : Shared} {h4 : Heap} {m : Str → Option Value} {tk : Nat} {own : List Str} {caps : List (Str × Nat)} {cl : List (Str × Addr)} {scope : Scope} {fp : List Addr} (hc : X.calm = true) (I : Inv X pins σ H s)
    (f : ∀ b ∈ fp, FpOk X pins H b) (fo : ∀ b ∈ fp, ∃ o, s.heap.get? b = some o) (L : LcOk X scope cl caps)
    (hn : h4.Ns s.heap.objs.size m) (kp : ∀ b o, s.heap.get? b = some o → h4.get? b = some o) : Inv (cxLG X (own ++ caps.map (·.1)) scope cl s H fp) [] (List.replicate own.length none ++ capV σ caps) H { s with heap := h4, toks := tk } := by
  refine ⟨⟨I.ok.mod, L.kind, I.ok.glob, I.ok.blt, Nat.le_refl _, fun x y c e1 e2 => I.ok.inj x y c (L.at e1) (L.at e2), fun x z => ?_, (fun x c e => by cases e), fun _ => I.ok.hd hc, I.ok.frames, .inl rfl, fun b hb => ⟨?_, fun x c e => ?_⟩, I.bs,
    Nat.le_trans I.ok.bsz I.sz, fun b o e hb => ?_, fun b hb hm => ?_, I.stack, I.stkFree⟩, rfl, I.bare, Un.kept kp, ⟨m, hn, fun i x v e1 e2 e3 => ?_⟩, fun x c e => ?_, I.hok.fresh (Nat.le_refl _), fun x c e => I.freeC x c (L.at e), (fun p hp => nomatch hp), I.hok.kept kp, ?_⟩
  · have z' : (relabel scope X.env).names.lookup x = some .cell ∨ (relabel scope X.env).names.lookup x = some .free := z
    have key : ∀ k, (k = NameKind.cell ∨ k = NameKind.free) → (relabel scope X.env).names.lookup x = some k → ∃ c, cl.lookup x = some c := by
      intro k hk hz
      have h1 := List.all_eq_true.mp L.has _ (PySem.mem_of_lookup hz)
      rcases hk with rfl | rfl
      · have : (cl.lookup x).isSome = true := by simpa using h1
        exact Option.isSome_iff_exists.mp this
      · have : (cl.lookup x).isSome = true := by simpa using h1
        exact Option.isSome_iff_exists.mp this
    rcases z' with z' | z'
    · exact key _ (.inl rfl) z'
    · exact key _ (.inr rfl) z'
  · obtain ⟨o, e⟩ := fo b hb
    exact Nat.ne_of_lt (Heap.lt_size e)
  · exact (f b hb).2.2.2.2.1 x c (L.at e)
  · obtain ⟨_, _, _, z, _⟩ := f b hb
    rcases z with z | z
    · exact I.ok.noex b o e z
    · exact absurd (Nat.lt_of_lt_of_le (Heap.lt_size e) (Nat.le_trans I.ok.bsz z)) (Nat.lt_irrefl _)
  · obtain ⟨_, z1, z2, _⟩ := f b hb
    rcases List.mem_cons.mp (I.stkSub b hm) with z | z
    · exact z1 z
    · exact z2 z
  · have hlt : own.length ≤ i := by
      rcases Nat.lt_or_ge i own.length with z | z
      · rw [List.getElem?_append_left (by simpa using z), List.getElem?_replicate] at e2
        rw [if_pos z] at e2; cases e2
      · exact z
    rw [List.getElem?_append_right (by simpa using hlt), List.length_replicate] at e2
    have e1' : (caps.map (·.1))[i - own.length]? = some x := by
      have : (own ++ caps.map (·.1))[i]? = some x := e1
      rw [List.getElem?_append_right hlt] at this; exact this
    unfold capV at e2
    rw [List.getElem?_map] at e1' e2
    cases hq : caps[i - own.length]? with
    | none => rw [hq] at e1'; cases e1'
    | some q =>
      rw [hq] at e1' e2
      have ex : q.1 = x := Option.some.inj e1'
      have hqm := List.mem_of_getElem? hq
      obtain ⟨a1, a2, a3⟩ := L.cap.get q hqm
      have hv : (σ[q.2]?).join = some v := Option.some.inj e2
      have hv2 : σ[q.2]? = some (some v) := by
        cases z : σ[q.2]? with
        | none => rw [z] at hv; cases hv
        | some w => rw [z] at hv; exact congrArg some hv
      obtain ⟨m0, hn0, hl0⟩ := I.loc
      rw [ex] at a1 a2 a3
      obtain ⟨u, ru, lk⟩ := hl0 q.2 x v a1 hv2 (by rcases a2 with a2 | a2; exact .inr (.inl a2); exact .inr (.inr a2))
      refine ⟨u, ru, .inr ⟨?_, ?_⟩⟩
      · have h1 := List.all_eq_true.mp L.own q hqm
        rw [ex] at h1
        show (relabel scope X.env).names.lookup x = some .cell ∨ (relabel scope X.env).names.lookup x = some .free
        simpa using h1
      · rcases lk with ⟨k, _⟩ | ⟨_, c, ec, ic⟩
        · rcases a2 with a2 | a2 <;> rw [a2] at k <;> cases k
        · refine ⟨c, a3.trans ec, ?_⟩
          obtain ⟨o, ho, hd⟩ := ic
          exact ⟨o, kp _ _ ho, hd⟩
  · obtain ⟨v, o, ho, hd⟩ := I.cell x c (L.at e)
    exact ⟨v, o, kp _ _ ho, hd⟩
  · show _ = (own ++ caps.map (·.1)).length
    simp [capV]
theorem lcg_end {pins : List (Addr × Obj)} {σ σ' : St} {H H' : Hp} {s s' : Shared} {h' : Heap} {N' : List Str} {scope : Scope} {cl : List (Str × Addr)} {fp : List Addr} (I : Inv X pins σ H s) (f : ∀ b ∈ fp, FpOk X pins H b)
    (J : Inv (cxLG X N' scope cl s H fp) [] σ' H' s') (sb : Heap.SameBut s.heap.objs.size s'.heap h') : Inv X pins σ H' { s' with heap := h' } := by
  have U : Un (frs X.stack) fp H H' s.heap s'.heap := J.base
  have ne : ∀ b o, s.heap.get? b = some o → b ≠ s.heap.objs.size := fun b o e => Nat.ne_of_lt (Heap.lt_size e)
  have nH : ∀ b o, H' b = some o → b ≠ s.heap.objs.size := fun b o e z => by
    have q : H' s.heap.objs.size = none := J.free
    rw [z, q] at e
    cases e
  have U' : Un (frs X.stack) fp H H' s.heap h' := ⟨fun b o e n hb hx => (sb.2 b (ne b o e)).trans (U.keep b o e n hb hx), fun b o e n hb hx => by
      obtain ⟨sl, z⟩ := U.slot b o e n hb hx
      exact ⟨sl, (sb.2 b (ne b o e)).trans z⟩, U.free, fun b o e hx => by
      obtain ⟨o', z⟩ := U.there b o e hx
      exact ⟨o', (sb.2 b (ne b o e)).trans z⟩, U.tups, U.frzs, U.tbls⟩
  have hok : HOk X.prog X.w H' h' := fun a o e => (J.hok a o e).stay (fun b u hb q => (sb.2 b (by
      rcases hb with hb | hb
      · rw [hb]; exact nH a o e
      · exact nH b _ hb)).trans q) (fun _ q => q) fun _ _ q => q
  refine I.call' (s' := { s' with heap := h' }) (ch := fp) J.os U' hok J.bare fun b hb => ?_
  obtain ⟨_, z1, z2, z3, z4, z5⟩ := f b hb
  exact ⟨z3, z1, z4, z5⟩
/-- the block, up to what is done with its list -/
theorem lcg_core {elt target iter : Expr} {ifs : List Expr} {scope : Scope} {cl : List (Str × Addr)} {pos : Pos} {own : List Str} {caps : List (Str × Nat)} {wi : TI} {g : TG} {tt : TT} {te : TE} {use : Option (Value → Sem Unit)} (hc : X.calm = true) (hi : PI X target iter wi) (L : LcOk X scope cl caps)
    (hg : ∀ s H ex, PG (cxLG X (own ++ caps.map (·.1)) scope cl s H ex) target g) (ht : ∀ s H ex, PIf (cxLG X (own ++ caps.map (·.1)) scope cl s H ex) ifs tt) (he : ∀ s H ex, PE (cxLG X (own ++ caps.map (·.1)) scope cl s H ex) elt te)
    {pins : List (Addr × Obj)} {s : Shared} {σ : St} {H : Hp} {Q : VK} {Q' : Value → Shared → Prop} (I : Inv X pins σ H s) (h : tLG own.length caps wi g tt te σ H Q)
    (hs : ∀ x, foldedSetIterable iter X.env x = pure x)
    (fin : ∀ (D : Addr) (s3 s' : Shared) (H3 H' : Hp) (σ' : St) (fp : List Addr), Inv X pins σ H3 s3 → (∀ b ∈ fp, FpOk X pins H3 b) → Inv (cxLG X (own ++ caps.map (·.1)) scope cl s3 H3 fp) [] σ' H' s' → Q (.ref D) H' →
      compPost (model X.prog X.w) X.A X.xe use Q' (.ref D) s3.heap.objs.size (.ok .next) s') :
    wpAny (model X.prog X.w) X.A (comprehension (.ListComp elt [⟨target, iter, ifs, 0⟩] scope pos) scope X.env iter.pos (newList []) false (eval iter X.env) use) Q' X.xe s := by
  refine wpAny_comprehension_free (g := ⟨target, iter, ifs, 0⟩) (gs := []) rfl hs L.clos L.kind L.names (thn (hi pins s σ H _ I h) fun v s1 h1 => thn h1 fun itv s2 h2 => ?_)
  obtain ⟨it, fp, tn, J, H2, rfl, I2, T, st2, f2, R⟩ := h2
  have hD : H2 s2.heap.objs.size = none := I2.hok.fresh (Nat.le_refl _)
  obtain ⟨W, ⟨m0, w0⟩, turn⟩ := R _ hD
  refine wpAny_newList ?_ (Nat.zero_le _)
  have I3 : Inv X pins σ (upd H2 s2.heap.objs.size (.lst [])) { s2 with heap := s2.heap.push { cls := .type "list", data := .seq ([] : List Value).toArray } } := I2.lnew (t' := s2.toks) .nil (Nat.zero_le _)
  have o2 := T.obj 0 _ st2
  have lt2 : ∀ b ∈ fp, b < s2.heap.objs.size := fun b hb => by
    obtain ⟨o, e, _⟩ := o2 b hb
    exact Heap.lt_size e
  have f3 : ∀ b ∈ fp, FpOk X pins (upd H2 s2.heap.objs.size (.lst [])) b := fun b hb => ⟨by rw [upd_ne (Nat.ne_of_lt (lt2 b hb))]; exact (f2 b hb).1, (f2 b hb).2⟩
  have st3 : tn 0 (s2.heap.push { cls := .type "list", data := .seq ([] : List Value).toArray }) := T.keep 0 _ _ st2 fun b hb o e => Heap.get?_push_of_some _ e
  generalize hs3 : ({ s2 with heap := s2.heap.push { cls := .type "list", data := .seq ([] : List Value).toArray } } : Shared) = s3 at I3 ⊢
  have st3' : tn 0 s3.heap := by rw [← hs3]; exact st3
  generalize hH3 : upd H2 s2.heap.objs.size (.lst []) = H3 at I3 f3 w0
  generalize hDD : s2.heap.objs.size = D at *
  have o3 : ∀ b ∈ fp, ∃ o, s3.heap.get? b = some o := fun b hb => by
    obtain ⟨o, e, _⟩ := T.obj 0 _ st3' b hb
    exact ⟨o, e⟩
  refine wpAny_newFunctionEnv L.cell (fun x hx => nomatch hx) (fun h4 hn4 sb4 => ?_) L.kind
  have kp4 : ∀ b o, s3.heap.get? b = some o → h4.get? b = some o := fun b o e => (sb4.2 b (Nat.ne_of_lt (Heap.lt_size e))).trans (Heap.get?_push_of_some _ e)
  have I4 : Inv (cxLG X (own ++ caps.map (·.1)) scope cl s3 H3 fp) [] (List.replicate own.length none ++ capV σ caps) H3 { s3 with heap := h4, toks := s3.toks + ([] : List (Str × Value)).length } := lcg_start hc I3 f3 o3 L hn4 kp4
  have stat : ∀ {H' : Hp}, (∀ b ∈ fp, H' b = none) → ∀ b ∈ fp, FpOk (cxLG X (own ++ caps.map (·.1)) scope cl s3 H3 fp) [] H' b := fun hn b hb => by
    obtain ⟨o, e⟩ := o3 b hb
    obtain ⟨_, z1, z2, _, z4, _⟩ := f3 b hb
    refine ⟨hn b hb, Nat.ne_of_lt (Heap.lt_size e), fun hm => ?_, .inl hb, fun x c e => z4 x c (L.at e), (fun p hp => nomatch hp)⟩
    rcases List.mem_cons.mp (I3.stkSub b hm) with z | z
    · exact z1 z
    · exact z2 z
  have LL : ∀ Rr : Result → Shared → Prop, (∀ s' H' σ', Inv (cxLG X (own ++ caps.map (·.1)) scope cl s3 H3 fp) [] σ' H' s' → Q (.ref D) H' → Rr (.ok .next) s') →
      codeAny (model X.prog X.w) X.A (.compLoop (.ListComp elt [⟨target, iter, ifs, 0⟩] scope pos) 0 (.ref it) (.ref D) (cxLG X (own ++ caps.map (·.1)) scope cl s3 H3 fp).env) Rr { s3 with heap := h4, toks := s3.toks + ([] : List (Str × Value)).length } := by
    intro Rr hR
    refine codeAny_loop rfl (fun n s' => ∃ i σ' H', Inv (cxLG X (own ++ caps.map (·.1)) scope cl s3 H3 fp) [] σ' H' s' ∧ tn i s'.heap ∧ (∀ b ∈ fp, H' b = none) ∧ W i n σ' H') ?_ m0
      ⟨0, _, H3, I4, T.keep 0 _ _ st3' fun b _ o e => kp4 b o e, fun b hb => (f3 b hb).1, w0⟩
    rintro n s5 ⟨i, σ5, H5, I5, st5, fr5, w5⟩
    show wpAny _ X.A ((compTurn (.ListComp elt [⟨target, iter, ifs, 0⟩] scope pos) 0 (.ref it) (.ref D) (cxLG X (own ++ caps.map (·.1)) scope cl s3 H3 fp).env).onRaise (fun x => do noteFrame x (cxLG X (own ++ caps.map (·.1)) scope cl s3 H3 fp).env; theTreesLotGoes x)) _ _ s5
    refine wpAny_noted ?_
    rw [compTurn_list]
    refine wpAny_bind (wpAny_standAt ?_)
    rcases turn i n σ5 H5 w5 with ⟨stop, qn⟩ | ⟨go, N, hN, stp⟩
    · refine wpAny_bind (thn (T.done (cxLG X (own ++ caps.map (·.1)) scope cl s3 H3 fp) rfl rfl rfl rfl i [] s5 σ5 H5 _ I5 (stat fr5) st5 stop) fun r s6 ⟨hr, I6⟩ => ?_)
      subst hr
      exact wpAny_pure (hR s6 H5 σ5 I6 qn)
    · refine wpAny_bind (thn (T.item (cxLG X (own ++ caps.map (·.1)) scope cl s3 H3 fp) rfl rfl rfl rfl i [] s5 σ5 H5 _ I5 (stat fr5) st5 go) fun r s6 ⟨u, hr, h6⟩ => ?_)
      subst hr
      refine wpAny_bind (thn h6 fun _ s7 ⟨x, H7, I7, r7, y7, st7, fr7⟩ => ?_)
      have I7' := I7.pinned (stat fr7) (T.obj _ _ st7)
      refine wpAny_bind (wpAny_mono (hg s3 H3 fp _ s7 σ5 H7 x u _ I7' r7 (stp x H7 y7)) (fun _ s8 ⟨σ8, H8, I8, q8⟩ => ?_) fun _ _ z => False.elim z)
      refine wpAny_bind (wpAny_mono (ht s3 H3 fp _ s8 σ8 H8 _ I8 q8) (fun ok s8' ⟨H8', I8', q8'⟩ => ?_) fun _ _ z => False.elim z)
      have back : ∀ (s10 : Shared) (H10 : Hp), Inv (cxLG X (own ++ caps.map (·.1)) scope cl s3 H3 fp) ([] ++ pinsAt fp s7.heap) σ8 H10 s10 → N σ8 H10 →
          ∃ m', m' < n ∧ ∃ i σ' H', Inv (cxLG X (own ++ caps.map (·.1)) scope cl s3 H3 fp) [] σ' H' s10 ∧ tn i s10.heap ∧ (∀ b ∈ fp, H' b = none) ∧ W i m' σ' H' := by
        intro s10 H10 I10 n10
        obtain ⟨m', hm, w10⟩ := hN σ8 H10 n10
        refine ⟨m', hm, i + 1, σ8, H10, I10.unpinned, T.keep _ _ _ st7 fun b hb o e => (I10.pin (b, o) (List.mem_append_right _ (List.mem_append_right _ (mem_pinsAt hb e)))).1, fun b hb => ?_, w10⟩
        obtain ⟨o, e, d⟩ := T.obj _ _ st7 b hb
        exact (I10.pin (b, o) (List.mem_append_right _ (List.mem_append_right _ (mem_pinsAt hb e)))).2.1
      cases ok with
      | false =>
        have q9 : N σ8 H8' := q8'
        exact wpAny_pure ⟨rfl, back _ _ I8' q9⟩
      | true =>
        have q9 := q8'
        rw [if_pos rfl] at q9
        refine wpAny_bind (wpAny_bind (wpAny_mono (he s3 H3 fp _ s8' σ8 H8' _ I8' q9) (fun y s9 ⟨yv, H9, I9, r9, q9⟩ => ?_) fun _ _ z => False.elim z))
        obtain ⟨xs, hx, hz, q9⟩ := q9
        refine wpAny_bind (wpAny_mono (mt_append (X := cxLG X (own ++ caps.map (·.1)) scope cl s3 H3 fp) _ s9 σ8 H9 (.ref D) [yv] (.ref D) [y] (fun v H' => N σ8 H') I9 rfl (.cons r9 .nil) ⟨D, xs, yv, rfl, rfl, hx, hz, q9⟩) (fun _ s10 ⟨_, H10, I10, _, n10⟩ => ?_) fun _ _ z => False.elim z)
        exact wpAny_pure (wpAny_pure ⟨rfl, back _ _ I10 n10⟩)
  have fin' : ∀ s' H' σ', Inv (cxLG X (own ++ caps.map (·.1)) scope cl s3 H3 fp) [] σ' H' s' → Q (.ref D) H' → compPost (model X.prog X.w) X.A X.xe use Q' (.ref D) s3.heap.objs.size (.ok .next) s' := fun s' H' σ' J q => fin D s3 s' H3 H' σ' fp I3 f3 J q
  refine codeAny_compStart_list (LL _ fin') ?_
  exact T.self _ 0 _ _ _ (T.keep 0 _ _ st3' fun b _ o e => kp4 b o e) (LL _ fin')
/-- as a value -/
theorem pe_lcG {elt target iter : Expr} {ifs : List Expr} {scope : Scope} {cl : List (Str × Addr)} {pos : Pos} (own : List Str) {caps : List (Str × Nat)} {wi : TI} {g : TG} {tt : TT} {te : TE} (hc : X.calm = true) (hi : PI X target iter wi) (L : LcOk X scope cl caps)
    (hg : ∀ s H ex, PG (cxLG X (own ++ caps.map (·.1)) scope cl s H ex) target g) (ht : ∀ s H ex, PIf (cxLG X (own ++ caps.map (·.1)) scope cl s H ex) ifs tt) (he : ∀ s H ex, PE (cxLG X (own ++ caps.map (·.1)) scope cl s H ex) elt te)
    (hs : ∀ x, foldedSetIterable iter X.env x = pure x := by intro _; rfl) : PE X (.ListComp elt [⟨target, iter, ifs, 0⟩] scope pos) (tLG own.length caps wi g tt te) := by
  intro pins s σ H Q I h
  rw [eval_ListComp]
  refine lcg_core (use := none) hc hi L hg ht he I h hs fun D s3 s' H3 H' σ' fp I3 f3 J q => ?_
  obtain ⟨m, hn, _⟩ := J.loc
  exact ⟨m, hn, fun h' sb => ⟨.ref D, H', lcg_end I3 f3 J sb, rfl, q⟩⟩
/-- name = [..] -/
theorem ps_setLC {elt target iter : Expr} {ifs : List Expr} {scope : Scope} {cl : List (Str × Addr)} {pos : Pos} {i : Nat} {y : Str} {py spos : Pos} (own : List Str) {caps : List (Str × Nat)} {wi : TI} {g : TG} {tt : TT} {te : TE} (hc : X.calm = true) (hN : X.N.Nodup) (hy : X.N[i]? = some y) (hl : X.env.scope.names.lookup y = some .local)
    (hi : PI X target iter wi) (L : LcOk X scope cl caps)
    (hg : ∀ s H ex, PG (cxLG X (own ++ caps.map (·.1)) scope cl s H ex) target g) (ht : ∀ s H ex, PIf (cxLG X (own ++ caps.map (·.1)) scope cl s H ex) ifs tt) (he : ∀ s H ex, PE (cxLG X (own ++ caps.map (·.1)) scope cl s H ex) elt te)
    (hsw : swapsWith (.ListComp elt [⟨target, iter, ifs, 0⟩] scope pos) (some (.Name y py)) spos.line X.env = pure true)
    (hs : ∀ x, foldedSetIterable iter X.env x = pure x := by intro _; rfl) : PS X (.Assign [.Name y py] (.ListComp elt [⟨target, iter, ifs, 0⟩] scope pos) spos) (tAsg (tLG own.length caps wi g tt te) (gName i)) := by
  intro pins s σ H D I h
  rw [exec_Assign_Name_used _ _ _ _ hsw]
  refine wpAny_bind (wpAny_standAt (wpAny_bind ?_))
  show wpAny _ _ (do let _ ← comprehension (.ListComp elt [⟨target, iter, ifs, 0⟩] scope pos) scope X.env _ (newList []) false (eval iter X.env) (some (assign (.Name y py) X.env))) _ _ s
  refine wpAny_bind (wpAny_mono (lcg_core (use := some (assign (.Name y py) X.env)) (Q := fun v H' => D.nx (σ.set i (some v)) H') (Q' := fun _ s' => SP X pins D .next s') hc hi L hg ht he I h hs fun D' s3 s' H3 H' σ' fp I3 f3 J q => ?_) (fun _ s' hq => wpAny_pure (wpAny_pure hq)) fun _ _ e => e)
  obtain ⟨m, hn, _⟩ := J.loc
  obtain ⟨oC, es, ep, hoC, hdC, hrest⟩ := id hn
  have hCC : (cxLG X (own ++ caps.map (·.1)) scope cl s3 H3 fp).env.locals = s3.heap.objs.size := rfl
  rw [hCC] at hoC hn
  have I5 : Inv X pins σ H' s' := lcg_end I3 f3 J (Heap.SameBut.refl _ _)
  have fok : FpOk X pins H' s3.heap.objs.size := I3.fpOk (Nat.le_refl _) J.free
  obtain ⟨k1, k2, k3, k4, k5, k6⟩ := fok
  have I6 : Inv X (pins ++ [(s3.heap.objs.size, oC)]) σ H' s' := I5.pins_of fun p hp => by
    rcases List.mem_append.mp hp with z | z
    · exact I5.pin p (List.mem_append_right _ z)
    · have e : p = (s3.heap.objs.size, oC) := by simpa using z
      subst e
      exact ⟨hoC, k1, k2, k3, fun v e => by rw [hdC] at e; cases e⟩
  show wpAny _ _ (assign (.Name y py) X.env (.ref D')) _ _ s'
  refine wpAny_assign_Name (store_ok I6 hN hy (Or.inl hl) (show RelV (.ref D') (.ref D') from rfl) (fun s'' I7 => ?_) (.inr hl))
  have pC := (I7.pin (s3.heap.objs.size, oC) (List.mem_append_right _ (List.mem_append_right _ (List.mem_singleton.mpr rfl)))).1
  refine ⟨m, ⟨oC, es, ep, pC, hdC, hrest⟩, fun h' sb => ?_⟩
  have I8 : Inv X pins (σ.set i (some (.ref D'))) H' s'' := I7.pins_of fun p hp => I7.pin p (List.mem_append_right _ (List.mem_append_left _ hp))
  have I9 := I8.turned (t' := s''.toks) (it := s3.heap.objs.size) (h' := h') (fun b o hb e => (sb.2 b hb).trans e) k1 k2 k4 k5 k6
  exact ⟨_, H', I9, q⟩
end
end L2
namespace L2
open PySem
/-! ### a set's table -/
def Rise (xs : Array Nat) : Prop := xs.toList.Pairwise (· < ·)
theorem Rise.lt {xs : Array Nat} (h : Rise xs) {i j : Nat} (hi : i < xs.size) (hj : j < xs.size) (hij : i < j) : xs[i] < xs[j] := by
  have := List.pairwise_iff_getElem.mp h i j (by simpa using hi) (by simpa using hj) hij
  simpa using this
theorem below_go {xs : Array Nat} (hr : Rise xs) (j : Nat) : ∀ (fuel lo hi : Nat), lo ≤ hi → hi ≤ xs.size → hi - lo ≤ fuel → (∀ i (h : i < xs.size), i < lo → xs[i] < j) → (∀ i (h : i < xs.size), hi ≤ i → j ≤ xs[i]) →
    SetTable.below.go xs j fuel lo hi ≤ xs.size ∧ (∀ i (h : i < xs.size), i < SetTable.below.go xs j fuel lo hi → xs[i] < j) ∧ (∀ i (h : i < xs.size), SetTable.below.go xs j fuel lo hi ≤ i → j ≤ xs[i])
  | 0, lo, hi, h1, h2, h3, a, b => by
    have e : lo = hi := by omega
    unfold SetTable.below.go
    exact ⟨by omega, a, e ▸ b⟩
  | fuel + 1, lo, hi, h1, h2, h3, a, b => by
    unfold SetTable.below.go
    by_cases hlt : lo < hi
    · rw [if_pos hlt]
      have hm : (lo + hi) / 2 < xs.size := by omega
      have e : xs.getD ((lo + hi) / 2) j = xs[(lo + hi) / 2] := by simp [hm]
      dsimp only
      rw [e]
      by_cases hc : xs[(lo + hi) / 2] < j
      · rw [if_pos hc]
        refine below_go hr j fuel _ hi (by omega) h2 (by omega) (fun i h q => ?_) b
        rcases Nat.lt_or_ge i ((lo + hi) / 2) with z | z
        · exact Nat.lt_trans (hr.lt h hm z) hc
        · have : i = (lo + hi) / 2 := by omega
          subst this; exact hc
      · rw [if_neg hc]
        refine below_go hr j fuel lo _ (by omega) (by omega) (by omega) a (fun i h q => ?_)
        rcases Nat.lt_or_ge ((lo + hi) / 2) i with z | z
        · exact Nat.le_trans (Nat.le_of_not_lt hc) (Nat.le_of_lt (hr.lt hm h z))
        · have : i = (lo + hi) / 2 := by omega
          subst this; exact Nat.le_of_not_lt hc
    · rw [if_neg hlt]
      have e : lo = hi := by omega
      exact ⟨by omega, a, e ▸ b⟩
theorem below_spec {xs : Array Nat} (hr : Rise xs) (j : Nat) : SetTable.below xs j ≤ xs.size ∧ (∀ i (h : i < xs.size), i < SetTable.below xs j → xs[i] < j) ∧ (∀ i (h : i < xs.size), SetTable.below xs j ≤ i → j ≤ xs[i]) := by
  unfold SetTable.below
  exact below_go hr j _ 0 xs.size (Nat.zero_le _) (Nat.le_refl _) (by omega) (fun i h q => absurd q (Nat.not_lt_zero _)) (fun i h q => absurd h (by omega))
theorem below_zero {xs : Array Nat} (hr : Rise xs) : SetTable.below xs 0 = 0 := by
  obtain ⟨h1, h2, h3⟩ := below_spec hr 0
  rcases Nat.eq_zero_or_pos (SetTable.below xs 0) with h | h
  · exact h
  · exact absurd (h2 0 (by omega) h) (Nat.not_lt_zero _)
theorem below_succ {xs : Array Nat} (hr : Rise xs) {i : Nat} (hi : i < xs.size) : SetTable.below xs (xs[i] + 1) = i + 1 := by
  obtain ⟨h1, h2, h3⟩ := below_spec hr (xs[i] + 1)
  rcases Nat.lt_trichotomy (SetTable.below xs (xs[i] + 1)) (i + 1) with h | h | h
  · have := h3 i hi (by omega); omega
  · exact h
  · have hi' : i + 1 < xs.size := by omega
    have h4 := h2 (i + 1) hi' h
    have h5 := hr.lt hi hi' (Nat.lt_succ_self i)
    omega
theorem not_mem_of_slot {xs : Array Nat} (hr : Rise xs) {j : Nat} (h : xs[SetTable.below xs j]? ≠ some j) : ∀ i (hi : i < xs.size), xs[i] ≠ j := by
  intro i hi e
  obtain ⟨h1, h2, h3⟩ := below_spec hr j
  have hb : SetTable.below xs j = i := by
    rcases Nat.lt_trichotomy (SetTable.below xs j) i with z | z | z
    · have hb : SetTable.below xs j < xs.size := by omega
      have := h3 _ hb (Nat.le_refl _)
      have := hr.lt hb hi z
      omega
    · exact z
    · have := h2 i hi z; omega
  apply h
  rw [hb, Array.getElem?_eq_getElem hi, e]
theorem rise_insert {xs : Array Nat} (hr : Rise xs) {j : Nat} (hj : ∀ i (hi : i < xs.size), xs[i] ≠ j) : Rise (SetTable.insertAt xs (SetTable.below xs j) j) := by
  obtain ⟨h1, h2, h3⟩ := below_spec hr j
  unfold Rise
  rw [SetTable.toList_insertAt]
  have hl : ∀ x ∈ xs.toList.take (SetTable.below xs j), x < j := by
    intro x hx
    obtain ⟨i, hi, e⟩ := List.mem_iff_getElem.mp hx
    rw [List.length_take] at hi
    rw [List.getElem_take] at e
    have hi2 : i < xs.size := by have : xs.toList.length = xs.size := by simp
                                 omega
    have := h2 i hi2 (by omega)
    rw [← e]; simpa using this
  have hg : ∀ x ∈ xs.toList.drop (SetTable.below xs j), j < x := by
    intro x hx
    obtain ⟨i, hi, e⟩ := List.mem_iff_getElem.mp hx
    rw [List.length_drop] at hi
    rw [List.getElem_drop] at e
    have hi2 : SetTable.below xs j + i < xs.size := by have : xs.toList.length = xs.size := by simp
                                                       omega
    have a := h3 _ hi2 (by omega)
    have b := hj _ hi2
    have : xs[SetTable.below xs j + i] = x := by rw [← e]; simp
    omega
  rw [List.pairwise_append]
  refine ⟨hr.sublist (List.take_sublist _ _), List.pairwise_cons.mpr ⟨hg, hr.sublist (List.drop_sublist _ _)⟩, fun a ha b hb => ?_⟩
  rcases List.mem_cons.mp hb with rfl | hb
  · exact hl a ha
  · exact Nat.lt_trans (hl a ha) (hg b hb)
/-- a table as a set of this text keeps it -/
structure TabOk (led : Bool) (t : SetTable) : Prop where
  led : t.led = led
  rise : Rise t.place
  nod : t.dummies = #[]
theorem rise_range (n : Nat) : Rise (Array.range n) := by
  unfold Rise
  rw [Array.toList_range]
  exact List.pairwise_lt_range
theorem TabOk.standIn {led : Bool} {t : SetTable} (h : TabOk led t) (n : Nat) : TabOk led (t.standIn n) := ⟨h.led, rise_range n, rfl⟩
theorem TabOk.orStandIn {led : Bool} {t : SetTable} (h : TabOk led t) (n : Nat) : TabOk led (t.orStandIn n) := by
  unfold SetTable.orStandIn
  split
  · exact h
  · exact h.standIn n
theorem TabOk.unplain {led : Bool} {t : SetTable} (h : TabOk led t) : TabOk led { t with plain := false } := ⟨h.led, h.rise, h.nod⟩
theorem has_none (j : Nat) : SetTable.has #[] j = false := by simp [SetTable.has]
theorem slot_nodummy {t : SetTable} (h : t.dummies = #[]) (j : Nat) : t.slot j ≠ .dummy := by
  unfold SetTable.slot
  rw [h, has_none]
  dsimp only
  split
  · intro e; cases e
  · intro e; simp at e
theorem slot_empty {t : SetTable} {j : Nat} (h : t.slot j = .empty) : t.place[SetTable.below t.place j]? ≠ some j := by
  intro e
  unfold SetTable.slot at h
  simp [e] at h
theorem adv_dummy {t : SetTable} {p : SetTable.Probe} (h : p.dummy = none) : (t.advance p).dummy = none := by
  unfold SetTable.advance
  split <;> exact h
theorem probe_go {t : SetTable} (hn : t.dummies = #[]) {hashAt : Nat → Int} {h : Int} : ∀ (fuel : Nat) (p : SetTable.Probe), p.dummy = none → ∀ j d, SetTable.probe.go t hashAt h fuel p = some (.empty j d) → d = none ∧ t.slot j = .empty
  | 0, p, _, j, d, e => by simp [SetTable.probe.go] at e
  | fuel + 1, p, hp, j, d, e => by
    unfold SetTable.probe.go at e
    cases hs : t.slot p.j with
    | empty =>
      rw [hs] at e
      simp at e
      obtain ⟨rfl, rfl⟩ := e
      exact ⟨hp, hs⟩
    | dummy => exact absurd hs (slot_nodummy hn _)
    | live i =>
      rw [hs] at e
      dsimp only at e
      split at e
      · cases e
      · exact probe_go hn fuel _ (adv_dummy hp) j d e
theorem free_ok {t : SetTable} (hn : t.dummies = #[]) {h : Int} {s : Nat} {b : Bool} (e : t.freeSlot h = some (s, b)) : t.slot s = .empty := by
  unfold SetTable.freeSlot SetTable.probe at e
  split at e
  · rename_i j d hq
    obtain ⟨rfl, h2⟩ := probe_go hn _ _ rfl j d hq
    simp at e
    obtain ⟨rfl, rfl⟩ := e
    exact h2
  · cases e
theorem TabOk.put {led : Bool} {t : SetTable} (h : TabOk led t) {j : Nat} (hs : t.slot j = .empty) : TabOk led (t.put j).1 := by
  refine ⟨h.led, rise_insert h.rise (not_mem_of_slot h.rise (slot_empty hs)), ?_⟩
  show (if SetTable.has t.dummies j then _ else t.dummies) = #[]
  rw [h.nod, has_none]
  rfl
theorem TabOk.layNew {led : Bool} {t : SetTable} (h : TabOk led t) (es : Array (Int × Value)) (k : Int) (x : Value) : TabOk led (layNew t es k x).2.1 := by
  unfold PySem.layNew
  split
  · rename_i s b hq
    exact (h.put (free_ok h.nod hq)).orStandIn _
  · exact h.standIn _
theorem laid_rise {mask finger moves : Nat} {led plain : Bool} {hashes : Array Int} {t : SetTable} {o : Array Nat} (e : SetTable.laid mask finger moves led plain hashes = some (t, o)) : TabOk led t := by
  unfold SetTable.laid at e
  cases hq : SetTable.layClean mask hashes with
  | none => rw [hq] at e; cases e
  | some owner =>
    rw [hq] at e
    have e' := Option.some.inj e
    have e1 := (Prod.mk.inj e').1
    subst e1
    refine ⟨rfl, ?_, rfl⟩
    show List.Pairwise (· < ·) (((List.range (mask + 1)).filterMap fun j => (owner.getD j none).map (j, ·)).map (·.1)).toArray.toList
    rw [List.map_filterMap]
    have hs : ∀ l : List Nat, (l.filterMap fun x => Option.map (fun x => x.1) ((owner.getD x none).map (x, ·))).Sublist l := by
      intro l
      induction l with
      | nil => exact .slnil
      | cons a r ih =>
        rw [List.filterMap_cons]
        cases owner.getD a none with
        | none => exact ih.cons _
        | some v => exact ih.cons₂ _
    exact (List.pairwise_lt_range (n := mask + 1)).sublist (hs _)
theorem TabOk.relayAll {led : Bool} {t : SetTable} (h : TabOk led t) (es : Array (Int × Value)) (n : Nat) : TabOk led (relayAll t es n).2.1 := by
  unfold PySem.relayAll
  split
  · rename_i t' o hq
    dsimp only
    split
    · have := laid_rise hq
      rw [h.led] at this
      exact this
    · exact h.standIn _
  · exact h.standIn _
end L2
namespace L2
open PySem
theorem paired_perm {α β : Type} {R : α → β → Prop} {l2 l2' : List β} (p : l2.Perm l2') : ∀ {l1 : List α}, Paired R l1 l2 → ∃ l1', l1.Perm l1' ∧ Paired R l1' l2' := by
  induction p with
  | nil => intro l1 h; exact ⟨l1, .refl _, h⟩
  | cons x _ ih =>
    intro l1 h
    cases h with
    | cons r t => obtain ⟨l, p, q⟩ := ih t; exact ⟨_ :: l, p.cons _, .cons r q⟩
  | swap x y l =>
    intro l1 h
    cases h with
    | cons r t => cases t with | cons r' t' => exact ⟨_, .swap _ _ _, .cons r' (.cons r t')⟩
  | trans _ _ ih1 ih2 =>
    intro l1 h
    obtain ⟨l, p, q⟩ := ih1 h
    obtain ⟨l', p', q'⟩ := ih2 q
    exact ⟨l', p.trans p', q'⟩
theorem paired_len {α β : Type} {R : α → β → Prop} : ∀ {xs : List α} {ys : List β}, Paired R xs ys → xs.length = ys.length
  | _, _, .nil => rfl
  | _, _, .cons _ t => by rw [List.length_cons, List.length_cons, paired_len t]
theorem paired_append {α β : Type} {R : α → β → Prop} : ∀ {xs : List α} {ys : List β} {a : α} {b : β}, Paired R xs ys → R a b → Paired R (xs ++ [a]) (ys ++ [b])
  | _, _, _, _, .nil, r => .cons r .nil
  | _, _, _, _, .cons q t, r => .cons q (paired_append t r)
section
variable {prog : Program} {w : World} {K : Type} [DecidableEq K] (knd : KeyKind prog w K)
/-- the set at a has just these keys -/
def SetW (h : Heap) (a : Addr) (ks : List K) : Prop :=
  ∃ o es ep t, h.get? a = some o ∧ o.ExactSet ∧ o.data = .set es ep t ∧ ElemsOf knd es.toList ∧ Paired (fun (k : K) (e : Int × Value) => knd.is k e.2 = true) ks es.toList ∧ ks.Nodup ∧
    es.size < scanBound ∧ t.fits es.size = true ∧ TabOk (!w.params.followText "set-order") t
variable {knd}
variable {A : Around} {E : Value → Shared → Prop} {s : Shared}
theorem SetW.at' {h h' : Heap} {a : Addr} {ks : List K} (x : SetW knd h a ks) (k : ∀ o, h.get? a = some o → h'.get? a = some o) : SetW knd h' a ks := by
  obtain ⟨o, es, ep, t, ho, r⟩ := x
  exact ⟨o, es, ep, t, k o ho, r⟩
theorem SetW.typeIs {a : Addr} {ks : List K} (x : SetW knd s.heap a ks) : s.TypeIs (.ref a) "set" := by
  obtain ⟨o, es, ep, t, ho, hx, r⟩ := x
  exact ⟨o, ho, hx.1⟩
theorem key_in {ks : List K} : ∀ {es : List (Int × Value)}, Paired (fun (k : K) (e : Int × Value) => knd.is k e.2 = true) ks es → ∀ k, k ∈ ks ↔ ∃ e ∈ es, knd.is k e.2 = true := by
  induction ks with
  | nil => intro es h k; cases h; simp
  | cons a r ih =>
    intro es h k
    cases h with
    | @cons _ b _ t r' p =>
      rw [List.mem_cons, ih p k]
      constructor
      · rintro (rfl | ⟨e, he, hk⟩)
        · exact ⟨b, List.mem_cons_self, r'⟩
        · exact ⟨e, List.mem_cons_of_mem _ he, hk⟩
      · rintro ⟨e, he, hk⟩
        rcases List.mem_cons.mp he with rfl | he
        · exact .inl (knd.inj _ _ _ hk r')
        · exact .inr ⟨e, he, hk⟩
theorem store_setW {h : Heap} {a : Addr} {o : Obj} {es : Array (Int × Value)} {ep : Nat} {t : SetTable} (ho : h.get? a = some o) (hex : o.ExactSet) (hd : o.data = .set es ep t)
    {es' : Array (Int × Value)} {t' : SetTable} {ks : List K} (hel : ElemsOf knd es'.toList) (hp : Paired (fun (k : K) (e : Int × Value) => knd.is k e.2 = true) ks es'.toList) (hn : ks.Nodup) (hb : es'.size < scanBound) (hf : t'.fits es'.size = true)
    (ht : TabOk (!w.params.followText "set-order") t') :
    (h.update a (Obj.putSet es' t')).get? a = some { o with data := .set es' (ep + 1) t' } ∧ SetW knd (h.update a (Obj.putSet es' t')) a ks := by
  have hg : (h.update a (Obj.putSet es' t')).get? a = some { o with data := .set es' (ep + 1) t' } := by
    have := Heap.get?_update_self (Obj.putSet es' t') ho (by rw [putSet_of es' t' hd]; rfl)
    rw [putSet_of es' t' hd] at this; exact this
  exact ⟨hg, _, es', ep + 1, t', hg, hex, rfl, hel, hp, hn, hb, hf, ht⟩
theorem tail_setW {g : Bool → Sem Unit} (hg : ∀ (b : Bool) (s₁ : Shared) (Q' : Unit → Shared → Prop), Q' () s₁ → wpAny (model prog w) A (g b) Q' E s₁)
    {a : Addr} {o : Obj} {es : Array (Int × Value)} {ep : Nat} {t : SetTable} (ho : s.heap.get? a = some o) (hex : o.ExactSet) (hd : o.data = .set es ep t)
    {es1 : Array (Int × Value)} {t2 : SetTable} {ks : List K} (hel1 : ElemsOf knd es1.toList) (hp1 : Paired (fun (k : K) (e : Int × Value) => knd.is k e.2 = true) ks es1.toList) (hn1 : ks.Nodup)
    (hb1 : es1.size < scanBound) (hf2 : t2.fits es1.size = true) (ht2 : TabOk (!w.params.followText "set-order") t2) {wasDummy : Bool} {R : Option Bool → Shared → Prop}
    (h : ∀ h' ks', Heap.SameBut a s.heap h' → ks.Perm ks' → SetW knd h' a ks' → R (some true) { s with heap := h' }) :
    wpAny (model prog w) A (do
        storeSet a es1 t2
        if (!wasDummy && t2.tooFull) = true then do
            g (relayAll t2 es1 (SetTable.grown es1.size)).2.2
            storeSet a (relayAll t2 es1 (SetTable.grown es1.size)).1 (relayAll t2 es1 (SetTable.grown es1.size)).2.1
            pure (some true)
          else pure (some true)) R E s := by
  refine wpAny_bind (wpAny_storeSet_of ho hd ?_ (fits_of_scanBound hb1))
  obtain ⟨ho1, hS1⟩ := store_setW (knd := knd) ho hex hd hel1 hp1 hn1 hb1 hf2 ht2
  have hsb1 := Heap.SameBut.update s.heap a (Obj.putSet es1 t2)
  split
  · have hp := relayAll_perm t2 es1 (SetTable.grown es1.size)
    have hfr := relayAll_fits t2 es1 (SetTable.grown es1.size)
    have htr := ht2.relayAll es1 (SetTable.grown es1.size)
    generalize hRl : relayAll t2 es1 (SetTable.grown es1.size) = Rl at hp hfr htr ⊢
    obtain ⟨es2, t3, gave2⟩ := Rl
    dsimp only at hp hfr htr ⊢
    have hel2 : ElemsOf knd es2.toList := hel1.perm hp
    obtain ⟨ks2, pk, hp2⟩ := paired_perm hp.symm hp1
    have hsz : es2.size = es1.size := by rw [← Array.length_toList, hp.length_eq, Array.length_toList]
    have hb2 : es2.size < scanBound := by rw [hsz]; exact hb1
    refine wpAny_bind (hg _ _ _ ?_)
    refine wpAny_bind (wpAny_storeSet_of ho1 rfl ?_ (fits_of_scanBound hb2))
    obtain ⟨_, hS2⟩ := store_setW (knd := knd) ho1 hex rfl hel2 hp2 (pk.nodup_iff.mp hn1) hb2 hfr htr
    exact wpAny_pure (h _ _ (hsb1.trans (Heap.SameBut.update _ a _)) pk hS2)
  · exact wpAny_pure (h _ _ hsb1 (.refl _) hS1)
/-- what an added key makes of the keys -/
def Added (ks : List K) (k : K) (ks' : List K) : Prop := (k ∈ ks ∧ ks' = ks) ∨ (k ∉ ks ∧ (ks ++ [k]).Perm ks')
theorem Added.mem {ks ks' : List K} {k : K} (h : Added ks k ks') (x : K) : x ∈ ks' ↔ x ∈ ks ∨ x = k := by
  rcases h with ⟨a, rfl⟩ | ⟨_, p⟩
  · exact ⟨.inl, fun z => z.elim id (fun e => e ▸ a)⟩
  · rw [← p.mem_iff, List.mem_append, List.mem_singleton]
theorem Added.len {ks ks' : List K} {k : K} (h : Added ks k ks') : ks'.length ≤ ks.length + 1 := by
  rcases h with ⟨a, rfl⟩ | ⟨_, p⟩
  · exact Nat.le_succ _
  · rw [← p.length_eq, List.length_append]; exact Nat.le_refl _
theorem add_setW {a : Addr} {ks : List K} {k : K} {x : Value} {Q : Bool → Shared → Prop} (hkey : knd.is k x = true) (hsc : x.scannable = true) (hS : SetW knd s.heap a ks) (hroom : ks.length + 1 < scanBound)
    (h : ∀ b h' ks', Heap.SameBut a s.heap h' → SetW knd h' a ks' → Added ks k ks' → Q b { s with heap := h' }) :
    wpAny (model prog w) A (setAddHashed a x (knd.hash k)) Q E s := by
  obtain ⟨o, es, ep, t, ho, hex, hd, hel, hpr, hnd, hb, hf, ht⟩ := hS
  have hmem := key_in (knd := knd) hpr
  have hlen : ks.length = es.size := by rw [paired_len hpr]; simp
  have hb1 : es.size + 1 < scanBound := by omega
  unfold setAddHashed setAddHashedIn
  refine wpAny_holding (wpAny_bind (wpAny_setState_of ho hd hf ?_))
  dsimp only
  rw [byScan_of hsc hb hel]
  simp only [↓reduceIte]
  unfold setAddByScan
  refine wpAny_bind ?_
  refine wpAny_bind (wpAny_rule ?_)
  refine wpAny_bind (wpAny_setScan_of hkey ho hd hf hel ?_)
  cases hr : List.findIdx? (fun e => knd.is k e.2) es.toList with
  | some j =>
    dsimp only
    obtain ⟨hj, hpj, _⟩ := List.findIdx?_eq_some_iff_getElem.mp hr
    have hSk : k ∈ ks := (hmem k).mpr ⟨es.toList[j], List.getElem_mem hj, hpj⟩
    refine wpAny_pure (wpAny_pure ?_)
    have e : s = { s with heap := s.heap } := by cases s; rfl
    rw [e]
    exact h _ s.heap ks (Heap.SameBut.refl a s.heap) ⟨o, es, ep, t, ho, hex, hd, hel, hpr, hnd, hb, hf, ht⟩ (.inl ⟨hSk, rfl⟩)
  | none =>
    dsimp only
    have hSk : k ∉ ks := by
      intro hk
      obtain ⟨e, he, hp⟩ := (hmem k).mp hk
      have := List.findIdx?_eq_none_iff.mp hr e he; rw [hp] at this; exact Bool.noConfusion this
    have hgw : ∀ (b : Bool) {s₁ : Shared} {Q' : Unit → Shared → Prop}, Q' () s₁ → wpAny (model prog w) A (match b with | true => rule "set.scan.the-table-gave-way" | false => pure ()) Q' E s₁ :=
      fun b s₁ Q' hq => by cases b <;> first | exact wpAny_pure hq | exact wpAny_rule hq
    have hperm := layNew_perm t es (knd.hash k) x
    have hfits := layNew_fits t es (knd.hash k) x
    have htab := ht.layNew es (knd.hash k) x
    generalize hL : layNew t es (knd.hash k) x = L at hperm hfits htab ⊢
    obtain ⟨es1, t1, wasDummy, gave⟩ := L
    dsimp only at hperm hfits htab ⊢
    rw [Array.toList_push] at hperm
    have hel1 : ElemsOf knd es1.toList := (hel.push hkey hsc).perm hperm
    obtain ⟨ks1, pk, hp1⟩ := paired_perm hperm.symm (paired_append hpr (a := k) (b := (knd.hash k, x)) hkey)
    have hn1 : ks1.Nodup := pk.nodup_iff.mp (by
      rw [List.nodup_append]
      exact ⟨hnd, by simp, fun a ha b hb e => by simp at hb; subst hb; subst e; exact hSk ha⟩)
    have hb1' : es1.size < scanBound := by rw [← Array.length_toList, hperm.length_eq, List.length_append, Array.length_toList]; simpa using hb1
    refine wpAny_bind (hgw _ ?_)
    have hend : ∀ h' ks', Heap.SameBut a s.heap h' → ks1.Perm ks' → SetW knd h' a ks' → Q true { s with heap := h' } := by
      intro h' ks' hsb p hS'; exact h true h' ks' hsb hS' (.inr ⟨hSk, pk.trans p⟩)
    split
    · refine wpAny_bind ?_
      rw [hashByValue_scannable 8 hsc]
      refine wpAny_pure ?_
      refine tail_setW ?_ ho hex hd hel1 hp1 hn1 hb1' ?_ ?_ ?_
      · intro b s₁ Q' hq; cases b <;> first | exact wpAny_pure hq | exact wpAny_rule hq
      · split
        · exact hfits
        · exact SetTable.fits_plain_off hfits
      · split
        · exact htab
        · exact htab.unplain
      · intro h' ks' hsb p hS'; dsimp only; exact wpAny_pure (hend h' ks' hsb p hS')
    · refine wpAny_bind (wpAny_pure ?_)
      simp only [↓reduceIte]
      refine tail_setW ?_ ho hex hd hel1 hp1 hn1 hb1' hfits htab ?_
      · intro b s₁ Q' hq; cases b <;> first | exact wpAny_pure hq | exact wpAny_rule hq
      · intro h' ks' hsb p hS'; dsimp only; exact wpAny_pure (hend h' ks' hsb p hS')
end
end L2
namespace L2
open PySem PySem.Spec PyProof.Rows
section
variable {prog : Program} {w : World} {K : Type} [DecidableEq K] {knd : KeyKind prog w K}
/-- ks: the keys of the first i -/
def Dedup (val : Nat → K) (i : Nat) (ks : List K) : Prop := (∀ k, k ∈ ks ↔ ∃ j, j < i ∧ val j = k) ∧ ks.length ≤ i
theorem dedup_zero (val : Nat → K) : Dedup val 0 [] := ⟨fun k => ⟨(fun h => nomatch h), fun ⟨j, hj, _⟩ => absurd hj (Nat.not_lt_zero _)⟩, Nat.le_refl _⟩
theorem Dedup.add {val : Nat → K} {i : Nat} {ks ks' : List K} (h : Dedup val i ks) (a : Added ks (val i) ks') : Dedup val (i + 1) ks' := by
  refine ⟨fun k => ?_, Nat.le_trans a.len (Nat.succ_le_succ h.2)⟩
  rw [a.mem, h.1]
  constructor
  · rintro (⟨j, hj, e⟩ | rfl)
    · exact ⟨j, Nat.lt_succ_of_lt hj, e⟩
    · exact ⟨i, Nat.lt_succ_self _, rfl⟩
  · rintro ⟨j, hj, e⟩
    rcases Nat.lt_succ_iff_lt_or_eq.mp hj with hj | rfl
    · exact .inl ⟨j, hj, e⟩
    · exact .inr e.symm
variable {A : Around} {R : Result → Shared → Prop} {I : Addr} {fp wr : List Addr} {G : Array GenState → Array GenState → Prop} {n : Nat} {P : Nat → Value → Prop} {St : Nat → Shared → Prop}
theorem set_update_loop (W : WalksS prog w A.in1 I fp wr G n P St) (S : Addr) (hSf : S ∉ fp)
    (val : Nat → K) (hval : ∀ i v, P i v → knd.is (val i) v = true ∧ v.scannable = true) (hb : n + 1 < scanBound) :
    ∀ (k i : Nat) (s : Shared) (ks : List K), n - i = k → i ≤ n → St i s → SetW knd s.heap S ks → Dedup val i ks →
      (∀ s' ks', Moved (S :: wr) G s s' → SetW knd s'.heap S ks' → Dedup val n ks' → R (.ok (.ret .none)) s') →
      codeAny (model prog w) A (.builtin "set.update.loop" ⟨[.ref S, .ref I], []⟩) R s := by
  have hSw : S ∉ wr := fun h => hSf (W.sub _ h)
  have hsub : ∀ b ∈ wr, b ∈ S :: wr := fun b hb => List.mem_cons_of_mem _ hb
  intro k
  induction k with
  | zero =>
    intro i s ks hk hi hst hS hD hR
    have hin : i = n := by omega
    subst hin
    refine codeAny_builtin F.entry_set_update_loop ?_
    rw [Around.under_plainId F.plain_set_update_loop _]
    show wpAny _ A.in1 (pyNext (.ref I) >>= _) _ _ s
    refine wpAny_bind (W.done s _ _ hst fun s' hm => ?_)
    show wpAny _ A.in1 (ret Value.none) _ _ s'
    exact wpAny_pure (hR s' ks (hm.mono hsub) (hS.at' fun o e => hm.heap S _ hSw e) hD)
  | succ k ih =>
    intro i s ks hk hi hst hS hD hR
    have hlt : i < n := by omega
    refine codeAny_builtin F.entry_set_update_loop ?_
    rw [Around.under_plainId F.plain_set_update_loop _]
    show wpAny _ A.in1 (pyNext (.ref I) >>= _) _ _ s
    refine wpAny_bind (W.item i s _ _ hlt hst fun v s' hP hst' hm => ?_)
    obtain ⟨hkv, hsc⟩ := hval i v hP
    have hS' : SetW knd s'.heap S ks := hS.at' fun o e => hm.heap S _ hSw e
    show wpAny _ A.in1 (holding [v] (setAdd S v) >>= _) _ _ s'
    refine wpAny_bind (wpAny_holding ?_)
    unfold setAdd
    refine wpAny_holding ?_
    refine wpAny_bind (knd.pyHash (k := val i) hkv ?_)
    have hroom : ks.length + 1 < scanBound := by have := hD.2; omega
    refine add_setW (knd := knd) (s := { s' with toks := s'.toks + 1 }) hkv hsc hS' hroom fun b h' ks' hsb hS2 ha => ?_
    refine wpAny_pure ⟨plainId_quiet F.plain_set_update_loop _, ih (i + 1) _ ks' (by omega) hlt (W.frame _ s' _ _ hst' (Nat.le_succ _) fun b hb o e => ?_) hS2 (hD.add ha) fun s'' ks'' hm'' hS'' hD'' => ?_⟩
    · rw [hsb.2 b (fun h : b = S => hSf (by rw [← h]; exact hb))]; exact e
    · refine hR s'' ks'' (Moved.trans W.gtrans ((hm.mono hsub).then_heap (Nat.le_succ _) fun b o hb e => ?_) hm'') hS'' hD''
      rw [hsb.2 b (fun h : b = S => hb (by rw [h]; exact List.mem_cons_self))]; exact e
variable {E : Value → Shared → Prop} {s : Shared}
theorem set_new_1 (a : Value) {Q₁ : Value → Shared → Prop}
    (h : Q₁ (.ref s.heap.objs.size) { s with heap := s.heap.push { cls := .type "set", dict := none, data := .set #[] 0 (.fresh 0 0 (!w.params.followText "set-order")) } }) :
    codeAny (model prog w) A (.call (.builtin "set.__new__") ⟨[.type "set", a], []⟩) (wants Q₁ E) s := by
  refine codeAny_of_tree ?_
  show wpAny _ A.in1 (do checkBuiltinCall "set.__new__" ⟨[.type "set", a], []⟩; again (.builtin "set.__new__" ⟨[.type "set", a], []⟩)) _ _ s
  refine wpAny_bind (wpAny_of_eq (PySem.F.newCall_set_1 a) (wpAny_pure ⟨plainId_quiet PySem.F.plain_set_new _, codeAny_builtin PySem.F.entry_set_new ?_⟩))
  rw [Around.under_plainId PySem.F.plain_set_new _]
  unfold Builtin.«set.__new__» Builtin.Frozenset.newClass
  have hsub := sub_set_self
  obtain ⟨hp, g, d, tk, os⟩ := s
  dsimp only
  wp_walk
  refine wpAny_askSetting (wpAny_pure ?_)
  dsimp only
  simp only [newObj]
  refine wpAny_bind (wpAny_alloc (wpAny_pure ?_))
  exact wpAny_pure h
theorem setW_fresh {h : Heap} : SetW knd (h.push { cls := .type "set", dict := none, data := .set #[] 0 (.fresh 0 0 (!w.params.followText "set-order")) }) h.objs.size [] :=
  ⟨_, #[], 0, _, Heap.get?_push_size _ rfl, ⟨rfl, rfl, rfl⟩, rfl, fun e he => by simp at he, .nil, List.nodup_nil, by decide, by rfl, ⟨rfl, by simp [Rise, SetTable.fresh], rfl⟩⟩
set_option maxHeartbeats 3200000 in
theorem call_set_keys {l : Addr} {items : Array Value} {val : Nat → K} {Q : Value → Shared → Prop}
    (hh : A.handled = none) (hl : s.heap.IsList l items) (hi : ∀ i v, items[i]? = some v → knd.is (val i) v = true ∧ v.scannable = true) (hb : items.size + 1 < scanBound)
    (h : ∀ (h' : Heap) (tk : Nat) (ks : List K), SetW knd h' s.heap.objs.size ks → Dedup val items.size ks →
      (∀ b o, b < s.heap.objs.size → s.heap.get? b = some o → h'.get? b = some o) → Q (.ref s.heap.objs.size) { s with heap := h', toks := tk }) :
    wpAny (model prog w) A (call (.type "set") [.ref l]) Q E s := by
  obtain ⟨c, tl, hmro⟩ := PySem.F.called_set.mro
  have hmade := PySem.F.called_set.made
  have hsub := PySem.F.called_set.sub
  refine wpAny_call (codeAny_of_tree ?_)
  show wpAny _ _ (callAny (.type "set") _) _ _ _
  refine wpAny_pure ⟨Code.quiet_builtin _ (by decide +kernel), codeAny_builtin PySem.F.entry_type_call ?_⟩
  rw [Around.under_plain (weight_type_call_type "set" [.ref l] []) rfl]
  have h1 := PySem.F.called_set.notType
  have h2 := PySem.F.called_set.canCreate
  have hct := PySem.F.typeCall_set_1 (.ref l)
  repeat (any_goals (first | assumption | wp_step))
  refine codeAny_mono (set_new_1 (.ref l) (E := E) (Q₁ := fun obj s₁ => obj = .ref s.heap.objs.size ∧ s₁ = { s with heap := s.heap.push { cls := .type "set", dict := none, data := .set #[] 0 (.fresh 0 0 (!w.params.followText "set-order")) } }) ⟨rfl, rfl⟩) fun r s₁ hr => ?_
  cases r with
  | error e => exact hr
  | ok fl =>
    cases fl with
    | ret obj =>
      obtain ⟨rfl, rfl⟩ := hr
      generalize hled : (!w.params.followText "set-order") = led at *
      have hS : (s.heap.push { cls := .type "set", dict := none, data := .set #[] 0 (.fresh 0 0 led) }).get? s.heap.objs.size = some { cls := .type "set", dict := none, data := .set #[] 0 (.fresh 0 0 led) } := Heap.get?_push_size _ rfl
      have hT : Shared.TypeIs { s with heap := s.heap.push { cls := .type "set", dict := none, data := .set #[] 0 (.fresh 0 0 led) } } (.ref s.heap.objs.size) "set" := ⟨_, hS, rfl⟩
      have hli := PySem.F.called_set.init.lookup
      have hbi := PySem.F.called_set.init.bind (.ref s.heap.objs.size)
      repeat (any_goals (first | assumption | wp_step))
      refine codeAny_mono (codeAny_call_builtin (R := wants (fun r s₂ => r = .none ∧ ∃ h' tk ks, s₂ = { s with heap := h', toks := tk } ∧
          SetW knd h' s.heap.objs.size ks ∧ Dedup val items.size ks ∧
          (∀ b o, b < s.heap.objs.size → s.heap.get? b = some o → h'.get? b = some o)) E) PySem.F.called_set.init.plain PySem.F.entry_set_init (check_set_init_1 hT ?_)) fun r₂ s₂ hr₂ => ?_
      · obtain ⟨ol, hol, hcl, nl, hdl⟩ := hl
        obtain ⟨ocls, odict, odata, oslots⟩ := ol
        simp only at hcl hdl
        subst hcl; subst hdl
        have hol' : (s.heap.push { cls := .type "set", dict := none, data := .set #[] 0 (.fresh 0 0 led) }).get? l = some { cls := .type "list", dict := odict, data := .seq items nl, slots := oslots } := Heap.get?_push_of_some _ hol
        have hsls := PySem.F.sub_list_set
        have hslf := PySem.F.sub_list_frozenset
        have hne : (Value.type "list" == Value.type "dict") = false := by decide
        have hl1 : (s.heap.push { cls := .type "set", dict := none, data := .set #[] 0 (.fresh 0 0 led) }).IsList l items := ⟨_, hol', rfl, nl, rfl⟩
        unfold Builtin.«set.__init__» noKeywords Builtin.Frozenset.updateFrom
        generalize hPI : pyIter = PI
        wp_walk
        subst hPI
        refine wpAny_pyIter_list hl1 ?_
        refine wpAny_bind (wpAny_runValue ?_)
        have hlS : l < s.heap.objs.size := Heap.lt_size hol
        have hh3 : A.in1.in1.in1.handled = none := by simp [hh]
        have hneI : l ≠ (s.heap.push { cls := .type "set", dict := none, data := .set #[] 0 (.fresh 0 0 led) }).objs.size := by
          rw [Heap.size_push]; exact Nat.ne_of_lt (Nat.lt_succ_of_lt hlS)
        have hSf : s.heap.objs.size ∉ [(s.heap.push { cls := .type "set", dict := none, data := .set #[] 0 (.fresh 0 0 led) }).objs.size, l] := by
          rw [Heap.size_push]; simp only [List.mem_cons, List.mem_singleton, List.not_mem_nil, or_false, not_or]
          exact ⟨Nat.ne_of_lt (Nat.lt_succ_self _), Nat.ne_of_gt hlS⟩
        refine set_update_loop (knd := knd) ((Walks.list hh3 _ l hneI items).toS) s.heap.objs.size
          hSf val hi hb (items.size - 0) 0 _ [] (by omega) (Nat.zero_le _)
          ⟨⟨_, Heap.get?_push_size _ rfl, rfl, rfl⟩, (hl1.push _)⟩ ?hS0 (dedup_zero val) ?hR
        case hS0 =>
          refine SetW.at' (h := s.heap.push { cls := .type "set", dict := none, data := .set #[] 0 (.fresh 0 0 led) }) (hled ▸ setW_fresh) fun o e => Heap.get?_push_of_some _ e
        case hR =>
          intro s' ks' hm hS' hD'
          obtain ⟨h', g', d', tk', os'⟩ := s'
          have eg : g' = s.gens := hm.gens
          have ed : d' = s.drawn := hm.drawn
          have eo : os' = s.os := hm.os
          subst eg; subst ed; subst eo
          show wpAny _ _ _ _ _ _
          refine wpAny_pure ?_
          show wpAny _ _ (ret Value.none) _ _ _
          refine wpAny_pure ⟨rfl, h', tk', ks', rfl, hS', hD', fun b o hb e => ?_⟩
          have hb1 : b ≠ s.heap.objs.size := Nat.ne_of_lt hb
          have hb2 : b ≠ (s.heap.push { cls := .type "set", dict := none, data := .set #[] 0 (.fresh 0 0 led) }).objs.size := by
            rw [Heap.size_push]; exact Nat.ne_of_lt (Nat.lt_succ_of_lt hb)
          exact hm.heap b o (by simp only [List.mem_cons, List.mem_singleton, List.not_mem_nil, or_false, not_or]; exact ⟨hb1, hb2⟩) (Heap.get?_push_of_some _ (Heap.get?_push_of_some _ e))
      · cases r₂ with
        | error e => exact hr₂
        | ok fl₂ =>
          cases fl₂ with
          | ret r =>
            obtain ⟨rfl, h', tk, ks, rfl, hS', hD', hk'⟩ := hr₂
            repeat (any_goals (first | assumption | wp_step))
            exact h _ _ _ hS' hD' hk'
          | _ => exact hr₂.elim
    | _ => exact hr.elim
end
end L2
namespace L2
open PySem PySem.Spec PyProof.Rows
theorem slot_setit_next : Slot "set_iterator" "__next__" "set_iterator.__next__" :=
  .of (owner := "set_iterator") (n := "__next__") (by rw [typeLookup_type, builtinLookup_eq_fast]; kernel_rfl) (by decide +kernel) (by decide +kernel) (by decide +kernel)
    (by first | exact .inl (by decide +kernel) | exact .inr (by decide +kernel)) (by rw [isSubtype_type]; kernel_rfl)
theorem entry_setit_next : entryFor table "set_iterator.__next__" = some Builtin.«set_iterator.__next__» := entryFor_of_tree (by kernel_rfl)
theorem owner_setit : Manifest.owners.lookup (String.ofList ['r', 'o', 't', 'a', 'r', 'e', 't', 'i', '_', 't', 'e', 's'].reverse) = some Manifest.sig_set_iterator := by kernel_rfl
theorem args_setit_next (a : Value) : argsOk "set_iterator.__next__" ⟨[a], []⟩ := by
  unfold argsOk; rw [signature?_of (id := "set_iterator.__next__") (n := ['_', '_', 't', 'x', 'e', 'n', '_', '_']) (o := ['r', 'o', 't', 'a', 'r', 'e', 't', 'i', '_', 't', 'e', 's']) (by kernel_rfl) owner_setit]; kernel_rfl
theorem slot_setit_iter : Slot "set_iterator" "__iter__" "set_iterator.__iter__" :=
  .of (owner := "set_iterator") (n := "__iter__") (by rw [typeLookup_type, builtinLookup_eq_fast]; kernel_rfl) (by decide +kernel) (by decide +kernel) (by decide +kernel)
    (by first | exact .inl (by decide +kernel) | exact .inr (by decide +kernel)) (by rw [isSubtype_type]; kernel_rfl)
theorem entry_setit_iter : entryFor table "set_iterator.__iter__" = some Builtin.«dict_keyiterator.__iter__» := entryFor_alias (id' := "dict_keyiterator.__iter__") (by kernel_rfl) rfl (by decide +kernel) (by kernel_rfl)
theorem args_setit_iter (a : Value) : argsOk "set_iterator.__iter__" ⟨[a], []⟩ := by
  unfold argsOk; rw [signature?_of (id := "set_iterator.__iter__") (n := ['_', '_', 'r', 'e', 't', 'i', '_', '_']) (o := ['r', 'o', 't', 'a', 'r', 'e', 't', 'i', '_', 't', 'e', 's']) (by kernel_rfl) owner_setit]; kernel_rfl
theorem entry_set_iter' : entryFor table "set.__iter__" = some Builtin.«frozenset.__iter__» := entryFor_alias (id' := "frozenset.__iter__") (by kernel_rfl) rfl (by decide +kernel) (by kernel_rfl)
theorem erase_perm {α : Type} : ∀ {l : List α} {i : Nat} (h : i < l.length), (l[i] :: l.eraseIdx i).Perm l
  | a :: r, 0, _ => .refl _
  | a :: r, i + 1, h => by
    have ih := erase_perm (l := r) (i := i) (by simpa using h)
    have h2 : ((a :: r)[i + 1] :: (a :: r).eraseIdx (i + 1)) = r[i]'(by simpa using h) :: a :: r.eraseIdx i := rfl
    rw [h2]
    exact (List.Perm.swap _ _ _).trans (ih.cons a)
theorem pick_go {α : Type} (next : Nat → Nat) : ∀ (fuel k : Nat) (left : List α) (out : Array α), left.length ≤ fuel → ∃ l : List α, (pickOrder.go next fuel k left out).toList = out.toList ++ l ∧ l.Perm left
  | 0, k, left, out, h => by
    have : left = [] := List.eq_nil_of_length_eq_zero (by omega)
    subst this
    exact ⟨[], by simp [pickOrder.go], .refl _⟩
  | fuel + 1, k, [], out, h => ⟨[], by simp [pickOrder.go], .refl _⟩
  | fuel + 1, k, a :: r, out, h => by
    unfold pickOrder.go
    have hlt : next k % (a :: r).length < (a :: r).length := Nat.mod_lt _ (by simp)
    rw [List.getElem?_eq_getElem hlt]
    dsimp only
    obtain ⟨l, e, p⟩ := pick_go next fuel (k + 1) ((a :: r).eraseIdx (next k % (a :: r).length)) (out.push (a :: r)[next k % (a :: r).length]) (by rw [List.length_eraseIdx_of_lt hlt]; simp at h ⊢; omega)
    refine ⟨(a :: r)[next k % (a :: r).length] :: l, by rw [e]; simp, ?_⟩
    exact (p.cons _).trans (erase_perm hlt)
theorem pick_perm {α : Type} (next : Nat → Nat) (xs : Array α) : (pickOrder next xs).toList.Perm xs.toList := by
  obtain ⟨l, e, p⟩ := pick_go next xs.size 0 xs.toList #[] (by simp)
  unfold pickOrder
  rw [e]
  simpa using p
theorem wpAny_choose {M : Model} {A : Around} {E : Value → Shared → Prop} {s : Shared} {src : Source} {n : Nat} {Q : Nat → Shared → Prop} (hn : n ≠ 0) (h : ∀ i d, i < n → Q i { s with drawn := d }) : wpAny M A (choose src n) Q E s := fun _ _ _ =>
  ⟨hn, h _ _ (Nat.mod_lt _ (Nat.pos_of_ne_zero hn))⟩
theorem wpAny_drawOrder {α : Type} {M : Model} {A : Around} {E : Value → Shared → Prop} : ∀ (n : Nat) (xs : List α) {s : Shared} {Q : List α → Shared → Prop}, xs.length ≤ n → (∀ l d, l.Perm xs → Q l { s with drawn := d }) → wpAny M A (drawOrder n xs) Q E s
  | 0, xs, s, Q, hl, h => by
    have : xs = [] := List.eq_nil_of_length_eq_zero (by omega)
    subst this
    have e : s = { s with drawn := s.drawn } := by cases s; rfl
    unfold drawOrder
    rw [e]
    exact wpAny_pure (h [] _ (.refl _))
  | n + 1, [], s, Q, hl, h => by
    have e : s = { s with drawn := s.drawn } := by cases s; rfl
    unfold drawOrder
    rw [e]
    exact wpAny_pure (h [] _ (.refl _))
  | n + 1, a :: r, s, Q, hl, h => by
    unfold drawOrder
    refine wpAny_bind (wpAny_choose (by simp) fun i d hi => ?_)
    rw [List.getElem?_eq_getElem hi]
    dsimp only
    refine wpAny_bind (wpAny_drawOrder n _ (by rw [List.length_eraseIdx_of_lt hi]; simp at hl ⊢; omega) fun l d' p => wpAny_pure ?_)
    exact h _ _ ((p.cons _).trans (erase_perm hi))
/-- an iterator over the set at a, which walks vs, at place i; tp: the drawn places -/
structure SetIt (w : World) (h : Heap) (it a tp : Addr) (vs : List Value) (i : Nat) : Prop where
  it : ∃ (o : Obj) (es : Array (Int × Value)) (ep : Nat) (t : SetTable) (first : Value) (oi : Obj), h.get? a = some o ∧ o.data = .set es ep t ∧ t.fits es.size = true ∧ TabOk (!w.params.followText "set-order") t ∧ vs.length = es.size ∧
    h.get? it = some oi ∧ oi.cls = .type "set_iterator" ∧ oi.data = .fields #[first, rawInt (i : Int), .ref a, rawInt (es.size : Int), rawInt (ep : Int)] ∧
    ((w.params.followText "set-order" = true ∧ first = rawInt 0 ∧ vs = (pickOrder (w.params.setOrder a ep) es).toList.map (·.2)) ∨
     (w.params.followText "set-order" = false ∧ ∃ (ps : List Nat) (ot : Obj), first = .ref tp ∧ h.get? tp = some ot ∧ ot.data = .seq (ps.map fun (p : Nat) => rawInt (p : Int)).toArray 0 ∧ Paired (fun (p : Nat) (v : Value) => (es[p]?).map (·.2) = some v) ps vs) ∨
     (w.params.followText "set-order" = false ∧ (!t.plain && decide (es.size > 1)) = false ∧ ∃ slot : Nat, first = rawInt (slot : Int) ∧ SetTable.below t.place slot = i ∧ vs = es.toList.map (·.2)))
theorem SetIt.typeIs {w : World} {s : Shared} {it a tp : Addr} {vs : List Value} {i : Nat} (x : SetIt w s.heap it a tp vs i) : s.TypeIs (.ref it) "set_iterator" := by
  obtain ⟨_, _, _, _, _, oi, _, _, _, _, _, h, c, _⟩ := x
  exact ⟨oi, h, c⟩
theorem SetIt.frame {w : World} {h h' : Heap} {it a tp : Addr} {vs : List Value} {i : Nat} (x : SetIt w h it a tp vs i) (k : ∀ b, b = it ∨ b = a ∨ b = tp → ∀ o, h.get? b = some o → h'.get? b = some o) : SetIt w h' it a tp vs i := by
  obtain ⟨o, es, ep, t, first, oi, h1, h2, h3, h4, h5, h6, h7, h8, h9⟩ := x
  refine ⟨o, es, ep, t, first, oi, k a (.inr (.inl rfl)) _ h1, h2, h3, h4, h5, k it (.inl rfl) _ h6, h7, h8, ?_⟩
  rcases h9 with z | ⟨z, ps, ot, z1, z2, z3⟩ | z
  · exact .inl z
  · exact .inr (.inl ⟨z, ps, ot, z1, k tp (.inr (.inr rfl)) _ z2, z3⟩)
  · exact .inr (.inr z)
section
variable {prog : Program} {w : World} {A : Around} {E : Value → Shared → Prop} {s : Shared}
theorem get_mapFields {h : Heap} {a : Addr} {o : Obj} {vs : Array Value} {i : Nat} {x : Value} (ho : h.get? a = some o) (hd : o.data = .fields vs) : ∃ o', (h.update a (Obj.mapFields (·.setIfInBounds i x))).get? a = some o' ∧ o'.cls = o.cls ∧ o'.data = .fields (vs.setIfInBounds i x) :=
  ⟨_, Heap.get?_update_self _ ho (Obj.isFreed_of_fields (Obj.data_mapFields hd _)), Obj.cls_mapFields .., Obj.data_mapFields hd _⟩
theorem paired_get {α β : Type} {R : α → β → Prop} : ∀ {xs : List α} {ys : List β}, Paired R xs ys → ∀ {i : Nat} {y : β}, ys[i]? = some y → ∃ x, xs[i]? = some x ∧ R x y
  | _, _, .nil, i, x, e => by simp at e
  | _, _, .cons r t, 0, x, e => by simp at e; subst e; exact ⟨_, rfl, r⟩
  | _, _, .cons r t, i + 1, x, e => by
    obtain ⟨y, h1, h2⟩ := paired_get t (i := i) (y := x) (by simpa using e)
    exact ⟨y, by simpa using h1, h2⟩
theorem setit_item {it a tp : Addr} {vs : List Value} {i : Nat} {x : Value} {Q : Option Value → Shared → Prop} (hne : a ≠ it) (hnt : tp ≠ it) (hit : SetIt w s.heap it a tp vs i) (hx : vs[i]? = some x)
    (hQ : ∀ h', SetIt w h' it a tp vs (i + 1) → Heap.SameBut it s.heap h' → Q (some x) { s with heap := h' }) : wpAny (model prog w) A (pyNext (.ref it)) Q E s := by
  have hT := hit.typeIs
  obtain ⟨o, es, ep, t, first, oi, h1, h2, h3, h4, h5, h6, h7, h8, h9⟩ := hit
  have hi : i < es.size := by
    rw [← h5]
    exact (List.getElem?_eq_some_iff.mp hx).1
  unfold pyNext
  refine wpAny_bind (wpAny_attempt (wpAny_callSpecial?_slot (name := Str.ofString "__next__") hT slot_setit_next
    (wpAny_call_entry slot_setit_next hT entry_setit_next ?_ (args_setit_next _))))
  unfold Builtin.«set_iterator.__next__»
  refine wpAny_bind (wpAny_pure ?_)
  dsimp only
  refine wpAny_bind (wpAny_fieldsOf h6 h8 ?_)
  show wpAny _ _ (setEntries a >>= _) _ _ s
  refine wpAny_bind (wpAny_setEntries_of h1 h2 h3 ?_)
  rw [if_neg (by simp)]
  have sb : ∀ (h' : Heap) (b : Addr) (o : Obj), Heap.SameBut it s.heap h' → b ≠ it → s.heap.get? b = some o → h'.get? b = some o := fun h' b o z hb e => (z.2 b hb).trans e
  rcases h9 with ⟨z1, rfl, rfl⟩ | ⟨z1, ps, ot, rfl, z3, z4, z5⟩ | ⟨z1, zd, slot, rfl, z3, rfl⟩
  · show wpAny _ _ (setNext a (0 : Int).toNat ((i : Int)).toNat ((ep : Int)).toNat >>= _) _ _ s
    refine wpAny_bind ?_
    unfold setNext
    refine wpAny_bind (wpAny_setState_of h1 h2 h3 ?_)
    dsimp only
    unfold setsByText
    refine wpAny_bind (wpAny_bind (wpAny_askSetting (wpAny_pure ?_)))
    show wpAny _ _ (if w.params.followText "set-order" = true then _ else _) _ _ s
    rw [if_pos z1]
    rw [if_neg (by simp)]
    refine wpAny_bind ?_
    unfold setWalk
    refine wpAny_bind (wpAny_setState_of h1 h2 h3 ?_)
    dsimp only
    unfold setsByText
    refine wpAny_bind (wpAny_bind (wpAny_askSetting (wpAny_pure ?_)))
    show wpAny _ _ (if w.params.followText "set-order" = true then _ else _) _ _ s
    rw [if_pos z1]
    refine wpAny_bind (wpAny_askSetting (wpAny_pure ?_))
    refine wpAny_pure ?_
    have ex : ((pickOrder (w.params.setOrder a ep) es)[((i : Int)).toNat]?).map (fun e => (e.2, (0 : Int).toNat)) = some (x, 0) := by
      rw [List.getElem?_map] at hx
      rw [Int.toNat_natCast, ← Array.getElem?_toList]
      cases e : (pickOrder (w.params.setOrder a ep) es).toList[i]? with
      | none => rw [e] at hx; cases hx
      | some y => rw [e] at hx; simp at hx; subst hx; rfl
    show wpAny _ _ (match ((pickOrder (w.params.setOrder a ep) es)[((i : Int)).toNat]?).map (fun e => (e.2, (0 : Int).toNat)) with | some (x, next) => _ | none => _) _ _ s
    rw [ex]
    dsimp only
    refine wpAny_bind (wpAny_setField h6 h8 (by simp) ?_)
    obtain ⟨o1, g1, c1, d1⟩ := get_mapFields (i := 0) (x := rawInt ((0 : Nat) : Int)) h6 h8
    refine wpAny_bind (wpAny_setField (s := { s with heap := _ }) g1 d1 (by simp) ?_)
    obtain ⟨o2, g2, c2, d2⟩ := get_mapFields (i := 1) (x := rawInt ((i : Int) + 1)) g1 d1
    have S := (Heap.SameBut.update s.heap it (Obj.mapFields (·.setIfInBounds 0 (rawInt ((0 : Nat) : Int))))).trans (Heap.SameBut.update _ it (Obj.mapFields (·.setIfInBounds 1 (rawInt ((i : Int) + 1)))))
    refine wpAny_pure ⟨x, rfl, wpAny_pure (hQ _ ?_ S)⟩
    exact ⟨o, es, ep, t, rawInt 0, o2, sb _ _ _ S hne h1, h2, h3, h4, h5, g2, c2.trans (c1.trans h7), by rw [d2]; simp, .inl ⟨z1, rfl, rfl⟩⟩
  · obtain ⟨p, hp, hv⟩ := paired_get z5 hx
    show wpAny _ _ (seqItems? (.ref tp) >>= _) _ _ s
    refine wpAny_bind (wpAny_seqItems z3 z4 ?_)
    dsimp only
    have ex : (ps.map fun (p : Nat) => rawInt (p : Int)).toArray[((i : Int)).toNat]? = some (.int (p : Int) 0) := by
      rw [Int.toNat_natCast]
      simp [hp, rawInt]
    show wpAny _ _ (match (ps.map fun (p : Nat) => rawInt (p : Int)).toArray[((i : Int)).toNat]? with | some (.int place _) => _ | some _ => _ | none => _) _ _ s
    rw [ex]
    dsimp only
    refine wpAny_bind ?_
    unfold setNextDrawn
    refine wpAny_bind (wpAny_setState_of h1 h2 h3 ?_)
    dsimp only
    rw [if_neg (by simp)]
    cases e : es[p]? with
    | none => rw [e] at hv; cases hv
    | some y =>
      rw [e] at hv
      have hv' : y.2 = x := Option.some.inj hv
      subst hv'
      rw [Int.toNat_natCast, e]
      refine wpAny_pure ?_
      refine wpAny_bind (wpAny_setField h6 h8 (by simp) ?_)
      obtain ⟨o2, g2, c2, d2⟩ := get_mapFields (i := 1) (x := rawInt ((i : Int) + 1)) h6 h8
      have S := Heap.SameBut.update s.heap it (Obj.mapFields (·.setIfInBounds 1 (rawInt ((i : Int) + 1))))
      refine wpAny_pure ⟨y.2, rfl, wpAny_pure (hQ _ ?_ S)⟩
      exact ⟨o, es, ep, t, .ref tp, o2, sb _ _ _ S hne h1, h2, h3, h4, h5, g2, c2.trans h7, by rw [d2]; simp, .inr (.inl ⟨z1, ps, ot, rfl, sb _ _ _ S hnt z3, z4, z5⟩)⟩
  · show wpAny _ _ (setNext a ((slot : Int)).toNat ((i : Int)).toNat ((ep : Int)).toNat >>= _) _ _ s
    refine wpAny_bind ?_
    unfold setNext
    refine wpAny_bind (wpAny_setState_of h1 h2 h3 ?_)
    dsimp only
    unfold setsByText
    refine wpAny_bind (wpAny_bind (wpAny_askSetting (wpAny_pure ?_)))
    show wpAny _ _ (if w.params.followText "set-order" = true then _ else _) _ _ s
    rw [if_neg (by rw [z1]; exact Bool.false_ne_true)]
    show wpAny _ _ (if (!t.plain && decide (es.size > 1)) = true then _ else _) _ _ s
    rw [if_neg (by rw [zd]; exact Bool.false_ne_true)]
    have hled : t.led = true := by rw [h4.led, z1]; rfl
    show wpAny _ _ ((if (!t.led && !es.isEmpty) = true then _ else _) >>= _) _ _ s
    rw [if_neg (by rw [hled]; simp)]
    refine wpAny_bind (wpAny_pure ?_)
    refine wpAny_pure ?_
    have hps : t.place.size = es.size := by
      simp only [SetTable.fits, Bool.and_eq_true, beq_iff_eq] at h3
      exact h3.1
    have hx' : es[i].2 = x := by
      rw [List.getElem?_map] at hx
      have e : es.toList[i]? = some es[i] := by rw [Array.getElem?_toList, Array.getElem?_eq_getElem hi]
      rw [e] at hx
      exact Option.some.inj hx
    rw [Int.toNat_natCast, z3, Array.getElem?_eq_getElem hi, Array.getElem?_eq_getElem (by omega : i < t.place.size)]
    dsimp only
    refine wpAny_bind (wpAny_setField h6 h8 (by simp) ?_)
    obtain ⟨o1, g1, c1, d1⟩ := get_mapFields (i := 0) (x := rawInt ((t.place[i]'(by omega) + 1 : Nat) : Int)) h6 h8
    refine wpAny_bind (wpAny_setField (s := { s with heap := _ }) g1 d1 (by simp) ?_)
    obtain ⟨o2, g2, c2, d2⟩ := get_mapFields (i := 1) (x := rawInt ((i : Int) + 1)) g1 d1
    have S := (Heap.SameBut.update s.heap it (Obj.mapFields (·.setIfInBounds 0 (rawInt ((t.place[i]'(by omega) + 1 : Nat) : Int))))).trans (Heap.SameBut.update _ it (Obj.mapFields (·.setIfInBounds 1 (rawInt ((i : Int) + 1)))))
    subst hx'
    refine wpAny_pure ⟨es[i].2, rfl, wpAny_pure (hQ _ ?_ S)⟩
    exact ⟨o, es, ep, t, rawInt ((t.place[i]'(by omega) + 1 : Nat) : Int), o2, sb _ _ _ S hne h1, h2, h3, h4, h5, g2, c2.trans (c1.trans h7), by rw [d2]; simp, .inr (.inr ⟨z1, zd, _, rfl, below_succ h4.rise (by omega), rfl⟩)⟩
theorem setit_end {it a tp : Addr} {vs : List Value} {Q : Option Value → Shared → Prop} (hh : A.handled = none) (hne : a ≠ it) (hit : SetIt w s.heap it a tp vs vs.length)
    (hQ : ∀ h', Heap.ExtBut it s.heap h' → Q none { s with heap := h' }) : wpAny (model prog w) A (pyNext (.ref it)) Q E s := by
  have hT := hit.typeIs
  obtain ⟨o, es, ep, t, first, oi, h1, h2, h3, h4, h5, h6, h7, h8, h9⟩ := hit
  have fin : ∀ (h' : Heap), Heap.ExtBut it s.heap h' → wpAny (model prog w) A.in1 (newExc (.type "StopIteration") [] >>= fun e => raiseNew e) (fun (_ : Fin) _ => False) (fun e s' => (∃ oe, s'.heap.get? (match e with | .ref b => b | _ => 0) = some oe ∧ oe.cls = .type "StopIteration" ∧ ∃ b, e = .ref b) ∧ ∃ h2, s' = { s with heap := h2 } ∧ Heap.ExtBut it s.heap h2) { s with heap := h' } := by
    intro h' he
    refine wpAny_bind ?_
    simp only [newExc, newTuple]
    refine wpAny_bind (wpAny_newObj_type ?_ (by size_fits))
    refine wpAny_bind (m := firstArgMember _ _) (wpAny_of_eq (a := Value.none) (by first | rfl | (simp only [firstArgMember]; rfl)) ?_)
    refine wpAny_newObj_type ?_ (by size_fits)
    simp only [raiseNew]
    refine wpAny_bind (wpAny_handled ?_)
    rw [show A.in1.handled = none from hh]
    refine wpAny_bind (wpAny_pure (wpAny_throw ?_))
    exact ⟨⟨_, Heap.get?_push_size _ rfl, rfl, _, rfl⟩, _, rfl, (he.push _).push _⟩
  have fin2 : ∀ (e : Value) (s' : Shared), ((∃ oe, s'.heap.get? (match e with | .ref b => b | _ => 0) = some oe ∧ oe.cls = .type "StopIteration" ∧ ∃ b, e = .ref b) ∧ ∃ h2, s' = { s with heap := h2 } ∧ Heap.ExtBut it s.heap h2) →
      wpAny (model prog w) A (do if ← isInstance e (.type "StopIteration") then pure none else throw e) Q E s' := by
    rintro e s' ⟨⟨oe, e1, e2, b, rfl⟩, h2, rfl, e3⟩
    refine wpAny_bind (wpAny_isInstance (T := "StopIteration") (b := true) ⟨_, e1, e2⟩ isSubtype_stop ?_)
    exact wpAny_pure (hQ _ e3)
  unfold pyNext
  refine wpAny_bind (wpAny_attempt (wpAny_mono (wpAny_callSpecial?_slot (Q := fun _ _ => False) (name := Str.ofString "__next__") hT slot_setit_next
    (wpAny_call_entry slot_setit_next hT entry_setit_next ?_ (args_setit_next _))) (fun _ _ z => z.elim) fun e s' z => fin2 e s' z))
  unfold Builtin.«set_iterator.__next__»
  refine wpAny_bind (wpAny_pure ?_)
  dsimp only
  refine wpAny_bind (wpAny_fieldsOf h6 h8 ?_)
  show wpAny _ _ (setEntries a >>= _) _ _ s
  refine wpAny_bind (wpAny_setEntries_of h1 h2 h3 ?_)
  rw [if_neg (by simp)]
  rcases h9 with ⟨z1, rfl, hvs⟩ | ⟨z1, ps, ot, rfl, z3, z4, z5⟩ | ⟨z1, zd, slot, rfl, z3, hvs⟩
  · show wpAny _ _ (setNext a (0 : Int).toNat ((vs.length : Int)).toNat ((ep : Int)).toNat >>= _) _ _ s
    refine wpAny_bind ?_
    unfold setNext
    refine wpAny_bind (wpAny_setState_of h1 h2 h3 ?_)
    dsimp only
    unfold setsByText
    refine wpAny_bind (wpAny_bind (wpAny_askSetting (wpAny_pure ?_)))
    show wpAny _ _ (if w.params.followText "set-order" = true then _ else _) _ _ s
    rw [if_pos z1]
    rw [if_neg (by simp)]
    refine wpAny_bind ?_
    unfold setWalk
    refine wpAny_bind (wpAny_setState_of h1 h2 h3 ?_)
    dsimp only
    unfold setsByText
    refine wpAny_bind (wpAny_bind (wpAny_askSetting (wpAny_pure ?_)))
    show wpAny _ _ (if w.params.followText "set-order" = true then _ else _) _ _ s
    rw [if_pos z1]
    refine wpAny_bind (wpAny_askSetting (wpAny_pure ?_))
    refine wpAny_pure ?_
    have ex : ((pickOrder (w.params.setOrder a ep) es)[((vs.length : Int)).toNat]?).map (fun e => (e.2, (0 : Int).toNat)) = none := by
      rw [Int.toNat_natCast, Array.getElem?_eq_none]
      · rfl
      · rw [hvs, List.length_map, Array.length_toList]; exact Nat.le_refl _
    show wpAny _ _ (match ((pickOrder (w.params.setOrder a ep) es)[((vs.length : Int)).toNat]?).map (fun e => (e.2, (0 : Int).toNat)) with | some (x, next) => _ | none => _) _ _ s
    rw [ex]
    dsimp only
    refine wpAny_bind (wpAny_setField h6 h8 (by simp) ?_)
    exact wpAny_mono (fin _ (Heap.SameBut.update ..).extBut) (fun _ _ z => z.elim) fun _ _ z => z
  · show wpAny _ _ (seqItems? (.ref tp) >>= _) _ _ s
    refine wpAny_bind (wpAny_seqItems z3 z4 ?_)
    dsimp only
    have ex : (ps.map fun (p : Nat) => rawInt (p : Int)).toArray[((vs.length : Int)).toNat]? = none := by
      rw [Int.toNat_natCast, Array.getElem?_eq_none]
      simp [paired_len z5]
    show wpAny _ _ (match (ps.map fun (p : Nat) => rawInt (p : Int)).toArray[((vs.length : Int)).toNat]? with | some (.int place _) => _ | some _ => _ | none => _) _ _ s
    rw [ex]
    dsimp only
    refine wpAny_bind (wpAny_setField h6 h8 (by simp) ?_)
    obtain ⟨o1, g1, c1, d1⟩ := get_mapFields (i := 0) (x := rawInt 0) h6 h8
    refine wpAny_bind (wpAny_setField (s := { s with heap := _ }) g1 d1 (by simp) ?_)
    exact wpAny_mono (fin _ ((Heap.SameBut.update ..).trans (Heap.SameBut.update ..)).extBut) (fun _ _ z => z.elim) fun _ _ z => z
  · show wpAny _ _ (setNext a ((slot : Int)).toNat ((vs.length : Int)).toNat ((ep : Int)).toNat >>= _) _ _ s
    refine wpAny_bind ?_
    unfold setNext
    refine wpAny_bind (wpAny_setState_of h1 h2 h3 ?_)
    dsimp only
    unfold setsByText
    refine wpAny_bind (wpAny_bind (wpAny_askSetting (wpAny_pure ?_)))
    show wpAny _ _ (if w.params.followText "set-order" = true then _ else _) _ _ s
    rw [if_neg (by rw [z1]; exact Bool.false_ne_true)]
    show wpAny _ _ (if (!t.plain && decide (es.size > 1)) = true then _ else _) _ _ s
    rw [if_neg (by rw [zd]; exact Bool.false_ne_true)]
    have hled : t.led = true := by rw [h4.led, z1]; rfl
    show wpAny _ _ ((if (!t.led && !es.isEmpty) = true then _ else _) >>= _) _ _ s
    rw [if_neg (by rw [hled]; simp)]
    refine wpAny_bind (wpAny_pure ?_)
    refine wpAny_pure ?_
    rw [Int.toNat_natCast, z3, Array.getElem?_eq_none (by omega : es.size ≤ vs.length)]
    dsimp only
    refine wpAny_bind (wpAny_setField h6 h8 (by simp) ?_)
    exact wpAny_mono (fin _ (Heap.SameBut.update ..).extBut) (fun _ _ z => z.elim) fun _ _ z => z
end
end L2
namespace L2
open PySem PySem.Spec PyProof.Rows
section
variable {prog : Program} {w : World} {K : Type} [DecidableEq K] {knd : KeyKind prog w K} {A : Around} {E : Value → Shared → Prop} {s : Shared}
theorem paired_map {α β γ : Type} {R : α → γ → Prop} {f : β → γ} : ∀ {xs : List α} {ys : List β}, Paired (fun a b => R a (f b)) xs ys → Paired R xs (ys.map f)
  | _, _, .nil => .nil
  | _, _, .cons r t => .cons r (paired_map t)
theorem paired_range (es : Array (Int × Value)) : Paired (fun (p : Nat) (v : Value) => (es[p]?).map (·.2) = some v) (List.range es.size) (es.toList.map (·.2)) := by
  have gen : ∀ (l : List (Int × Value)) (k : Nat), (∀ j, es[k + j]? = l[j]?) → Paired (fun (p : Nat) (v : Value) => (es[p]?).map (·.2) = some v) ((List.range l.length).map (k + ·)) (l.map (·.2)) := by
    intro l
    induction l with
    | nil => intro k _; exact .nil
    | cons a r ih =>
      intro k h
      rw [List.length_cons, List.range_succ_eq_map, List.map_cons, List.map_map, List.map_cons]
      refine .cons ?_ ?_
      · have := h 0
        simp at this
        show (es[k + 0]?).map (·.2) = _
        rw [Nat.add_zero, this]; rfl
      · have := ih (k + 1) (fun j => by have := h (j + 1); simp at this; rw [Nat.add_assoc, Nat.add_comm 1 j]; exact this)
        have e : ((fun x => k + x) ∘ Nat.succ) = (fun x => k + 1 + x) := by funext x; show k + (x + 1) = _; omega
        rw [e]
        exact this
  have h := gen es.toList 0 (fun j => by simp)
  have e1 : (List.range es.toList.length).map (0 + ·) = List.range es.size := by
    have : (fun x : Nat => 0 + x) = id := by funext x; simp
    rw [this, List.map_id, Array.length_toList]
  rw [e1] at h
  exact h
theorem paired_perm' {α β : Type} {R : α → β → Prop} {l1 l1' : List α} (p : l1.Perm l1') : ∀ {l2 : List β}, Paired R l1 l2 → ∃ l2', l2.Perm l2' ∧ Paired R l1' l2' := by
  induction p with
  | nil => intro l1 h; exact ⟨l1, .refl _, h⟩
  | cons x _ ih =>
    intro l1 h
    cases h with
    | cons r t => obtain ⟨l, p, q⟩ := ih t; exact ⟨_ :: l, p.cons _, .cons r q⟩
  | swap x y l =>
    intro l1 h
    cases h with
    | cons r t => cases t with | cons r' t' => exact ⟨_, .swap _ _ _, .cons r' (.cons r t')⟩
  | trans _ _ ih1 ih2 =>
    intro l1 h
    obtain ⟨l, p, q⟩ := ih1 h
    obtain ⟨l', p', q'⟩ := ih2 q
    exact ⟨l', p.trans p', q'⟩
theorem pyIter_setW {a : Addr} {ks : List K} {Q : Value → Shared → Prop} (hS : SetW knd s.heap a ks)
    (h : ∀ it tp h' d vs, (∀ b o, s.heap.get? b = some o → h'.get? b = some o) → a ≠ it → tp ≠ it → s.heap.objs.size ≤ it → (tp = a ∨ s.heap.objs.size ≤ tp) → SetIt w h' it a tp vs 0 → (∃ ks' : List K, ks.Perm ks' ∧ Paired (fun (k : K) (v : Value) => knd.is k v = true) ks' vs) → Q (.ref it) { s with heap := h', drawn := d }) :
    wpAny (model prog w) A (pyIter (.ref a)) Q E s := by
  have hT := hS.typeIs
  obtain ⟨o, es, ep, t, ho, hex, hd, hel, hpr, hnd, hb, hf, ht⟩ := hS
  have hpv := paired_map (f := fun (e : Int × Value) => e.2) (R := fun (k : K) (v : Value) => knd.is k v = true) hpr
  have halt : a < s.heap.objs.size := Heap.lt_size ho
  refine wpAny_pyIter_slot hT PySem.F.slot_set_iter (wpAny_call_entry PySem.F.slot_set_iter hT entry_set_iter' ?_ (PySem.F.args_set_iter_1 _))
  unfold Builtin.«frozenset.__iter__»
  show wpAny _ _ (Builtin.Frozenset.sizeOf a >>= _) _ _ s
  unfold Builtin.Frozenset.sizeOf
  refine wpAny_bind (wpAny_bind (wpAny_setEntries_of ho hd hf (wpAny_pure ?_)))
  refine wpAny_bind ?_
  refine wpAny_bind (wpAny_setState_of ho hd hf ?_)
  dsimp only
  unfold setsByText
  refine wpAny_bind (wpAny_bind (wpAny_askSetting (wpAny_pure ?_)))
  refine wpAny_pure ?_
  show wpAny _ _ (if (!w.params.followText "set-order" && (!t.plain && decide (es.size > 1))) = true then _ else _) _ _ s
  by_cases hc : (!w.params.followText "set-order" && (!t.plain && decide (es.size > 1))) = true
  · rw [if_pos hc]
    have hbt : w.params.followText "set-order" = false := by simp at hc; exact hc.1
    refine wpAny_bind (wpAny_drawOrder es.size (List.range es.size) (by simp) fun l d p => ?_)
    have hll : l.length = es.size := by rw [p.length_eq, List.length_range]
    refine wpAny_bind (wpAny_newTuple ?_ (by rw [List.length_map, hll]; exact fits_of_scanBound hb))
    have ho1 := Heap.get?_push_of_some ({ cls := .type "tuple", data := .seq (l.map fun (i : Nat) => rawInt (i : Int)).toArray } : Obj) ho
    refine wpAny_bind ?_
    unfold setEpoch
    refine wpAny_bind (wpAny_setState_of (s := { s with heap := _, drawn := d }) ho1 hd hf (wpAny_pure ?_))
    refine wpAny_bind (wpAny_newObj_type (wpAny_pure ⟨_, rfl, "set_iterator", _, ⟨_, Heap.get?_push_size _ rfl, rfl⟩, slot_setit_next.lookup, ?_⟩))
    obtain ⟨vs, pv, hvs⟩ := paired_perm' p.symm (paired_range es)
    have hv2 := paired_perm pv hpv
    dsimp only
    refine h (s.heap.push { cls := .type "tuple", data := .seq (l.map fun (i : Nat) => rawInt (i : Int)).toArray }).objs.size s.heap.objs.size _ d vs (fun b o e => Heap.get?_push_of_some _ (Heap.get?_push_of_some _ e)) ?_ ?_ ?_ (.inr (Nat.le_refl _)) ?_ hv2
    · rw [Heap.size_push]; exact Nat.ne_of_lt (Nat.lt_succ_of_lt halt)
    · rw [Heap.size_push]; exact Nat.ne_of_lt (Nat.lt_succ_self _)
    · rw [Heap.size_push]; exact Nat.le_succ _
    · exact ⟨o, es, ep, t, .ref s.heap.objs.size, _, Heap.get?_push_of_some _ ho1, hd, hf, ht, by rw [← paired_len hvs, hll], Heap.get?_push_size _ rfl, rfl, rfl, .inr (.inl ⟨hbt, l, _, rfl, Heap.get?_push_of_some _ (Heap.get?_push_size _ rfl), rfl, hvs⟩)⟩
  · rw [if_neg hc]
    refine wpAny_bind (wpAny_pure ?_)
    refine wpAny_bind ?_
    unfold setEpoch
    refine wpAny_bind (wpAny_setState_of ho hd hf (wpAny_pure ?_))
    refine wpAny_bind (wpAny_newObj_type (wpAny_pure ⟨_, rfl, "set_iterator", _, ⟨_, Heap.get?_push_size _ rfl, rfl⟩, slot_setit_next.lookup, ?_⟩))
    have hit : ∀ vs, vs.length = es.size → ((w.params.followText "set-order" = true ∧ (rawInt 0 : Value) = rawInt 0 ∧ vs = (pickOrder (w.params.setOrder a ep) es).toList.map (·.2)) ∨
       (w.params.followText "set-order" = false ∧ (!t.plain && decide (es.size > 1)) = false ∧ ∃ slot : Nat, (rawInt 0 : Value) = rawInt (slot : Int) ∧ SetTable.below t.place slot = 0 ∧ vs = es.toList.map (·.2))) →
       SetIt w (s.heap.push { cls := .type "set_iterator", data := .fields [rawInt 0, rawInt 0, .ref a, rawInt (es.size : Int), rawInt (ep : Int)].toArray }) s.heap.objs.size a a vs 0 := fun vs hl z =>
      ⟨o, es, ep, t, rawInt 0, _, Heap.get?_push_of_some _ ho, hd, hf, ht, hl, Heap.get?_push_size _ rfl, rfl, rfl, z.elim .inl fun z => .inr (.inr z)⟩
    have e : s = { s with drawn := s.drawn } := by cases s; rfl
    have fin : ∀ vs, (∃ ks' : List K, ks.Perm ks' ∧ Paired (fun (k : K) (v : Value) => knd.is k v = true) ks' vs) → SetIt w (s.heap.push { cls := .type "set_iterator", data := .fields [rawInt 0, rawInt 0, .ref a, rawInt (es.size : Int), rawInt (ep : Int)].toArray }) s.heap.objs.size a a vs 0 →
        Q (.ref s.heap.objs.size) { s with heap := s.heap.push { cls := .type "set_iterator", data := .fields [rawInt 0, rawInt 0, .ref a, rawInt (es.size : Int), rawInt (ep : Int)].toArray } } := fun vs hv z =>
      h s.heap.objs.size a _ s.drawn vs (fun b o e => Heap.get?_push_of_some _ e) (Nat.ne_of_lt halt) (Nat.ne_of_lt halt) (Nat.le_refl _) (.inl rfl) z hv
    by_cases hbt : w.params.followText "set-order" = true
    · have pp := (pick_perm (w.params.setOrder a ep) es).map (fun (e : Int × Value) => e.2)
      exact fin _ (paired_perm pp.symm hpv) (hit _ (by rw [List.length_map, (pick_perm _ es).length_eq, Array.length_toList]) (.inl ⟨hbt, rfl, rfl⟩))
    · have hbt' : w.params.followText "set-order" = false := by simpa using hbt
      have hdr : (!t.plain && decide (es.size > 1)) = false := by
        rw [hbt'] at hc
        simpa using hc
      exact fin _ ⟨ks, .refl _, hpv⟩ (hit _ (by rw [List.length_map, Array.length_toList]) (.inr ⟨hbt', hdr, 0, rfl, below_zero ht.rise, rfl⟩))
theorem walks_set (hh : A.handled = none) {it a tp : Addr} (hne : a ≠ it) (hnt : tp ≠ it) (vs : List Value) : Walks prog w A it [it, a, tp] [it] vs.length (fun i v => vs[i]? = some v) (fun i h => SetIt w h it a tp vs i) where
  sub := fun b hb => by simp at hb; simp [hb]
  frame := fun _ _ _ st hk => st.frame fun b hb o e => hk b (by simp; exact hb) o e
  item := fun i s Q E hi st hQ => by
    refine setit_item hne hnt st (List.getElem?_eq_getElem hi) fun h' st' sb => ?_
    exact hQ _ h' s.toks (List.getElem?_eq_getElem hi) st' fun b o hb e => sb.extBut b o (fun h => hb (by simp [h])) e
  done := fun s Q E st hQ => setit_end hh hne st fun h' he' => hQ h' s.toks fun b o hb e => he' b o (fun h => hb (by simp [h])) e
  self := fun i s Q E st hQ => by
    have hT := SetIt.typeIs (s := s) st
    refine wpAny_pyIter_slot hT slot_setit_iter (wpAny_call_entry slot_setit_iter hT entry_setit_iter ?_ (args_setit_iter _))
    show wpAny _ _ (ret (.ref it)) _ _ s
    exact wpAny_pure ⟨_, rfl, "set_iterator", _, hT, slot_setit_next.lookup, hQ⟩
theorem hint_set {r : Addr} {Q : Bool → Shared → Prop} (hT : s.TypeIs (.ref r) "set") (h : Q false s) : wpAny (model prog w) A (Builtin.List.listLengthHint (.ref r)) Q E s := by
  unfold Builtin.List.listLengthHint
  refine wpAny_bind (wpAny_specialOf hT PySem.F.slot_set_len.lookup ?_)
  generalize hid : ("set.__len__" : String) = id0
  wp_delta
  rw [show splitId id0 = some ("set", "__len__") from by subst hid; decide +kernel]
  subst hid
  refine wpAny_bind (wpAny_isInstance (T := "set") (b := true) hT (by rw [isSubtype_type]; kernel_rfl) ?_)
  refine wpAny_ite_split (fun hab => absurd hab (by decide)) (fun _ => ?_)
  refine wpAny_ite_split (fun _ => ?_) (fun hab => absurd (by decide +kernel) hab)
  refine wpAny_bind (wpAny_typeOf hT ?_)
  exact wpAny_pure h
theorem collect_setW {a : Addr} {ks : List K} {R : List Value → Shared → Prop} (hh : A.handled = none) (hS : SetW knd s.heap a ks) (hn : ks.length ≤ sizeLine)
    (h : ∀ (h' : Heap) tk d vs, (∀ b o, s.heap.get? b = some o → h'.get? b = some o) → s.heap.objs.size ≤ h'.objs.size → (∃ ks' : List K, ks.Perm ks' ∧ Paired (fun (k : K) (v : Value) => knd.is k v = true) ks' vs) → R vs { s with heap := h', toks := tk, drawn := d }) :
    wpAny (model prog w) A (collect (.ref a)) R E s := by
  obtain ⟨ol, _, _, _, hol, _⟩ := id hS
  have hlt : a < s.heap.objs.size := Heap.lt_size hol
  unfold collect
  refine wpAny_bind (wpAny_runValue (codeAny_builtin entry_proto_collect' ?_))
  rw [Around.under_plainId PySem.F.plain_proto_collect _]
  show wpAny _ A.in1 (newList [] >>= fun l => again (.builtin "list.__iadd__" ⟨[l, .ref a], []⟩)) _ _ s
  refine wpAny_bind (wpAny_newObj_type ?_)
  refine wpAny_pure ⟨plainId_quiet PySem.F.plain_list_iadd _, codeAny_builtin entry_list_iadd' ?_⟩
  rw [Around.under_plainId PySem.F.plain_list_iadd _]
  generalize hH1 : s.heap.push { cls := .type "list", data := .seq ([] : List Value).toArray } = H1
  have hS₁ : H1.get? s.heap.objs.size = some { cls := .type "list", data := .seq #[] } := hH1 ▸ Heap.get?_push_size _ rfl
  have k1 : ∀ b o, s.heap.get? b = some o → H1.get? b = some o := fun b o e => hH1 ▸ Heap.get?_push_of_some _ e
  have hsz : H1.objs.size = s.heap.objs.size + 1 := by rw [← hH1, Heap.size_push]
  have hS1 : SetW knd H1 a ks := hS.at' fun o e => k1 _ _ e
  show wpAny _ A.in1 (Builtin.List.listExtendWith (.ref s.heap.objs.size) (.ref a) (.ref s.heap.objs.size)) _ _ { s with heap := H1 }
  have haS : a ≠ s.heap.objs.size := Nat.ne_of_lt hlt
  have hltS : ∀ b o, s.heap.get? b = some o → b ≠ s.heap.objs.size := fun b o e => Nat.ne_of_lt (Heap.lt_size e)
  have hlti : ∀ b o (it : Addr), s.heap.get? b = some o → H1.objs.size ≤ it → b ≠ it := fun b o it e hi => Nat.ne_of_lt (Nat.lt_of_lt_of_le (Heap.lt_size (k1 b o e)) hi)
  have hSi : ∀ it : Addr, H1.objs.size ≤ it → s.heap.objs.size ≠ it := fun it hi => Nat.ne_of_lt (Nat.lt_of_lt_of_le (Heap.lt_size hS₁) hi)
  generalize hSS : s.heap.objs.size = S at *
  unfold Builtin.List.listExtendWith
  refine wpAny_bind (wpAny_typeOf (T := "set") (SetW.typeIs (s := { s with heap := H1 }) hS1) ?_)
  have h1 : Builtin.List.listSameRef (.ref S) (.ref a) = false := by simp [Builtin.List.listSameRef, haS.symm]
  have h2 : (Value.type "set" == Value.type "list") = false := by decide
  have h3 : (Value.type "set" == Value.type "tuple") = false := by decide
  simp only [h1, h2, h3, Bool.or_false, Bool.false_eq_true, if_false]
  refine wpAny_bind (pyIter_setW (knd := knd) (s := { s with heap := H1 }) hS1 fun it tp h' d vs k2 n1 n2 n3 n4 st hv => ?_)
  have hSit : S ≠ it := hSi it n3
  have hStp : S ≠ tp := by
    rcases n4 with rfl | n4
    · exact haS.symm
    · exact hSi tp n4
  have hSf : S ∉ [it, a, tp] := by simp only [List.mem_cons, List.not_mem_nil, or_false, not_or]; exact ⟨hSit, haS.symm, hStp⟩
  have W := walks_set (prog := prog) (w := w) (A := A.in1) (by simp [hh]) n1 n2 vs
  have hvl : vs.length = ks.length := by
    obtain ⟨ks', p, q⟩ := hv
    rw [← paired_len q, p.length_eq]
  have key : ∀ (h : Heap) (c₁ tk : Nat), SetIt w h it a tp vs 0 → (∀ b o, b ≠ S → s.heap.get? b = some o → h.get? b = some o) →
      h.get? S = some { cls := .type "list", data := .seq #[] c₁ } → codeAny (model prog w) A (.builtin "list.extend.loop" ⟨[.ref S, .ref it, .ref S], []⟩)
        (fun (q : Result) (s' : Shared) => ∃ (h' : Heap) (tk : Nat) (acc' : Array Value) (c' : Nat), q = .ok (.ret (.ref S)) ∧ s' = { s with heap := h', toks := tk, drawn := d } ∧
      (∀ b o, b ≠ S → b ≠ it → s.heap.get? b = some o → h'.get? b = some o) ∧ h'.get? S = some { cls := .type "list", dict := none, data := .seq acc' c', slots := #[] } ∧ acc'.toList = vs) { s with heap := h, toks := tk, drawn := d } := by
    intro h c₁ tk hst hk hS₁
    refine codeAny_extend_loopS W.toS (by rw [hvl]; exact hn) S hSf (.ref S) vs.length 0 _ #[] c₁ rfl (Nat.zero_le _) hst hS₁ (ItemsOf.nil _) fun s' acc' c' hm hS' hacc => ?_
    rw [Moved.eq_with hm]
    refine ⟨s'.heap, s'.toks, acc', c', rfl, rfl, fun b o hb hbi e => hm.heap b o (fun hmem => ?_) (hk b o hb e), hS', ?_⟩
    · rcases List.mem_cons.mp hmem with e' | hmem
      · exact hb e'
      · exact hbi (List.mem_singleton.mp hmem)
    · apply List.ext_getElem
      · rw [Array.length_toList, hacc.1]
      · intro j j1 j2
        have : vs[j]? = some acc'.toList[j] := hacc.2 j acc'.toList[j] (by rw [← Array.getElem?_toList, List.getElem?_eq_getElem j1])
        rw [List.getElem?_eq_getElem j2] at this
        exact (Option.some.inj this).symm
  have fin : ∀ (q : Result) (s' : Shared), (∃ (h' : Heap) (tk : Nat) (acc' : Array Value) (c' : Nat), q = .ok (.ret (.ref S)) ∧ s' = { s with heap := h', toks := tk, drawn := d } ∧
      (∀ b o, b ≠ S → b ≠ it → s.heap.get? b = some o → h'.get? b = some o) ∧ h'.get? S = some { cls := .type "list", dict := none, data := .seq acc' c', slots := #[] } ∧ acc'.toList = vs) →
      q = .ok (.ret (.ref S)) ∧ wpAny (model prog w) A (load S >>= fun o => (match o.data with | .seq xs _ => pure xs.toList | _ => unsupported "internal:collect")) R E s' := by
    rintro q s' ⟨h', tk, acc', c', rfl, rfl, hk, hS', rfl⟩
    refine ⟨rfl, ?_⟩
    refine wpAny_bind (wpAny_load hS' ?_)
    refine wpAny_pure (h h' tk d _ (fun b o e => hk b o ?_ ?_ e) (Nat.le_of_lt (Heap.lt_size hS')) hv)
    · exact hltS b o e
    · exact hlti b o it e n3
  have S2 := k2 _ _ hS₁
  refine wpAny_bind (wpAny_holding (hint_set (s := { s with heap := h', drawn := d }) (SetW.typeIs (knd := knd) (s := { s with heap := h', drawn := d }) (hS1.at' fun o e => k2 _ _ e)) ?_))
  refine wpAny_ite_split (fun _ => ?_) (fun _ => wpAny_pure ⟨plainId_quiet PySem.F.plain_extend_loop _, codeAny_mono (key _ 0 s.toks st (fun b o _ e => k2 _ _ (k1 _ _ e)) S2) fun q s' y => ?_⟩)
  · refine wpAny_bind (wpAny_rule ?_)
    refine wpAny_bind ?_
    show wpAny _ _ (updateSeq S (·.push .none) >>= fun _ => updateSeq S (·.pop)) _ _ _
    refine wpAny_bind (wpAny_updateSeq S2 rfl ?_)
    have S3 := Heap.get?_update_self (Obj.mapSeq (·.push Value.none)) S2 rfl
    refine wpAny_updateSeq (hz := by seq_fits) S3 rfl ?_
    have S4 := Heap.get?_update_self (Obj.mapSeq (·.pop)) S3 rfl
    refine wpAny_pure ⟨plainId_quiet PySem.F.plain_extend_loop _, codeAny_mono (key _ _ s.toks ?_ (fun b o hb e => ?_) S4) fun q s' y => ?_⟩
    · refine st.frame fun b hb o e => ?_
      have hbS : b ≠ S := by rcases hb with rfl | rfl | rfl; exact hSit.symm; exact haS; exact hStp.symm
      exact (Heap.get?_update_other _ _ (Ne.symm hbS)).trans ((Heap.get?_update_other _ _ (Ne.symm hbS)).trans e)
    · exact (Heap.get?_update_other _ _ (Ne.symm hb)).trans ((Heap.get?_update_other _ _ (Ne.symm hb)).trans (k2 _ _ (k1 _ _ e)))
    · obtain ⟨rfl, z⟩ := fin q s' y
      exact z
  · obtain ⟨rfl, z⟩ := fin q s' y
    exact z
end
end L2
namespace L2
open PySem PySem.Spec PyProof.Rows
section
variable {prog : Program} {w : World} {K : Type} [DecidableEq K] {knd : PySem.KeyKind prog w K} {A : Around} {E : Value → Shared → Prop} {s : Shared}
/-- sorted(a set): the list is made, then sorted -/
theorem sorted_setW {a : Addr} {ks : List K} {Q : Value → Shared → Prop} (hh : A.handled = none) (hS : SetW knd s.heap a ks) (hn : ks.length ≤ sizeLine)
    (h : ∀ (h' : Heap) (tk : Nat) (d : Drawn) (vs : List Value), (∀ b o, s.heap.get? b = some o → h'.get? b = some o) → s.heap.objs.size ≤ h'.objs.size → (∃ ks' : List K, ks.Perm ks' ∧ Paired (fun (k : K) (v : Value) => knd.is k v = true) ks' vs) →
      wpAny (model prog w) A.in1.in1 (Builtin.«list.sort» ⟨[.ref h'.objs.size], []⟩) (fun r s' => r = .done (.ret .none) ∧ Q (.ref h'.objs.size) s') E { s with heap := h'.push (seqObj "list" vs.toArray 0), toks := tk, drawn := d }) :
    wpAny (model prog w) A (call (.builtin "sorted") [.ref a]) Q E s := by
  refine Calls.call_function_entry kind_sorted plain_sorted entry_sorted (args_sorted1 _) ?_
  unfold Builtin.«sorted»
  refine wpAny_bind (m := checkCount "sorted" 1 1 _) (wpAny_pure ?_)
  refine wpAny_bind (collect_setW (knd := knd) (A := A.in1) (by simp [hh]) hS hn fun h' tk d vs k hle hv => ?_)
  have hvl : vs.length ≤ sizeLine := by
    obtain ⟨ks', p, q⟩ := hv
    rw [← paired_len q, ← p.length_eq]; exact hn
  refine wpAny_bind (wpAny_newList ?_ hvl)
  show wpAny _ _ _ _ _ { s with heap := h'.push (seqObj "list" vs.toArray 0), toks := tk, drawn := d }
  have hoL : (h'.push (seqObj "list" vs.toArray 0)).get? h'.objs.size = some (seqObj "list" vs.toArray 0) := Heap.get?_push_size _ rfl
  refine wpAny_bind (wpAny_holding (wpAny_call_entry slot_list_sort ⟨_, hoL, rfl⟩ entry_list_sort (wpAny_mono (h h' tk d vs k hle hv) (fun r s' z => ?_) fun _ _ z => z) (args_list_sort _)))
  obtain ⟨rfl, z⟩ := z
  exact ⟨_, rfl, wpAny_pure ⟨_, rfl, z⟩⟩
end
/-- a set of ints and texts -/
def SetO (P : Program) (w : World) (a : Addr) (ks : List Key) : HO := .ext fun h => SetW (mixKind P w) h a ks
section
variable {X : Cx}
theorem setO_ok {P : Program} {w : World} {H : Hp} {h : Heap} {a : Addr} {ks : List Key} (x : SetW (mixKind P w) h a ks) : ObjOk P w H h a (SetO P w a ks) := by
  refine ⟨x, ?_, fun h1 h2 y k => y.at' fun o e => k o e⟩
  obtain ⟨o, _, _, _, ho, _⟩ := x
  exact ⟨o, ho⟩
theorem kV_is2 {P : Program} {w : World} {k : Key} {v : Value} (r : RelV (kV k) v) : (mixKind P w).is k v = true ∧ v.scannable = true := by
  cases k with
  | inl i => obtain ⟨t, rfl⟩ := (show ∃ t, v = Value.int i t from r); exact ⟨keyIs_int i t, rfl⟩
  | inr x => obtain ⟨t, rfl⟩ := (show ∃ t, v = Value.str x t from r); exact ⟨keyIs_str x t, rfl⟩
/-- set(a list of ints and texts) -/
theorem call_set_of (hc : X.calm = true) : CallR X (.type "set") (fun xs H Q => ∃ (p : Addr) (kys : List Key), xs = [.ref p] ∧ SqL X.K H p (kys.map kV) ∧ kys.length ≤ 4000 ∧
    ∀ (l : Addr) (ks : List Key), H l = none → ks.Nodup → (∀ k, k ∈ ks ↔ k ∈ kys) → Q (.ref l) (upd H l (SetO X.prog X.w l ks))) := by
  intro pins s σ H xs us Q I r h
  obtain ⟨p, kys, rfl, hq, hl, q⟩ := h
  obtain ⟨u, rfl, rx⟩ := vals1 r
  cases rx
  obtain ⟨its, r', pl, hz⟩ := I.list hq
  have hlen := r'.length
  rw [List.length_map] at hlen
  have hh : X.A.handled = none := I.ok.hd hc
  refine call_set_keys (knd := mixKind X.prog X.w) (val := fun i => kys.getD i (.inl 0)) hh pl.isList (fun i v e => ?_) (by simp only [List.size_toArray]; unfold scanBound; omega) fun h' tk ks hS hD hk => ?_
  · have e' : its[i]? = some v := by simpa using e
    have hi : i < kys.length := by
      have := (List.getElem?_eq_some_iff.mp e').1
      omega
    obtain ⟨u, hu, ru⟩ := r'.get (i := i) (x := kV kys[i]) (by rw [List.getElem?_map, List.getElem?_eq_getElem hi]; rfl)
    rw [e'] at hu
    cases hu
    have e2 : kys.getD i (.inl 0) = kys[i] := by rw [List.getD_eq_getElem?_getD, List.getElem?_eq_getElem hi]; rfl
    rw [e2]
    exact kV_is2 ru
  · have hf : H s.heap.objs.size = none := I.hok.fresh (Nat.le_refl _)
    have hnd : ks.Nodup := by obtain ⟨_, _, _, _, _, _, _, _, _, z, _⟩ := hS; exact z
    refine ⟨.ref s.heap.objs.size, _, I.laid (t' := tk) (o := SetO X.prog X.w s.heap.objs.size ks) (fun b ob z => hk b ob (Heap.lt_size z) z) (Nat.le_refl _) (setO_ok hS), rfl, q _ ks hf hnd fun k => ?_⟩
    rw [hD.1]
    simp only [List.size_toArray]
    constructor
    · rintro ⟨j, hj, rfl⟩
      have hj' : j < kys.length := by omega
      rw [List.getD_eq_getElem?_getD, List.getElem?_eq_getElem hj']
      exact List.getElem_mem hj'
    · intro hm
      obtain ⟨j, hj, e⟩ := List.mem_iff_getElem.mp hm
      exact ⟨j, by omega, by rw [List.getD_eq_getElem?_getD, List.getElem?_eq_getElem hj, ← e]; rfl⟩
theorem Inv.laidD {pins : List (Addr × Obj)} {σ : St} {H : Hp} {s : Shared} {h' : Heap} {a : Addr} {o : HO} {tk : Nat} {d : Drawn} (I : Inv X pins σ H s) (k : ∀ b u, s.heap.get? b = some u → h'.get? b = some u) (hp : s.heap.objs.size ≤ a)
    (new : ObjOk X.prog X.w (upd H a o) h' a o) : Inv X pins σ (upd H a o) { s with heap := h', toks := tk, drawn := d } := by
  refine I.call' (s' := { s with heap := h', toks := tk, drawn := d }) (ch := []) rfl (Un.mono (Un.laid k hp (I.hok.fresh hp)) (fun _ z => z) (fun _ z => z)) (I.hok.laid k hp new) I.bare (fun b hb => nomatch hb)
theorem sorted_fin {pins : List (Addr × Obj)} {σ : St} {H : Hp} {s : Shared} {Q : VK} {h' : Heap} {tk : Nat} {d : Drawn} {vs : List Value} {out : Array Value} {ys : List V} (I : Inv X pins σ H s) (k : ∀ b u, s.heap.get? b = some u → h'.get? b = some u)
    (hle : s.heap.objs.size ≤ h'.objs.size) (hv : Vals ys out.toList) (hz : ys.length ≤ sizeLine) (q : ∀ l : Addr, H l = none → Q (.ref l) (upd H l (.lst ys))) :
    EP X pins σ Q (.ref h'.objs.size) { s with heap := sortedHeap (h'.push (seqObj "list" vs.toArray 0)) h'.objs.size vs out, toks := tk, drawn := d } := by
  obtain ⟨e, he⟩ := sortedHeap_at (h := h'.push (seqObj "list" vs.toArray 0)) (a := h'.objs.size) (vs := vs) (n := 0) (out := out) (Heap.get?_push_size _ rfl)
  refine ⟨.ref h'.objs.size, _, I.laidD (o := .lst ys) (fun b u z => ?_) hle ⟨hz, out.toList, e, hv, by simpa using he⟩, rfl, q _ (I.hok.fresh hle)⟩
  have z' := k b u z
  rw [sortedHeap_old (Nat.ne_of_lt (Heap.lt_size z')) (by rw [Heap.size_push]; exact Nat.lt_succ_of_lt (Heap.lt_size z'))]
  exact Heap.get?_push_of_some _ z'
theorem strs_of {ks : List Str} : ∀ {vs : List Value}, Paired (fun (k : Key) (v : Value) => (mixKind X.prog X.w).is k v = true) (ks.map Sum.inr) vs → StrsAre vs ks := by
  induction ks with
  | nil => intro vs h; cases h; exact .nil
  | cons a r ih =>
    intro vs h
    cases h with
    | cons q t =>
      rw [mixKind_is] at q
      rcases keyIs_shape q with ⟨i, t', e, _⟩ | ⟨x, t', e, e'⟩
      · cases e
      · cases e; subst e'; exact .cons _ _ (ih t)
theorem ints_of {ks : List Int} : ∀ {vs : List Value}, Paired (fun (k : Key) (v : Value) => (mixKind X.prog X.w).is k v = true) (ks.map Sum.inl) vs → IntsAre vs ks := by
  induction ks with
  | nil => intro vs h; cases h; exact .nil
  | cons a r ih =>
    intro vs h
    cases h with
    | cons q t =>
      rw [mixKind_is] at q
      rcases keyIs_shape q with ⟨i, t', e, e'⟩ | ⟨x, t', e, _⟩
      · cases e; subst e'; exact .cons _ _ (ih t)
      · cases e
theorem vals_strs : ∀ {vs : List Value} {ss : List Str}, StrsAre vs ss → Vals (ss.map V.str) vs
  | _, _, .nil => .nil
  | _, _, .cons _ t h => .cons ⟨t, rfl⟩ (vals_strs h)
theorem perm_map_inv {α β : Type} {f : α → β} : ∀ {l : List α} {l' : List β}, (l.map f).Perm l' → ∃ m : List α, l' = m.map f ∧ l.Perm m := by
  intro l l' p
  generalize e : l.map f = k at p
  induction p generalizing l with
  | nil => exact ⟨[], rfl, by cases l with | nil => exact .refl _ | cons _ _ => cases e⟩
  | cons x p ih =>
    cases l with
    | nil => cases e
    | cons a r =>
      obtain ⟨e1, e2⟩ := List.cons.inj e
      obtain ⟨m, h1, h2⟩ := ih e2
      exact ⟨a :: m, by rw [h1, ← e1]; rfl, h2.cons a⟩
  | swap x y q =>
    cases l with
    | nil => cases e
    | cons a r =>
      cases r with
      | nil => cases (List.cons.inj e).2
      | cons b r =>
        obtain ⟨e1, e2⟩ := List.cons.inj e
        obtain ⟨e3, e4⟩ := List.cons.inj e2
        exact ⟨b :: a :: r, by rw [← e1, ← e3, ← e4]; rfl, .swap _ _ _⟩
  | trans _ _ ih1 ih2 =>
    obtain ⟨m, h1, h2⟩ := ih1 e
    obtain ⟨m', h3, h4⟩ := ih2 h1.symm
    exact ⟨m', h3, h2.trans h4⟩
/-- sorted(a set of texts) -/
theorem call_sorted_setS (hc : X.calm = true) : CallR X (.builtin "sorted") (fun xs H Q => ∃ (p : Addr) (ks : List Str), xs = [.ref p] ∧ H p = some (SetO X.prog X.w p (ks.map Sum.inr)) ∧ ks.length < 64 ∧
    ∀ (l : Addr) (ks' : List Str), H l = none → ks'.Perm ks → sortedS ks' = true → Q (.ref l) (upd H l (.lst (ks'.map V.str)))) := by
  intro pins s σ H xs us Q I r h
  obtain ⟨p, ks, rfl, hp, hl, q⟩ := h
  obtain ⟨u, rfl, rx⟩ := vals1 r
  cases rx
  have hS : SetW (mixKind X.prog X.w) s.heap p (ks.map Sum.inr) := (I.hok p _ hp).1
  refine sorted_setW (knd := mixKind X.prog X.w) (I.ok.hd hc) hS (by rw [List.length_map]; exact Nat.le_of_lt (small1000 (by omega))) fun h' tk d vs k hle hv => ?_
  obtain ⟨ks', pk, hpv⟩ := hv
  obtain ⟨ks2, rfl, pk2⟩ := perm_map_inv pk
  have hst := strs_of (X := X) hpv
  have hvl : vs.length = ks.length := by rw [← paired_len hpv, List.length_map, pk2.length_eq]
  refine list_sort_treeK strKind_oneLt (n := 0) (Heap.get?_push_size _ rfl) hst.keysOf (fun v₁ v₂ rest e => keyKind_strs (by rw [← e]; exact hst)) (by omega) fun st' a1 a2 => ?_
  obtain ⟨ss', b1, b2, b3⟩ := sorted_out_str hst a1 a2
  refine ⟨rfl, sorted_fin (s := s) (tk := tk) (d := d) I k hle (vals_strs b1) ?_ fun l hl' => q l ss' hl' (b2.trans pk2.symm) b3⟩
  rw [List.length_map, b2.length_eq, ← pk2.length_eq]
  exact Nat.le_of_lt (small1000 (by omega))
/-- sorted(a set of ints) -/
theorem call_sorted_setI (hc : X.calm = true) : CallR X (.builtin "sorted") (fun xs H Q => ∃ (p : Addr) (ks : List Int), xs = [.ref p] ∧ H p = some (SetO X.prog X.w p (ks.map Sum.inl)) ∧ ks.length < 64 ∧
    ∀ (l : Addr) (ks' : List Int), H l = none → ks'.Perm ks → ks'.Pairwise (· ≤ ·) → Q (.ref l) (upd H l (.lst (ks'.map V.int)))) := by
  intro pins s σ H xs us Q I r h
  obtain ⟨p, ks, rfl, hp, hl, q⟩ := h
  obtain ⟨u, rfl, rx⟩ := vals1 r
  cases rx
  have hS : SetW (mixKind X.prog X.w) s.heap p (ks.map Sum.inl) := (I.hok p _ hp).1
  refine sorted_setW (knd := mixKind X.prog X.w) (I.ok.hd hc) hS (by rw [List.length_map]; exact Nat.le_of_lt (small1000 (by omega))) fun h' tk d vs k hle hv => ?_
  obtain ⟨ks', pk, hpv⟩ := hv
  obtain ⟨ks2, rfl, pk2⟩ := perm_map_inv pk
  have hst := ints_of (X := X) hpv
  have hvl : vs.length = ks.length := by rw [← paired_len hpv, List.length_map, pk2.length_eq]
  refine list_sort_tree (n := 0) (Heap.get?_push_size _ rfl) hst (by omega) fun out ns' b1 b2 b3 => ?_
  refine ⟨rfl, sorted_fin (s := s) (tk := tk) (d := d) I k hle (vals_ints b1) ?_ fun l hl' => q l ns' hl' (b2.trans pk2.symm) b3⟩
  rw [List.length_map, b2.length_eq, ← pk2.length_eq]
  exact Nat.le_of_lt (small1000 (by omega))
end
end L2
namespace L2
open PySem PySem.Spec PyProof.Rows
section
variable {X : Cx}
/-! ### comprehensions, by what they walk -/
theorem lcg_list {K : PySem.W.Frag} {a D : Addr} {xs : List V} {g : TG} {tt : TT} {te : TE} {Q : VK} {σ0 : St} {H1 : Hp} (Pv : Nat → St → Hp → Prop) (h0 : Pv 0 σ0 (upd H1 D (.lst []))) (hl : ∀ i σ H, i ≤ xs.length → Pv i σ H → SqL K H a xs)
    (hs : ∀ i x σ H, xs[i]? = some x → Pv i σ H → g x σ H fun σ3 H3 => tt σ3 H3 fun b H4 => if b = true then te σ3 H4 fun y H5 => ∃ zs, H5 D = some (.lst zs) ∧ zs.length < sizeLine ∧ Pv (i + 1) σ3 (upd H5 D (.lst (zs ++ [y]))) else Pv (i + 1) σ3 H4) (hd : ∀ σ H, Pv xs.length σ H → Q (.ref D) H) :
    ∃ W : Nat → Nat → St → Hp → Prop, (∃ m, W 0 m σ0 (upd H1 D (.lst []))) ∧ ∀ i m σ' H', W i m σ' H' →
      ((Itl K a).stop i H' ∧ Q (.ref D) H') ∨ ((Itl K a).go i H' ∧ ∃ N : St → Hp → Prop, (∀ σ2 H2, N σ2 H2 → ∃ m', m' < m ∧ W (i + 1) m' σ2 H2) ∧
        ∀ x H2, (Itl K a).yld i H' x H2 → g x σ' H2 fun σ3 H3 => tt σ3 H3 fun b H4 => if b = true then te σ3 H4 fun y H5 => ∃ zs, H5 D = some (.lst zs) ∧ zs.length < sizeLine ∧ N σ3 (upd H5 D (.lst (zs ++ [y]))) else N σ3 H4) := by
  refine ⟨fun i m σ H => m = xs.length - i ∧ i ≤ xs.length ∧ Pv i σ H, ⟨xs.length, rfl, Nat.zero_le _, h0⟩, ?_⟩
  rintro i m σ H ⟨rfl, hi, p⟩
  have q := hl i σ H hi p
  rcases Nat.lt_or_ge i xs.length with hlt | hge
  · refine .inr ⟨⟨xs, xs[i], q, List.getElem?_eq_getElem hlt⟩, Pv (i + 1), fun σ' H' p' => ⟨xs.length - (i + 1), by omega, rfl, hlt, p'⟩, fun x H' y => ?_⟩
    obtain ⟨e, y⟩ := y
    subst e
    exact hs i x σ _ (y xs q) p
  · have e : i = xs.length := Nat.le_antisymm hi hge
    subst e
    exact .inl ⟨⟨xs, q, Nat.le_refl _⟩, hd σ H p⟩
theorem lcg_tup {K : PySem.W.Frag} {a D : Addr} {xs : List V} {g : TG} {tt : TT} {te : TE} {Q : VK} {σ0 : St} {H1 : Hp} (Pv : Nat → St → Hp → Prop) (h0 : Pv 0 σ0 (upd H1 D (.lst []))) (hl : ∀ i σ H, i ≤ xs.length → Pv i σ H → SqT K H a xs)
    (hs : ∀ i x σ H, xs[i]? = some x → Pv i σ H → g x σ H fun σ3 H3 => tt σ3 H3 fun b H4 => if b = true then te σ3 H4 fun y H5 => ∃ zs, H5 D = some (.lst zs) ∧ zs.length < sizeLine ∧ Pv (i + 1) σ3 (upd H5 D (.lst (zs ++ [y]))) else Pv (i + 1) σ3 H4) (hd : ∀ σ H, Pv xs.length σ H → Q (.ref D) H) :
    ∃ W : Nat → Nat → St → Hp → Prop, (∃ m, W 0 m σ0 (upd H1 D (.lst []))) ∧ ∀ i m σ' H', W i m σ' H' →
      ((Itt K a).stop i H' ∧ Q (.ref D) H') ∨ ((Itt K a).go i H' ∧ ∃ N : St → Hp → Prop, (∀ σ2 H2, N σ2 H2 → ∃ m', m' < m ∧ W (i + 1) m' σ2 H2) ∧
        ∀ x H2, (Itt K a).yld i H' x H2 → g x σ' H2 fun σ3 H3 => tt σ3 H3 fun b H4 => if b = true then te σ3 H4 fun y H5 => ∃ zs, H5 D = some (.lst zs) ∧ zs.length < sizeLine ∧ N σ3 (upd H5 D (.lst (zs ++ [y]))) else N σ3 H4) := by
  refine ⟨fun i m σ H => m = xs.length - i ∧ i ≤ xs.length ∧ Pv i σ H, ⟨xs.length, rfl, Nat.zero_le _, h0⟩, ?_⟩
  rintro i m σ H ⟨rfl, hi, p⟩
  have q := hl i σ H hi p
  rcases Nat.lt_or_ge i xs.length with hlt | hge
  · refine .inr ⟨⟨xs, xs[i], q, List.getElem?_eq_getElem hlt⟩, Pv (i + 1), fun σ' H' p' => ⟨xs.length - (i + 1), by omega, rfl, hlt, p'⟩, fun x H' y => ?_⟩
    obtain ⟨e, y⟩ := y
    subst e
    exact hs i x σ _ (y xs q) p
  · have e : i = xs.length := Nat.le_antisymm hi hge
    subst e
    exact .inl ⟨⟨xs, q, Nat.le_refl _⟩, hd σ H p⟩
theorem lcg_range {lo : Int} {n : Nat} {D : Addr} {g : TG} {tt : TT} {te : TE} {Q : VK} {σ0 : St} {H1 : Hp} (Pv : Nat → St → Hp → Prop) (h0 : Pv 0 σ0 (upd H1 D (.lst [])))
    (hs : ∀ i σ H, i < n → Pv i σ H → g (.int (lo + i)) σ H fun σ3 H3 => tt σ3 H3 fun b H4 => if b = true then te σ3 H4 fun y H5 => ∃ zs, H5 D = some (.lst zs) ∧ zs.length < sizeLine ∧ Pv (i + 1) σ3 (upd H5 D (.lst (zs ++ [y]))) else Pv (i + 1) σ3 H4) (hd : ∀ σ H, Pv n σ H → Q (.ref D) H) :
    ∃ W : Nat → Nat → St → Hp → Prop, (∃ m, W 0 m σ0 (upd H1 D (.lst []))) ∧ ∀ i m σ' H', W i m σ' H' →
      ((Itr lo n).stop i H' ∧ Q (.ref D) H') ∨ ((Itr lo n).go i H' ∧ ∃ N : St → Hp → Prop, (∀ σ2 H2, N σ2 H2 → ∃ m', m' < m ∧ W (i + 1) m' σ2 H2) ∧
        ∀ x H2, (Itr lo n).yld i H' x H2 → g x σ' H2 fun σ3 H3 => tt σ3 H3 fun b H4 => if b = true then te σ3 H4 fun y H5 => ∃ zs, H5 D = some (.lst zs) ∧ zs.length < sizeLine ∧ N σ3 (upd H5 D (.lst (zs ++ [y]))) else N σ3 H4) := by
  refine ⟨fun i m σ H => m = n - i ∧ i ≤ n ∧ Pv i σ H, ⟨n, rfl, Nat.zero_le _, h0⟩, ?_⟩
  rintro i m σ H ⟨rfl, hi, p⟩
  rcases Nat.lt_or_ge i n with hlt | hge
  · refine .inr ⟨hlt, Pv (i + 1), fun σ' H' p' => ⟨n - (i + 1), by omega, rfl, hlt, p'⟩, fun x H' y => ?_⟩
    obtain ⟨rfl, rfl⟩ := y
    exact hs i σ _ hlt p
  · have e : i = n := Nat.le_antisymm hi hge
    subst e
    exact .inl ⟨Nat.le_refl _, hd σ H p⟩
/-! ### a method of an object of one of several classes -/
def tMethF (dom : Addr → Prop) (m : Str) (sp : Addr → Sp) (E : XK) (ta : TE) (t : TA) : TE := fun σ H Q => ta σ H fun x H1 => ∃ a C dx fs, x = .ref a ∧ H1 a = some (.ins C dx fs) ∧ dom C ∧ fs.lookup m = none ∧ t σ H1 fun vs H2 => sp C (x :: vs) H2 Q E
def Fam (P : Program) (w : World) (K : PySem.W.Frag) (mg : Str → Option Value) (base : Heap) (CX : CXT) (k : Nat) (dom : Addr → Prop) (m : Str) (ps : List Str) (sp : Addr → Sp) : Prop :=
  ∀ C, dom C → ∃ f fd, Cls K C ∧ Meth K C m f ∧ FnOk P w K mg base CX k f fd ps (sp C) ∧ Binds K fd ps []
theorem pe_methF {pl : Sem Bool} {CX : CXT} {k : Nat} {ps : List Str} {dom : Addr → Prop} {sp : Addr → Sp} {E : XK} {m : Str} {pos apos : Pos} {e o : Expr} {es : List Expr} {ta : TE} {t : TA} (he : PE X o ta) (F : Fam X.prog X.w X.K X.mg X.base CX k dom m ps sp) (hr : Room k X.A) (hx : Passes CX X E) (ha : PA X (e :: es) t)
    (hst : starEach (e :: es) X.env = (false, eval e X.env) :: starEach es X.env := by rfl) (hpl : (backTo pos (starEach es X.env)).any (·.1) = false := by rfl)
    (ht : eval (.Call (.Attribute o m apos) (e :: es) [] pos) X.env = (do
      let ov ← eval o X.env
      standAt apos.atName
      let (f, first) ← holding [ov] (getMethod ov m pl)
      callWith pos f first (backTo pos (starEach (e :: es) X.env)) (backToKw pos (keywordEach [] X.env))) := by rfl) :
    PE X (.Call (.Attribute o m apos) (e :: es) [] pos) (tMethF dom m sp E ta t) := by
  intro pins s σ H Q I h
  refine PySem.W.methodCall_KW (pl := pl) (thn (he pins s σ H _ I h) fun u s1 ⟨x, H1, I1, rx, a, C, dx, fs, ex, ea, hd, l, q⟩ => ?_) ht
  subst ex
  obtain rfl : u = Value.ref a := rx
  obtain ⟨f, fd, c, hm, G, hb⟩ := F C hd
  refine getmeth_ok I1 ea c hm l ?_
  refine PySem.W.callWith_K (first := [.ref a]) (h₀ := X.base) I.ok.mod.kin hm.kp (thn (ha pos pins s1 σ H1 _ I1 q) fun us s2 ⟨vs, H2, I2, r, q2⟩ => ⟨I2.kIn, ?_⟩) hst hpl
  exact run_fn (us := .ref a :: us) (vs := .ref a :: vs) G hr hb .nil hx I2 (.cons rfl r) (by rw [List.append_nil]; exact q2)
theorem pe_methF0 {pl : Sem Bool} {CX : CXT} {k : Nat} {ps : List Str} {dom : Addr → Prop} {sp : Addr → Sp} {E : XK} {m : Str} {pos apos : Pos} {o : Expr} {ta : TE} (he : PE X o ta) (F : Fam X.prog X.w X.K X.mg X.base CX k dom m ps sp) (hr : Room k X.A) (hx : Passes CX X E)
    (ht : eval (.Call (.Attribute o m apos) [] [] pos) X.env = (do
      let ov ← eval o X.env
      standAt apos.atName
      let (f, first) ← holding [ov] (getMethod ov m pl)
      callWith pos f first (backTo pos (starEach [] X.env)) (backToKw pos (keywordEach [] X.env))) := by rfl) :
    PE X (.Call (.Attribute o m apos) [] [] pos) (tMethF dom m sp E ta tNil) := by
  intro pins s σ H Q I h
  refine PySem.W.methodCall_KW (pl := pl) (thn (he pins s σ H _ I h) fun u s1 ⟨x, H1, I1, rx, a, C, dx, fs, ex, ea, hd, l, q⟩ => ?_) ht
  subst ex
  obtain rfl : u = Value.ref a := rx
  obtain ⟨f, fd, c, hm, G, hb⟩ := F C hd
  refine getmeth_ok I1 ea c hm l ?_
  exact PySem.W.callWith_K0 (first := [.ref a]) I1.kIn hm.kp (run_fn (us := [.ref a]) (vs := [.ref a]) G hr hb .nil hx I1 (.cons rfl .nil) q)
/-! ### C.m(..), C a class of the text: no object goes ahead -/
structure ClsFn (K : PySem.W.Frag) (C : Addr) (mc : Value) (m : Str) (f : Addr) : Prop where
  ga : PySem.W.specialIn K (.ref C) "__getattribute__" = some (some (.builtin "type.__getattribute__"))
  rd : PySem.W.readsIn K C mc = true
  at_ : PySem.W.findCls K (.ref C) mc m = some (.val (.ref f))
  kp : PySem.W.keepIn K (.ref f) = true
theorem pe_clsFn {pl : Sem Bool} {CX : CXT} {k : Nat} {f C : Addr} {fd : FuncData} {mc : Value} {ps : List Str} {sp : Sp} {E : XK} {x m : Str} {p pos apos : Pos} {e : Expr} {es : List Expr} {t : TA} (c : ClsFn X.K C mc m f) (G : FnOk X.prog X.w X.K X.mg X.base CX k f fd ps sp) (hr : Room k X.A) (hg : Gl X x) (hm : X.mg x = some (.ref C))
    (hb : Binds X.K fd ps []) (hx : Passes CX X E) (ha : PA X (e :: es) t) (hdb : (x == ("__debug__" : Str)) = false := by decide)
    (hst : starEach (e :: es) X.env = (false, eval e X.env) :: starEach es X.env := by rfl) (hpl : (backTo pos (starEach es X.env)).any (·.1) = false := by rfl)
    (ht : eval (.Call (.Attribute (.Name x p) m apos) (e :: es) [] pos) X.env = (do
      let ov ← eval (.Name x p) X.env
      standAt apos.atName
      let (f, first) ← holding [ov] (getMethod ov m pl)
      callWith pos f first (backTo pos (starEach (e :: es) X.env)) (backToKw pos (keywordEach [] X.env))) := by rfl) :
    PE X (.Call (.Attribute (.Name x p) m apos) (e :: es) [] pos) (tCall sp [] E t) := by
  intro pins s σ H Q I h
  refine PySem.W.methodCall_KW (pl := pl) (ld_glob I hg hm ?_ hdb) ht
  refine PySem.W.method_cls I.kIn c.ga (PySem.W.cls_value I.kIn c.rd c.at_ rfl ?_)
  have I1 := I.tok (s.toks + 1)
  refine PySem.W.callWith_K (first := []) (h₀ := X.base) I.ok.mod.kin c.kp (thn (ha pos pins _ σ H _ I1 h) fun us s2 ⟨vs, H2, I2, r, q2⟩ => ⟨I2.kIn, ?_⟩) hst hpl
  exact run_fn (us := us) (vs := vs) G hr hb .nil hx I2 r q2
/-! ### isinstance -/
theorem call_isi : CallR X (.builtin "isinstance") (fun xs H Q => ∃ (x cv : V) (c t : Value) (b : Bool), xs = [x, cv] ∧ (∀ u, RelV cv u → u = c) ∧ TyOf X.K H x t ∧ PySem.W.kitOne X.K t c = some b ∧ Q (.bl b) H) := by
  intro pins s σ H xs us Q I r h
  obtain ⟨x, cv, c, t, b, rfl, hc, ty, e, q⟩ := h
  obtain ⟨u, w', rfl, r1, r2⟩ := vals2 r
  have := hc _ r2
  subst this
  exact isinst_ok I r1 ty e fun tk => ⟨.bl b, H, I.tok tk, rfl, q⟩
theorem kit_ss (K : PySem.W.Frag) (n : String) : PySem.W.kitOne K (.type n) (.type n) = some true := by
  unfold PySem.W.kitOne
  rw [if_pos (by simp)]
/-! ### xs.extend(a tuple) -/
section
open AutoSeq1 (wpAny_loadPart')
open MeetsSeq MeetsSeq2 MeetsSeq3 AutoSeq1
theorem list_extend_tup (l : Addr) (items : Array Value) (n : Nat) (b : Addr) (items2 : Array Value) (n2 : Nat) (d2 : Option Addr) (s2 : Array (Option Value)) (hs0 : ¬(!items.isEmpty && Builtin.List.listTooLong (items.size + items2.size)) = true) (hs1 : items.size ≤ sizeLine) (hs2 : items.size + items2.size ≤ sizeLine + 1) :
    Meets (Builtin.«list.extend» ⟨[.ref l, .ref b], []⟩) (fun _ R s => s.heap.get? l = some { cls := .type "list", dict := none, data := .seq items n, slots := #[] } ∧ s.heap.get? b = some { cls := .type "tuple", dict := d2, data := .seq items2 n2, slots := s2 } ∧ R (.ok (.ret Value.none)) { s with heap := s.heap.update l (Obj.mapSeq fun x => x ++ items2), toks := s.toks }) :=
  .of_wp fun prog w A R s h => by
    obtain ⟨hp, g, d, tk, os⟩ := s; obtain ⟨hl, hb, h⟩ := h; have f1 := idx_int; have f2 := AutoSeq1.sub_tuple_tuple; have f3 := AutoSeq1.sub_list_list; have f4 := AutoSeq1.sub_tuple_list; have f5 := AutoSeq1.sub_list_tuple;
    have hz' : (items ++ items2).size ≤ sizeLine + 1 := by rw [Array.size_append]; exact hs2
    wp_walk using (wpAny_updateSeq hl rfl (hz := hs1) (_hz' := hz')), wpAny_loadPart' hl, wpAny_loadPart' hb; exact ⟨_, rfl, h⟩
end
theorem mt_extendT : MtM X "list.extend" (fun x vs H Q => ∃ l b xs zs, x = .ref l ∧ vs = [.ref b] ∧ H l = some (.lst xs) ∧ SqT X.K H b zs ∧ xs.length + zs.length ≤ sizeLine ∧ Q .non (upd H l (.lst (xs ++ zs)))) := by
  intro pins s σ H x vs v us Q I rx rv h
  obtain ⟨l, b, xs, zs, rfl, rfl, hH, hB, hz, q⟩ := h
  cases rx
  obtain ⟨u, rfl, ru⟩ := rv.one
  cases ru
  obtain ⟨z, its, n, r, hl, e⟩ := I.lstM hH
  obtain ⟨its2, r2, p2, z2⟩ := I.tuple hB
  have hl2 := r2.length
  obtain ⟨⟨c2, d2, t2, o2⟩, e2, f2, n2, m2⟩ := id p2
  simp only at f2 m2
  subst f2 m2
  have hsz : its.toArray.size + its2.toArray.size ≤ sizeLine := by rw [List.size_toArray, List.size_toArray]; omega
  have hlong : ¬ (!its.toArray.isEmpty && Builtin.List.listTooLong (its.toArray.size + its2.toArray.size)) = true := by
    rw [notLongL hsz, Bool.and_false]
    exact Bool.false_ne_true
  refine call_meets PySem.F.slot_list_extend ⟨_, e, rfl⟩ PySem.F.entry_list_extend (PySem.F.args_list_extend_2 _ _)
    (list_extend_tup l its.toArray n b its2.toArray n2 d2 o2 hlong (by rw [List.size_toArray]; omega) (by omega)) ⟨e, e2, ?_⟩
  refine ⟨.non, _, I.lset (its' := its ++ its2) hH e (by simp) (r.append r2) ?_, rfl, q⟩
  rw [List.length_append]
  omega
/-! ### dicts -/
/-! ### sum of ints -/
end
end L2
namespace L2
open PySem PySem.Spec PyProof.Rows
section
variable {prog : Program} {w : World} {A : Around} {R : Result → Shared → Prop} {I : Addr} {fp wr : List Addr} {n : Nat} {P : Nat → Value → Prop} {St : Nat → Heap → Prop} {kw : List (Str × Value)}
end
section
variable {X : Cx}
/-! ### the same, the written part told -/
def rIsi (K : PySem.W.Frag) : List V → Hp → VK → Prop := fun xs H Q => ∃ (x cv : V) (c t : Value) (b : Bool), xs = [x, cv] ∧ (∀ u, RelV cv u → u = c) ∧ TyOf K H x t ∧ PySem.W.kitOne K t c = some b ∧ Q (.bl b) H
theorem call_isiK {K : PySem.W.Frag} (hK : X.K = K) : CallR X (.builtin "isinstance") (rIsi K) := by
  subst hK; exact call_isi
theorem ix_listK {K : PySem.W.Frag} (hK : X.K = K) : IxR X (rIxL K) := by
  subst hK; exact ix_list
theorem ix_tupK {K : PySem.W.Frag} (hK : X.K = K) : IxR X (rIxT K) := by
  subst hK; exact ix_tup
end
end L2
set_option maxHeartbeats 4000000
namespace L2
open PySem PySem.Spec PyProof.Rows
/-! ### what changes no object's own names -/
/-- objects that were there have the same table of own names, if they are still there -/
def DK (h h' : Heap) : Prop := h.objs.size ≤ h'.objs.size ∧ ∀ b o', b < h.objs.size → h'.get? b = some o' → ∃ o, h.get? b = some o ∧ o'.dict = o.dict
theorem DK.refl (h : Heap) : DK h h := ⟨Nat.le_refl _, fun b o' _ e => ⟨o', e, rfl⟩⟩
theorem DK.trans {h1 h2 h3 : Heap} (a : DK h1 h2) (b : DK h2 h3) : DK h1 h3 := ⟨Nat.le_trans a.1 b.1, fun x o' hx e => by
  obtain ⟨o2, e2, d2⟩ := b.2 x o' (Nat.lt_of_lt_of_le hx a.1) e
  obtain ⟨o1, e1, d1⟩ := a.2 x o2 hx e2
  exact ⟨o1, e1, d2.trans d1⟩⟩
theorem DK.push (h : Heap) (o : Obj) : DK h (h.push o) := ⟨by rw [Heap.size_push]; exact Nat.le_succ _, fun b o' hb e => by
  rcases Heap.get?_push_cases e with ⟨rfl, _⟩ | e
  · exact absurd hb (Nat.lt_irrefl _)
  · exact ⟨o', e, rfl⟩⟩
theorem DK.update (h : Heap) (a : Addr) (f : Obj → Obj) (hf : ∀ o : Obj, (f o).dict = o.dict) (hs : (h.get? a).isSome) : DK h (h.update a f) := ⟨by rw [Heap.size_update]; exact Nat.le_refl _, fun b o' hb e => by
  by_cases hab : a = b
  · subst hab
    obtain ⟨o, ho⟩ := Option.isSome_iff_exists.mp hs
    refine ⟨o, ho, ?_⟩
    obtain ⟨e1, e2⟩ := Heap.get?_some_iff.mp e
    obtain ⟨e3, _⟩ := Heap.get?_some_iff.mp ho
    have e4 : (h.update a f).objs[a]? = some (f o) := by
      cases h
      simp only [Heap.update, Array.getElem?_modify, if_true]
      simp only at e3
      rw [e3]; rfl
    rw [e4] at e1
    cases e1
    exact hf o
  · rw [Heap.get?_update_other h f hab] at e
    exact ⟨o', e, rfl⟩⟩
def KD {α : Type} : Sem α → Prop
  | .pure _ => True
  | .raise _ => True
  | .unsupported _ => True
  | .finish _ => True
  | .rule _ k => KD (k ())
  | .at _ k => KD (k ())
  | .load _ _ k => ∀ o, KD (k o)
  | .update _ _ f k => (∀ o : Obj, (f o).dict = o.dict) ∧ KD (k ())
  | .loadIfAlive _ k => ∀ o, KD (k o)
  | .point _ k => KD (k ())
  | .register _ _ => True
  | .alloc _ k => ∀ a, KD (k a)
  | .fresh k => ∀ t, KD (k t)
  | .ask k => ∀ t, KD (k t)
  | .choose _ _ k => ∀ n, KD (k n)
  | .os _ _ k => ∀ r, KD (k r)
  | .call .. => False
  | .handled _ k => ∀ v, KD (k v)
  | .genState _ k => ∀ v, KD (k v)
  | .newGen _ k => ∀ v, KD (k v)
  | .resume .. => False
  | .yield .. => True
  | .stack k => ∀ v, KD (k v)
  | .fork .. => True
  | .thread k => ∀ v, KD (k v)
  | .await .. => True
theorem KD.bind {α β : Type} {m : Sem α} {f : α → Sem β} (hm : KD m) (hf : ∀ a, KD (f a)) : KD (m >>= f) := by
  show KD (m.bind f)
  induction m with
  | pure a => exact hf a
  | update a p g k ih => exact ⟨hm.1, ih () hm.2⟩
  | call c h g l k ih => exact hm.elim
  | resume g r l k ih => exact hm.elim
  | raise e => trivial
  | unsupported e => trivial
  | finish e => trivial
  | register a k ih => trivial
  | yield v g l k ih => trivial
  | fork c k ih => trivial
  | await a g d l k ih => trivial
  | rule t k ih => exact ih () hm
  | «at» t k ih => exact ih () hm
  | point t k ih => exact ih () hm
  | load a p k ih => exact fun o => ih o (hm o)
  | loadIfAlive a k ih => exact fun o => ih o (hm o)
  | alloc a k ih => exact fun o => ih o (hm o)
  | fresh k ih => exact fun o => ih o (hm o)
  | ask k ih => exact fun o => ih o (hm o)
  | choose s n k ih => exact fun o => ih o (hm o)
  | os q l k ih => exact fun o => ih o (hm o)
  | handled q k ih => exact fun o => ih o (hm o)
  | genState q k ih => exact fun o => ih o (hm o)
  | newGen q k ih => exact fun o => ih o (hm o)
  | stack k ih => exact fun o => ih o (hm o)
  | thread k ih => exact fun o => ih o (hm o)
theorem kd_wp {α : Type} (M : Model) (Γ : PySem.Ctx) : ∀ (t : Sem α), KD t → ∀ (Q : α → Pos → Shared → Prop) (E : Value → Pos → Shared → Prop) (p : Pos) (s : Shared), Sem.wp M Γ t Q E p s →
    Sem.wp M Γ t (fun a p' s' => Q a p' s' ∧ DK s.heap s'.heap) (fun e p' s' => E e p' s' ∧ DK s.heap s'.heap) p s := by
  intro t
  have up : ∀ {t : Sem α} {Q : α → Pos → Shared → Prop} {E : Value → Pos → Shared → Prop} {p : Pos} {s s1 : Shared}, DK s.heap s1.heap → Sem.wp M Γ t (fun a p' s' => Q a p' s' ∧ DK s1.heap s'.heap) (fun e p' s' => E e p' s' ∧ DK s1.heap s'.heap) p s1 →
      Sem.wp M Γ t (fun a p' s' => Q a p' s' ∧ DK s.heap s'.heap) (fun e p' s' => E e p' s' ∧ DK s.heap s'.heap) p s1 := fun {t Q E p s s1} d h =>
    Sem.wp_mono M Γ t (fun _ _ _ z => ⟨z.1, d.trans z.2⟩) (fun _ _ _ z => ⟨z.1, d.trans z.2⟩) p s1 h
  induction t with
  | pure a => intro _ Q E p s h; rw [Sem.wp] at h ⊢; exact ⟨h, DK.refl _⟩
  | raise a => intro _ Q E p s h; rw [Sem.wp] at h ⊢; exact ⟨h, DK.refl _⟩
  | unsupported e => intro _ Q E p s h; rw [Sem.wp] at h; exact h.elim
  | finish e => intro _ Q E p s h; rw [Sem.wp] at h; exact h.elim
  | register a k ih => intro _ Q E p s h; rw [Sem.wp] at h; exact h.elim
  | yield v g l k ih => intro _ Q E p s h; rw [Sem.wp] at h; exact h.elim
  | fork c k ih => intro _ Q E p s h; rw [Sem.wp] at h; exact h.elim
  | await a g d l k ih => intro _ Q E p s h; rw [Sem.wp] at h; exact h.elim
  | call c h g l k ih => intro hk; exact hk.elim
  | resume g r l k ih => intro hk; exact hk.elim
  | rule t k ih => intro hk Q E p s h; rw [Sem.wp] at h ⊢; exact ih () hk Q E p s h
  | «at» t k ih => intro hk Q E p s h; rw [Sem.wp] at h ⊢; exact ih () hk Q E t s h
  | point t k ih => intro hk Q E p s h; rw [Sem.wp] at h ⊢; exact ih () hk Q E p s h
  | load a q k ih => intro hk Q E p s h; rw [Sem.wp] at h ⊢; obtain ⟨o, e, h⟩ := h; exact ⟨o, e, ih o (hk o) Q E p s h⟩
  | update a q f k ih => intro hk Q E p s h; rw [Sem.wp] at h ⊢; obtain ⟨e, h⟩ := h; exact ⟨e, up (DK.update s.heap a f hk.1 e) (ih () hk.2 Q E p _ h)⟩
  | loadIfAlive a k ih => intro hk Q E p s h; rw [Sem.wp] at h ⊢; exact ih _ (hk _) Q E p s h
  | alloc o k ih => intro hk Q E p s h; rw [Sem.wp] at h ⊢; exact up (DK.push s.heap o) (ih _ (hk _) Q E p _ h)
  | fresh k ih => intro hk Q E p s h; rw [Sem.wp] at h ⊢; exact ih _ (hk _) Q E p _ h
  | ask k ih => intro hk Q E p s h; rw [Sem.wp] at h ⊢; exact ih _ (hk _) Q E p s h
  | choose src n k ih => intro hk Q E p s h; rw [Sem.wp] at h ⊢; exact ⟨h.1, ih _ (hk _) Q E p _ h.2⟩
  | os q l k ih => intro hk Q E p s h; rw [Sem.wp] at h ⊢; exact ih _ (hk _) Q E p _ h
  | handled q k ih => intro hk Q E p s h; rw [Sem.wp] at h ⊢; exact ih _ (hk _) Q E p s h
  | genState g k ih => intro hk Q E p s h; rw [Sem.wp] at h ⊢; obtain ⟨st, e, h⟩ := h; exact ⟨st, e, ih _ (hk _) Q E p s h⟩
  | newGen c k ih => intro hk Q E p s h; rw [Sem.wp] at h ⊢; exact ih _ (hk _) Q E p _ h
  | stack k ih => intro hk Q E p s h; rw [Sem.wp] at h ⊢; exact ih _ (hk _) Q E p s h
  | thread k ih => intro hk Q E p s h; rw [Sem.wp] at h ⊢; exact ih _ (hk _) Q E p s h
theorem kd_wpAny {α : Type} {M : Model} {A : Around} {t : Sem α} {Q : α → Shared → Prop} {E : Value → Shared → Prop} {s : Shared} (hk : KD t) (h : wpAny M A t Q E s) : wpAny M A t (fun a s' => Q a s' ∧ DK s.heap s'.heap) (fun e s' => E e s' ∧ DK s.heap s'.heap) s :=
  fun Γ p hΓ => kd_wp M Γ t hk _ _ p s (h Γ p hΓ)
/-! the stations of an exception -/
theorem KD.pure {α : Type} (a : α) : KD (pure a : Sem α) := trivial
theorem kd_mapF (f : Array Value → Array Value) (o : Obj) : (Obj.mapFields f o).dict = o.dict := by
  obtain ⟨c, d, da, sl⟩ := o
  unfold Obj.mapFields
  cases da <;> rfl
theorem KD.uns {α : Type} (w : String) : KD (unsupported w : Sem α) := trivial
theorem KD.load (a : Addr) : KD (PySem.load a) := fun _ => trivial
theorem kd_fieldsOf (v : Value) : KD (fieldsOf v) := by
  unfold fieldsOf
  cases v with
  | ref a =>
    refine KD.bind (KD.load a) fun o => ?_
    split
    · exact KD.pure _
    · exact KD.uns _
  | _ => exact KD.uns _
theorem kd_field (v : Value) (i : Nat) : KD (field v i) := by
  unfold field
  refine KD.bind (kd_fieldsOf v) fun vs => ?_
  split
  · exact KD.pure _
  · exact KD.uns _
theorem kd_setField (v : Value) (i : Nat) (x : Value) : KD (setField v i x) := by
  unfold setField
  cases v with
  | ref a =>
    show KD (updateField a i x)
    unfold updateField
    refine KD.bind (KD.load a) fun o => ?_
    split
    · split
      · exact ⟨kd_mapF _, trivial⟩
      · exact KD.uns _
    · exact KD.uns _
  | _ => exact KD.uns _
theorem kd_setFlight (e : Value) (f : Option Addr) : KD (setFlight e f) := by
  unfold setFlight
  refine KD.bind (kd_field e 1) fun tb => ?_
  split
  · exact kd_setField _ _ _
  · exact KD.pure _
theorem kd_stack : KD PySem.stack := fun _ => trivial
theorem kd_behind (env : Env) (outer : List Env) : KD (behindIsImport env outer) := by
  unfold behindIsImport
  split
  · exact KD.pure _
  · split
    · exact KD.pure _
    · exact KD.bind (kd_field _ _) fun _ => KD.pure _
theorem kd_keptBack (env : Env) (b : Bool) (l : List Env) : KD (keptBack env b l) := by
  unfold keptBack
  split
  · split
    · exact KD.pure _
    · refine KD.bind ?_ fun _ => ?_
      · unfold underTheClaimsCaller
        exact KD.bind kd_stack fun _ => KD.pure _
      · exact KD.pure _
  · exact KD.pure _
theorem kd_ready : ∀ l : List Env, KD (readyFrames l)
  | [] => KD.pure _
  | env :: outer => by
    unfold readyFrames
    split
    · refine KD.bind (KD.load _) fun o => ?_
      split
      · exact KD.pure _
      · refine KD.bind (kd_behind _ _) fun _ => KD.bind (kd_keptBack _ _ _) fun _ => KD.bind ?_ fun _ => kd_ready outer
        exact ⟨fun _ => rfl, trivial⟩
    · exact KD.uns _
theorem kd_frameOf (env : Env) : KD (PySem.frameOf env) := by
  unfold PySem.frameOf
  refine KD.bind ?_ fun l => KD.bind ?_ fun f => ?_
  · unfold frameEnvs
    exact KD.bind kd_stack fun _ => KD.pure _
  · unfold frameObject
    split
    · exact KD.pure _
    · exact KD.bind (kd_ready _) fun _ => KD.pure _
  · split
    · exact KD.pure _
    · exact KD.uns _
theorem kd_place (f : Addr) (b : Bool) : KD (entryPlaceOf f b) := by
  unfold entryPlaceOf
  refine KD.bind kd_stack fun _ => ?_
  split
  · exact KD.pure _
  · exact KD.pure _
theorem kd_newFields (ty : String) (vs : List Value) : KD (newFields ty vs) := by
  unfold newFields newObj
  dsimp only
  split
  · exact KD.uns _
  · unfold newObjAsIs
    exact KD.bind (m := alloc _) (fun _ => trivial) fun _ => KD.pure _
theorem kd_note (e : Value) (env : Env) : KD (noteFrame e env) := by
  unfold noteFrame
  split
  · refine KD.bind (kd_field _ _) fun head => ?_
    have rest : ∀ f : Addr, KD (do setField e 1 (← EntryCells.newEntry head (← PySem.frameOf env) .none (rawInt f) .none (← entryPlaceOf f (head != .none)))) := fun f =>
      KD.bind (kd_frameOf env) fun _ => KD.bind (kd_place _ _) fun _ => KD.bind (kd_newFields _ _) fun _ => kd_setField _ _ _
    split
    · refine KD.bind (kd_field _ _) fun x => ?_
      split
      · exact KD.pure _
      · exact KD.bind (kd_setField _ _ _) fun _ => rest _
    · exact rest _
  · exact KD.uns _
theorem kd_leaving (env : Env) (e : Value) : KD (leaving env e) := KD.bind (kd_note e env) fun _ => kd_setFlight e none
end L2
set_option maxHeartbeats 4000000
namespace L2
open PySem PySem.Spec PyProof.Rows
/-! ### exceptions of the text's own classes: raised, passed on -/
section
variable {P : Program} {w : World}
theorem ObjOk.have {H : Hp} {h : Heap} {a : Addr} {o : HO} (x : ObjOk P w H h a o) : ∃ ob, h.get? a = some ob := by
  cases o with
  | lst xs => obtain ⟨_, _, _, _, e⟩ := x; exact ⟨_, e⟩
  | tup xs => obtain ⟨_, _, _, ob, e, _⟩ := x; exact ⟨ob, e⟩
  | dK kvs => obtain ⟨_, _, _, _, ob, _, _, e, _⟩ := x; exact ⟨ob, e⟩
  | dT kvs => obtain ⟨_, _, _, _, ob, _, _, e, _⟩ := x; exact ⟨ob, e⟩
  | set S n => obtain ⟨ob, _, _, _, e, _⟩ := x; exact ⟨ob, e⟩
  | ins C dx fs => obtain ⟨_, _, _, e, _⟩ := x; exact ⟨_, e⟩
  | own y => exact x
  | xd fs => obtain ⟨_, ⟨ob, _, _, e, _⟩, _⟩ := x; exact ⟨ob, e⟩
  | rng lo hi => obtain ⟨_, _, _, e⟩ := x; exact ⟨_, e⟩
  | frz ob u => obtain ⟨e, _⟩ := x; exact ⟨ob, e⟩
  | tbl ps => exact ⟨_, (show h.get? a = some _ from x)⟩
  | met f y => exact ⟨_, (show h.get? a = some _ from x)⟩
  | ext φ => obtain ⟨_, e, _⟩ := x; exact e
/-- all that counts lies in B, which nothing touches while an exception flies -/
def FlyB (B : Heap) (l : List Env) (H' : Hp) (h h1 : Heap) : Prop := ∀ b o, h1.get? b = some o → (H' b ≠ none ∨ ((∃ o₀, h.get? b = some o₀) ∧ b ∉ frs l)) → B.get? b = some o
theorem settle {B : Heap} {l : List Env} {H H' : Hp} {h h1 h2 : Heap} (un : Un (frs l) [] H H' h h1) (ok : HOk P w H' h1) (fb : FlyB B l H' h h1) (fr : h1.FunFrames B l) (st : B.StaysIn h2) (us : h1.UpToSlots h2) :
    Un (frs l) [] H H' h h2 ∧ HOk P w H' h2 ∧ FlyB B l H' h h2 := by
  have nx : ∀ b : Addr, b ∉ ([] : List Addr) := fun b z => by cases z
  have on : ∀ b o, h1.get? b = some o → (H' b ≠ none ∨ ((∃ o₀, h.get? b = some o₀) ∧ b ∉ frs l)) → h2.get? b = some o := fun b o e c => st b o (fb b o e c)
  have slots : ∀ b o, b ∈ frs l → h1.get? b = some o → ∃ sl, h2.get? b = some { o with slots := sl } := fun b o hb e => by
    obtain ⟨_, o', e', d⟩ := fr.mem hb
    rw [e] at e'; cases e'
    exact us b o e d
  have was : ∀ b, (H' b ≠ none ∨ ((∃ o₀, h.get? b = some o₀) ∧ b ∉ frs l)) → ∃ o, h1.get? b = some o := fun b c => by
    rcases c with c | ⟨⟨o₀, c⟩, _⟩
    · cases e : H' b with
      | none => exact absurd e c
      | some u => exact (ok b u e).have
    · exact un.there b o₀ c (nx b)
  refine ⟨⟨fun b o q n hb _ => on b o (un.keep b o q n hb (nx b)) (.inr ⟨⟨o, q⟩, hb⟩), fun b o q n hb _ => ?_, fun b o q n hx => un.free b o q n hx, fun b o q _ => ?_, un.tups, un.frzs, un.tbls⟩, fun b u e => ?_, fun b o e c => ?_⟩
  · obtain ⟨sl, e1⟩ := un.slot b o q n hb (nx b)
    obtain ⟨sl', e2⟩ := slots b _ hb e1
    exact ⟨sl', e2⟩
  · obtain ⟨o', e1⟩ := un.there b o q (nx b)
    by_cases hb : b ∈ frs l
    · obtain ⟨sl, e2⟩ := slots b _ hb e1
      exact ⟨_, e2⟩
    · exact ⟨o', on b o' e1 (.inr ⟨⟨o, q⟩, hb⟩)⟩
  · refine (ok b u e).stay (fun c v hc z => on c v z (.inl ?_)) (fun _ z => z) fun _ _ z => z
    rcases hc with rfl | hc
    · rw [e]; simp
    · rw [hc]; simp
  · obtain ⟨o1, e1⟩ := was b c
    have e2 := on b o1 e1 c
    rw [e] at e2
    cases e2
    exact fb b o e1 c
/-- how an exception lies behind a call -/
def CXe (P : Program) (w : World) : CXT := fun outer H s E ev s' => ∃ (e C : Addr) (a0 : Value) (H' : Hp) (B : Heap) (dp : Option Addr), ev = .ref e ∧ s'.os = s.os ∧ AllBare s'.gens ∧ Un (frs outer) [] H H' s.heap s'.heap ∧ HOk P w H' s'.heap ∧
  Heap.FlyingW B outer e (.ref C) a0 s'.heap ∧ FlyB B outer H' s.heap s'.heap ∧ (∀ o, s'.heap.get? e = some o → o.dict = dp) ∧ E (.ref C) dp H'
end
section
variable {P : Program} {w : World} {K : PySem.W.Frag} {mg : Str → Option Value} {base : Heap} {N : List Str} {qual : Str} {scope : Scope} {f : Addr} {cd : Value} {A : Around} {outer : List Env} {s0 : Shared} {H0 : Hp} {E : XK}
theorem flyB_out {CX : CXT} {pins : List (Addr × Obj)} {σ : St} {H H' : Hp} {s : Shared} {B h2 : Heap} (I : Inv (cxOf CX P w K mg base N qual scope f cd A outer s0 H0 E) pins σ H s) (fb : FlyB B (cxOf CX P w K mg base N qual scope f cd A outer s0 H0 E).stack H' s.heap h2) : FlyB B outer H' s0.heap h2 := fun b o e c => by
  refine fb b o e ?_
  rcases c with c | ⟨⟨o₀, c⟩, nb⟩
  · exact .inl c
  · obtain ⟨o', e'⟩ := I.base.there b o₀ c (fun z => by cases z)
    refine .inr ⟨⟨o', e'⟩, fun z => ?_⟩
    have z' : b ∈ s0.heap.objs.size :: frs outer := z
    rcases List.mem_cons.mp z' with z' | z'
    · exact absurd (z' ▸ Heap.lt_size c) (Nat.lt_irrefl _)
    · exact nb z'
/-- an exception that nobody here catches -/
theorem passesE : Passes (CXe P w) (cxOf (CXe P w) P w K mg base N qual scope f cd A outer s0 H0 E) E := by
  rintro pins σ H s ev s' I ⟨e, C, a0, H', B, dp, rfl, os, bare, un, ok, fly, fb, hd, q⟩
  refine wpAny_mono (kd_wpAny (kd_leaving _ _) (wpAny_leaves_onW (Q := fun _ s2 => ∃ h2, s2 = { s' with heap := h2 } ∧ Heap.FlyingW B outer e (.ref C) a0 h2 ∧ s'.heap.UpToSlots h2) (E := fun _ _ => False) I.ok.frames rfl fly fun h2 fly2 us => ⟨h2, rfl, fly2, us⟩)) (fun _ s2 z => ?_) (fun _ _ z => z.1.elim)
  obtain ⟨⟨h2, rfl, fly2, us⟩, dk⟩ := z
  obtain ⟨oe, he, _⟩ := fly.there
  have hd2 : ∀ o, h2.get? e = some o → o.dict = dp := fun o ho => by
    obtain ⟨o1, e1, d1⟩ := dk.2 e o (Heap.lt_size he) ho
    rw [d1]
    exact hd o1 e1
  obtain ⟨un2, ok2, fb2⟩ := settle un ok fb fly.2.2.1 fly2.1 us
  have I2 := I.call (h' := h2) (g' := s'.gens) (d' := s'.drawn) (t' := s'.toks) (ch := []) un2 ok2 bare (fun b z => by cases z)
  exact ⟨e, C, a0, H', B, dp, rfl, os.trans I.os, bare, I2.base, ok2, fly2, flyB_out I fb2, hd2, q⟩
end
/-! ### caught -/
/-- an exception of the class at C, whose own names lie at dp -/
def ExcO (e C : Addr) (dp : Option Addr) : HO := .ext fun h => ∃ o vs, h.get? e = some o ∧ o.cls = .ref C ∧ o.dict = dp ∧ o.data = .fields vs
/-- the body of a try; the suite of its except -/
def cxT (X : Cx) (xe : Value → Shared → Prop) : Cx := { X with xe := xe }
def cxH (X : Cx) (e : Addr) : Cx := { X with A := X.A.mark (some (.ref e)), calm := false, xe := fun _ _ => False }
section
variable {X : Cx} {pins : List (Addr × Obj)} {σ : St} {H : Hp} {s : Shared}
theorem Inv.toT (I : Inv X pins σ H s) (xe : Value → Shared → Prop) : Inv (cxT X xe) pins σ H s := by
  obtain ⟨⟨a1, a2, a3, a4, a5, a6, a7, a8, a9, a10, a11, a12, a13, a14, a15, a16, a17, a18⟩, i2, i3, i4, i5, i6, i7, i8, i9, i10, i11⟩ := I
  exact ⟨⟨a1, a2, a3, a4, a5, a6, a7, a8, a9, a10, a11, a12, a13, a14, a15, a16, a17, a18⟩, i2, i3, i4, i5, i6, i7, i8, i9, i10, i11⟩
theorem Inv.ofT {xe : Value → Shared → Prop} (I : Inv (cxT X xe) pins σ H s) : Inv X pins σ H s := by
  obtain ⟨⟨a1, a2, a3, a4, a5, a6, a7, a8, a9, a10, a11, a12, a13, a14, a15, a16, a17, a18⟩, i2, i3, i4, i5, i6, i7, i8, i9, i10, i11⟩ := I
  exact ⟨⟨a1, a2, a3, a4, a5, a6, a7, a8, a9, a10, a11, a12, a13, a14, a15, a16, a17, a18⟩, i2, i3, i4, i5, i6, i7, i8, i9, i10, i11⟩
theorem Inv.toH (I : Inv X pins σ H s) (e : Addr) : Inv (cxH X e) pins σ H s := by
  obtain ⟨⟨a1, a2, a3, a4, a5, a6, a7, a8, a9, a10, a11, a12, a13, a14, a15, a16, a17, a18⟩, i2, i3, i4, i5, i6, i7, i8, i9, i10, i11⟩ := I
  exact ⟨⟨a1, a2, a3, a4, a5, a6, a7, a8, fun z => (by cases z), a10, a11, a12, a13, a14, a15, a16, a17, a18⟩, i2, i3, i4, i5, i6, i7, i8, i9, i10, i11⟩
theorem Inv.ofH {e : Addr} (hd : X.calm = true → X.A.handled = none) (I : Inv (cxH X e) pins σ H s) : Inv X pins σ H s := by
  obtain ⟨⟨a1, a2, a3, a4, a5, a6, a7, a8, a9, a10, a11, a12, a13, a14, a15, a16, a17, a18⟩, i2, i3, i4, i5, i6, i7, i8, i9, i10, i11⟩ := I
  exact ⟨⟨a1, a2, a3, a4, a5, a6, a7, a8, hd, a10, a11, a12, a13, a14, a15, a16, a17, a18⟩, i2, i3, i4, i5, i6, i7, i8, i9, i10, i11⟩
end
end L2
set_option maxHeartbeats 4000000
namespace L2
open PySem PySem.Spec PyProof.Rows
section
variable {X : Cx} {pins : List (Addr × Obj)} {σ : St} {H : Hp} {s : Shared}
/-- an object that nobody spoke of is tracked from here on -/
theorem Inv.track {e : Addr} {o : HO} (I : Inv X pins σ H s) (h0 : X.s₀.heap.get? e = none) (hl : e ≠ X.env.locals) (hc : ∀ x c, X.env.cells.lookup x = some c → c ≠ e) (hp : ∀ p ∈ X.pn ++ pins, p.1 ≠ e) (hn : H e = none) (new : ObjOk X.prog X.w H s.heap e o) : Inv X pins σ (upd H e o) s := by
  have ne : ∀ b u, H b = some u → b ≠ e := fun b u q z => by rw [z, hn] at q; cases q
  have st : ∀ b v, ObjOk X.prog X.w H s.heap b v → ObjOk X.prog X.w (upd H e o) s.heap b v := fun b v q => q.stay (fun _ _ _ z => z) (fun c z => by rw [upd_ne (ne c _ z)]; exact z) fun c xs z => by rw [upd_ne (ne c _ z)]; exact z
  obtain ⟨i1, i2, i3, i4, i5, i6, i7, i8, i9, i10, i11⟩ := I
  refine ⟨i1, i2, i3, ⟨i4.keep, i4.slot, fun b u q n hx => ?_, i4.there, fun b xs q => ?_, fun b u v q => ?_, fun b ps q => ?_⟩, i5, i6, ?_, fun x c q => ?_, fun p hpp => ?_, fun b v q => ?_, i11⟩
  · rw [upd_ne (fun z => by rw [z, h0] at q; cases q)]; exact i4.free b u q n hx
  · have z := i4.tups b xs q
    rw [upd_ne (ne _ _ z)]; exact z
  · have z := i4.frzs b u v q
    rw [upd_ne (ne _ _ z)]; exact z
  · obtain ⟨m, z⟩ := i4.tbls b ps q
    exact ⟨m, by rw [upd_ne (ne _ _ z)]; exact z⟩
  · rw [upd_ne (Ne.symm hl)]; exact i7
  · rw [upd_ne (hc x c q)]; exact i8 x c q
  · obtain ⟨a1, a2, a3⟩ := i9 p hpp
    exact ⟨a1, by rw [upd_ne (hp p hpp)]; exact a2, a3⟩
  · by_cases hb : b = e
    · subst hb
      rw [upd_same] at q
      cases q
      exact st b _ new
    · rw [upd_ne hb] at q
      exact st b v (i10 b v q)
/-- a name is gone -/
theorem Inv.drop {i : Nat} {n : Str} {h' : Heap} {t' : Nat} (I : Inv X pins σ H s) (hN : X.N.Nodup) (hi : X.N[i]? = some n) {m : Str → Option Value} {v : Option Value} (hv : ∀ (i : Nat) (x : Str) (v : V), X.N[i]? = some x → σ[i]? = some (some v) → Vis X.env.scope x → ∃ u, RelV v u ∧ Look X.env s.heap m x u) (hm' : h'.Ns X.env.locals (fun x => if x = n then v else m x)) (sb : Heap.SameBut X.env.locals s.heap h') :
    Inv X pins (σ.set i none) H { s with heap := h', toks := t' } := by
  have neL : ∀ b o, X.s₀.heap.get? b = some o → b ≠ X.env.locals := fun b o e => Nat.ne_of_lt (Nat.lt_of_lt_of_le (Heap.lt_size e) I.ok.above)
  have at_ : ∀ b o, b ≠ X.env.locals → s.heap.get? b = some o → h'.get? b = some o := fun b o nb e => (sb.2 b nb).trans e
  have cne := I.cne
  obtain ⟨i1, i2, i3, i4, i5, i6, i7, i8, i9, i10, i11⟩ := I
  refine ⟨i1, i2, i3, ⟨fun b o e n hb hx => at_ b o (neL b o e) (i4.keep b o e n hb hx), fun b o e n hb hx => ?_, i4.free, fun b o e hx => ?_, i4.tups, i4.frzs, i4.tbls⟩, ?_, fun x c e => ?_, i7, i8, fun p hpp => ?_, fun b v q => ?_, by rw [List.length_set]; exact i11⟩
  · obtain ⟨sl, z⟩ := i4.slot b o e n hb hx
    exact ⟨sl, at_ b _ (neL b o e) z⟩
  · obtain ⟨o', z⟩ := i4.there b o e hx
    exact ⟨o', at_ b _ (neL b o e) z⟩
  · refine ⟨_, hm', fun j x v' e1 e2 e3 => ?_⟩
    have hji : j ≠ i := fun z => by
      subst z
      rw [List.getElem?_set] at e2
      simp only [if_true] at e2
      split at e2 <;> cases e2
    rw [List.getElem?_set_ne (Ne.symm hji)] at e2
    obtain ⟨u, r, l⟩ := hv j x v' e1 e2 e3
    refine ⟨u, r, ?_⟩
    have hxn : x ≠ n := fun z => by
      subst z
      obtain ⟨l1, z1⟩ := List.getElem?_eq_some_iff.mp e1
      obtain ⟨l2, z2⟩ := List.getElem?_eq_some_iff.mp hi
      exact hji ((List.getElem_inj hN).mp (z1.trans z2.symm))
    rcases l with ⟨k, l⟩ | ⟨k, c, e, z⟩
    · exact .inl ⟨k, by show (if x = n then v else m x) = some u; rw [if_neg hxn]; exact l⟩
    · obtain ⟨o, ho, hd⟩ := z
      exact .inr ⟨k, c, e, o, at_ c o (cne x c e) ho, hd⟩
  · obtain ⟨v, o, ho, hd⟩ := i6 x c e
    exact ⟨v, o, at_ c o (cne x c e) ho, hd⟩
  · obtain ⟨a1, a2, a3, a4⟩ := i9 p hpp
    exact ⟨at_ p.1 p.2 a3 a1, a2, a3, a4⟩
  · refine (i10 b v q).stay (fun c u hc z => at_ c u ?_ z) (fun _ z => z) fun _ _ z => z
    intro y
    subst y
    rcases hc with hc | hc
    · rw [← hc, i7] at q; cases q
    · rw [i7] at hc; cases hc
/-! ### a call that may raise, at one state of the locals -/
def PEa (X : Cx) (pins : List (Addr × Obj)) (σ : St) (e : Expr) (t : TE) : Prop := ∀ (s : Shared) (H : Hp) (Q : VK), Inv X pins σ H s → t σ H Q → wpAny (model X.prog X.w) X.A (eval e X.env) (EP X pins σ Q) X.xe s
def PassA (CX : CXT) (X : Cx) (pins : List (Addr × Obj)) (σ : St) (E : XK) : Prop := ∀ (H : Hp) (s : Shared) (e : Value) (s' : Shared), Inv X pins σ H s → CX X.stack H s E e s' → X.xe e s'
variable {CX : CXT} {k : Nat} {f C : Addr} {fd : FuncData} {ps : List Str} {sp : Sp} {dvs : List V} {ds : List Value} {E : XK} {x m : Str} {p pos apos : Pos} {e o : Expr} {es : List Expr} {ta : TE} {t : TA}
end
end L2
set_option maxHeartbeats 4000000
namespace L2
open PySem PySem.Spec PyProof.Rows
section
variable {X : Cx} {pins : List (Addr × Obj)} {σ : St} {H : Hp} {s : Shared}
/-- behind the suite of an except .. as n -/
theorem gone {M : Model} {A : Around} {E : Value → Shared → Prop} {i : Nat} {n : Str} {pos : Pos} {Q : Unit → Shared → Prop} (I : Inv X pins σ H s) (hN : X.N.Nodup) (hi : X.N[i]? = some n) (hloc : X.env.scope.names.lookup n = some .local)
    (h : ∀ s', Inv X pins (σ.set i none) H s' → Q () s') : wpAny M A (do bindName X.env n .none; unbindBehindTheSuite X.env n pos) Q E s := by
  refine wpAny_bind (wpAny_bindName (store_ok (v := .non) I hN hi (Or.inl hloc) rfl (fun s1 I1 => ?_) (.inr hloc)))
  have hiσ : i < σ.length := by rw [I.len]; exact (List.getElem?_eq_some_iff.mp hi).1
  obtain ⟨m, hm, hv⟩ := id I1.loc
  obtain ⟨u, r, l⟩ := hv i n .non hi (by rw [List.getElem?_set_self hiσ]) (.inl hloc)
  have hk : X.env.kindOf n = some .local := hloc
  have hmn : m n = some u := by
    rcases l with ⟨_, l⟩ | ⟨z, _⟩
    · exact l
    · rw [hk] at z; rcases z with z | z <;> cases z
  have hp : (X.env.scope.kind == .class || (X.env.scope.kind == .module && X.env.locals != X.env.globals)) = false := by rw [I.ok.kind]; rfl
  unfold unbindBehindTheSuite
  refine wpAny_onRaise ?_
  unfold unbindName
  refine wpAny_bind (wpAny_point (wpAny_bind ?_))
  unfold deleteName
  simp only [hk, hp]
  rw [if_neg (by decide)]
  refine wpAny_bind (wpAny_nsDel_keeps hm fun h2 v hn2 hs2 => ?_)
  rw [hmn]
  simp only [if_true, Option.isSome_some, Bool.not_true, Bool.false_eq_true, if_false]
  refine wpAny_pure (wpAny_point (h _ ?_))
  have D := I1.drop (h' := h2) (t' := s1.toks) hN hi hv hn2 hs2
  rw [List.set_set] at D
  exact D
end
/-- a class of exceptions of the text -/
structure OwnB (x : Str) (C : Addr) (bmB : List Value) (newId : String) (mg : Str → Option Value) (h : Heap) : Prop where
  bound : mg x = some (.ref C)
  obj : ∃ bm N nm q bs hdct sn sub ab col dd k0 k1 k2 k3 k5, h.get? C = some (excClassObj nm q C N bs bm hdct sn sub ab col dd k0 k1 k2 k3 k5 newId) ∧ OwnTail h bmB bm
theorem OwnB.keeps {x : Str} {C : Addr} {bmB : List Value} {newId : String} {mg : Str → Option Value} {h h' : Heap} (O : OwnB x C bmB newId mg h) (hk : ∀ b o, h.get? b = some o → h'.get? b = some o) : OwnB x C bmB newId mg h' := by
  obtain ⟨b, bm, N, nm, q, bs, hdct, sn, sub, ab, col, dd, k0, k1, k2, k3, k5, hC, T⟩ := O
  exact ⟨b, bm, N, nm, q, bs, hdct, sn, sub, ab, col, dd, k0, k1, k2, k3, k5, hk _ _ hC, T.keeps hk⟩
end L2
set_option maxHeartbeats 4000000
namespace L2
open PySem PySem.Spec PyProof.Rows PySem.Calls
/-! ### isinstance of a caught exception -/
/-- an object of the class at D, whatever its own names are -/
def TypeAt (x D : Addr) (h : Heap) : Prop := ∃ o : Obj, h.get? x = some o ∧ o.cls = .ref D
theorem TypeAt.type {M : Model} {h : Heap} {x D : Addr} (I : TypeAt x D h) : PySem.W.Looks M h (typeOf (.ref x)) (.ref D) := by
  obtain ⟨o, h1, h2⟩ := I
  exact h2 ▸ (PySem.W.Looks.ld h1).andThen .now
/-- what __class__ asks of a class -/
structure ClsE (K : PySem.W.Frag) (D : Addr) : Prop where
  ga : PySem.W.findIn K (.ref D) "__getattribute__" = some (some (.builtin "BaseException.__getattribute__"))
  gt : PySem.W.findIn K (.ref D) "__getattr__" = some none
  bx : PySem.W.mroIn K D (.type "BaseException") = some true
  cls : (PySem.W.clsIn K D).isSome = true
  ha : PySem.W.findIn K (.ref D) "__class__" = some (some (.builtin "object.__class__"))
  hn : PySem.W.specialIn K (.builtin "object.__class__") "__get__" = some (some (.builtin "getset_descriptor.__get__"))
  htk : PySem.W.takesIn K (.builtin "object.__class__") = some true
  hm : PySem.W.mroIn K D (.type "object") = some true
section
open Builtin Builtin.ObjectAttr Builtin.Getset_descriptor PySem.W
variable {prog : Program} {w : World} {A : Around} {E : Value → Shared → Prop} {s : Shared} {K : PySem.W.Frag} {x D : Addr}
theorem exc_find {M : Model} {h : Heap} (C : ClsE K D) (X : K.In h) : Looks M h (find (.ref x) (.ref D) "__class__") (.bind (.builtin "getset_descriptor.__get__") (.builtin "object.__class__")) := by
  have L1 := looks_findIn (M := M) X C.ha
  have L2 : Looks M h (getOf (some (.builtin "object.__class__"))) (some (.builtin "getset_descriptor.__get__")) := looks_specialIn X C.hn
  have L3 := looks_takesIn (M := M) X C.htk
  refine L1.andThen (L2.andThen ?_)
  exact (show Looks M h (dataDescriptor? (some (.builtin "object.__class__")) (some (.builtin "getset_descriptor.__get__"))) (some (.builtin "getset_descriptor.__get__", .builtin "object.__class__")) from L3.andThen .now).andThen (Looks.tag .now)
theorem exc_get {tp : Value} {R : Result → Shared → Prop} (C : ClsE K D) (X : K.In s.heap) (I : TypeAt x D s.heap)
    (h : R (.ok (.ret (.ref D))) s) : codeAny (model prog w) A (.call (.builtin "getset_descriptor.__get__") ⟨[.builtin "object.__class__", .ref x, tp], []⟩) R s := by
  obtain ⟨hh, g, dr, t, os⟩ := s
  have L0 := I.type (M := model prog w)
  have L1 := looks_mroIn (M := model prog w) X C.hm
  refine codeAny_call_builtin KF.slot_gs.plain KF.entry_gs (KF.slot_gs.check _ _ _ _ _ _ _ _ KF.type_class (KF.args_gs _ _ _) ?_)
  unfold Builtin.«getset_descriptor.__get__» descrGet
  rw [dga_obj]
  refine wpAny_bind (wpAny_pure ?_)
  unfold descrGetter descrCheckInstance descrNameAndClass isInstance
  simp only [KF.owner_class]
  repeat lk
  refine ⟨Code.quiet_builtin _ (by decide +kernel), codeAny_builtin KF.entry_class ?_⟩
  unfold Builtin.«object.__class__» shownTypeOf
  repeat lk
  exact h
theorem exc_entry {tk : Tok} {P : Value → Shared → Prop} (C : ClsE K D) (X : K.In s.heap) (I : TypeAt x D s.heap)
    (h : wpAny (model prog w) A (call (.builtin "getset_descriptor.__get__") [.builtin "object.__class__", .ref x, .ref D]) P E s) :
    wpAny (model prog w) A (Builtin.«object.__getattribute__» ⟨[.ref x, .str "__class__" tk], []⟩) (fun fin s' => ∃ v, fin = .done (.ret v) ∧ P v s') E s := by
  obtain ⟨hh, gg, d, t, os⟩ := s
  have L0 := I.type (M := model prog w)
  have L1 := exc_find (M := model prog w) (x := x) C X
  refine wpAny_bind (wpAny_pure ?_)
  refine wpAny_bind (m := attrName _) (wpAny_pure ?_)
  refine wpAny_bind (L0.at (wpAny_bind (L1.at ?_)))
  show wpAny _ _ (holding [.builtin "object.__class__"] (call (.builtin "getset_descriptor.__get__") [.builtin "object.__class__", .ref x, .ref D]) >>= ret) _ _ _
  exact wpAny_bind (wpAny_holding (wpAny_mono h (fun v s' z => wpAny_pure ⟨v, rfl, z⟩) fun _ _ z => z))
theorem exc_check {nameV : Value} {Q : Unit → Shared → Prop} (C : ClsE K D) (X : K.In s.heap) (I : TypeAt x D s.heap) (hq : Q () s) : wpAny (model prog w) A (checkBuiltinCall "BaseException.__getattribute__" ⟨[.ref x, nameV], []⟩) Q E s := by
  have hk : builtinKind "BaseException.__getattribute__" = some .slot := by decide +kernel
  have hsplit : splitId "BaseException.__getattribute__" = some ("BaseException", "__getattribute__") := by decide +kernel
  have ha := F.args_bexc_ga (.ref x) nameV
  obtain ⟨hh, gg, d, t, os⟩ := s
  have L0 := I.type (M := model prog w)
  have L1 := looks_mroIn (M := model prog w) X C.bx
  have LI : Looks (model prog w) hh (isInstance (.ref x) (.type "BaseException")) true := L0.andThen L1
  simp only [checkBuiltinCall, hk, hsplit]
  refine wpAny_bind (LI.at ?_)
  simp only [Bool.not_true, Bool.false_eq_true, if_false]
  cases hsig : Manifest.signature? "BaseException.__getattribute__" with
  | none => exact wpAny_pure hq
  | some sig =>
    simp only [argsOk, hsig] at ha
    have h2 : Bind.checkArgs "BaseException.__getattribute__" sig ⟨[.ref x, nameV], []⟩ = pure () := ha
    show wpAny _ _ (Bind.checkArgs "BaseException.__getattribute__" sig ⟨[.ref x, nameV], []⟩) Q E _
    rw [h2]; exact wpAny_pure hq
theorem exc_open {Q : Option Value → Shared → Prop} (C : ClsE K D) (X : K.In s.heap) (I : TypeAt x D s.heap)
    (h : wpAny (model prog w) A.in1 (call (.builtin "getset_descriptor.__get__") [.builtin "object.__class__", .ref x, .ref D]) (fun v s' => wpAny (model prog w) A (handedOut v) (fun v s'' => Q (some v) s'') (fun _ _ => False) s') (fun _ _ => False) { s with toks := s.toks + 1 }) :
    wpAny (model prog w) A (getAttr? (.ref x) "__class__") Q E s := by
  obtain ⟨hh, g, d, t, os⟩ := s
  have L0 := I.type (M := model prog w)
  have L1 := looks_findIn (M := model prog w) X C.ga
  have L2 := looks_findIn (M := model prog w) X C.gt
  have f3 := F.excAttr_ValueError.ga.bind (.ref x)
  have hx2 : (Value.builtin "BaseException.__getattribute__" == Value.builtin "object.__getattribute__") = false := by decide +kernel
  unfold getAttr? getAttrBy? getAttrBy
  refine wpAny_bind (wpAny_mkText (wpAny_bind (wpAny_attempt (wpAny_holding (wpAny_bind (L0.at (wpAny_bind (L1.at ?_))))))))
  dsimp only
  rw [if_neg (by rw [hx2, Bool.and_false]; decide)]
  unfold getAttrByItsOwn hookBefore
  refine wpAny_bind ?_
  rw [if_pos (show onTheHeap (Value.ref D) = true from rfl)]
  refine L2.at ?_
  refine wpAny_bind (wpAny_attempt (wpAny_holding ?_))
  unfold callGetattribute
  rw [if_neg (by simp)]
  unfold boundAndCalled
  rw [f3]
  refine wpAny_bind (wpAny_pure ?_)
  dsimp only
  refine wpAny_call (codeAny_call_builtin F.excAttr_ValueError.ga.plain F.entry_bexc_ga (exc_check (s := ⟨hh, g, d, t + 1, os⟩) C X I (wpAny_mono (exc_entry (s := ⟨hh, g, d, t + 1, os⟩) C X I h) (fun fin s' z => ?_) fun _ _ z => z.elim)))
  obtain ⟨v, rfl, z⟩ := z
  exact wpAny_mono z (fun v s'' hv => wpAny_pure hv) (fun _ _ z => z.elim)
theorem exc_class {Q : Option Value → Shared → Prop} (C : ClsE K D) (X : K.In s.heap) (I : TypeAt x D s.heap) (h : Q (some (.ref D)) { s with toks := s.toks + 1 }) : wpAny (model prog w) A (getAttr? (.ref x) "__class__") Q E s :=
  exc_open C X I (wpAny_call (exc_get (s := { s with toks := s.toks + 1 }) C X I (handed_on rfl h)))
theorem kitx_exc (C : ClsE K D) : KitX K (.ref x) (.ref D) (TypeAt x D) where
  ty := fun _ _ _ I => I.type
  it := fun _ _ X _ => by
    obtain ⟨cdD, hcD⟩ := Option.isSome_iff_exists.mp C.cls
    unfold clsIn at hcD
    split at hcD
    · rename_i c' d' cd' sl' ho
      intro A' Q' E' s' k q
      unfold isType loadHead
      exact wpAny_bind (wpAny_loadPart (k _ _ (X _ _ ho)) (wpAny_pure q))
    · cases hcD
  ne := fun h tp dd its n sl X htp => by
    obtain ⟨cdD, hcD⟩ := Option.isSome_iff_exists.mp C.cls
    refine Bool.eq_false_iff.mpr fun q => ?_
    have e : D = tp := Value.ref.inj (beq_iff_eq.mp q)
    subst e
    unfold clsIn at hcD
    split at hcD
    · rename_i c' d' cd' sl' ho
      have z := (X _ _ ho).symm.trans htp
      cases z
    · cases hcD
  ca := fun X I k => exc_class C X I k
end
section
variable {X : Cx}
/-- isinstance(e, a class) -/
def rIsE (K : PySem.W.Frag) : List V → Hp → (V → Hp → Prop) → Prop := fun xs H Q => ∃ (a D : Addr) (dp : Option Addr) (cv : V) (c : Value) (b : Bool), xs = [.ref a, cv] ∧ (∀ u, RelV cv u → u = c) ∧ H a = some (ExcO a D dp) ∧ ClsE K D ∧ PySem.W.kitOne K (.ref D) c = some b ∧ Q (.bl b) H
theorem ExcO.at_ {pins : List (Addr × Obj)} {σ : St} {H : Hp} {s : Shared} {a D : Addr} {dp : Option Addr} (I : Inv X pins σ H s) (e : H a = some (ExcO a D dp)) : TypeAt a D s.heap := by
  obtain ⟨⟨o, vs, h1, h2, _⟩, _⟩ := (show ObjOk X.prog X.w H s.heap a (.ext fun h => ∃ o vs, h.get? a = some o ∧ o.cls = .ref D ∧ o.dict = dp ∧ o.data = .fields vs) from I.hok a _ e)
  exact ⟨o, h1, h2⟩
theorem call_isE {K : PySem.W.Frag} (hK : X.K = K) : CallR X (.builtin "isinstance") (rIsE K) := by
  subst hK
  intro pins s σ H xs us Q I r h
  obtain ⟨a, D, dp, cv, c, b, rfl, hc, ea, C, e, q⟩ := h
  obtain ⟨u, w', rfl, r1, r2⟩ := vals2 r
  have := hc _ r2
  subst this
  obtain rfl : u = Value.ref a := r1
  exact PySem.W.kia_one (kitx_exc C) I.kIn (ExcO.at_ I ea) e (fun z => nomatch z) fun tk => ⟨.bl b, H, I.tok tk, rfl, q⟩
end
end L2
set_option maxHeartbeats 4000000
namespace L2
open PySem PySem.Spec PyProof.Rows PySem.Calls
section
open Builtin Builtin.ObjectAttr Builtin.Getset_descriptor PySem.W
variable {prog : Program} {w : World} {A : Around} {E : Value → Shared → Prop} {s : Shared} {K : PySem.W.Frag} {x D : Addr}
/-! ### e.f of a caught exception -/
theorem exc_entryV {name : Str} {tk : Tok} {v : Value} {Q : Fin → Shared → Prop} (I : TypeAt x D s.heap) (hf : Looks (model prog w) s.heap (find (.ref x) (.ref D) name) (.value v)) (h : Q (.done (.ret v)) s) :
    wpAny (model prog w) A (Builtin.«object.__getattribute__» ⟨[.ref x, .str name tk], []⟩) Q E s := by
  obtain ⟨hh, gg, d, t, os⟩ := s
  have L0 := I.type (M := model prog w)
  refine wpAny_bind (wpAny_pure ?_)
  refine wpAny_bind (m := attrName _) (wpAny_pure ?_)
  refine wpAny_bind (L0.at (wpAny_bind (hf.at ?_)))
  exact wpAny_pure h
theorem exc_attr {name : Str} {v : Value} {expr : Bool} {Q : Value → Shared → Prop} (C : ClsE K D) (X : K.In s.heap) (I : TypeAt x D s.heap) (hf : Looks (model prog w) s.heap (find (.ref x) (.ref D) name) (.value v)) (hv : handedIn v = true) (h : Q v { s with toks := s.toks + 1 }) :
    wpAny (model prog w) A (getAttr (.ref x) name expr) Q E s := by
  obtain ⟨hh, g, d, t, os⟩ := s
  have L0 := I.type (M := model prog w)
  have L1 := looks_findIn (M := model prog w) X C.ga
  have L2 := looks_findIn (M := model prog w) X C.gt
  have f3 := F.excAttr_ValueError.ga.bind (.ref x)
  have hx2 : (Value.builtin "BaseException.__getattribute__" == Value.builtin "object.__getattribute__") = false := by decide +kernel
  unfold getAttr getAttrBy
  refine wpAny_bind (wpAny_mkText (wpAny_holding (wpAny_bind (L0.at (wpAny_bind (L1.at ?_))))))
  dsimp only
  rw [if_neg (by rw [hx2, Bool.and_false]; decide)]
  unfold getAttrByItsOwn hookBefore
  refine wpAny_bind ?_
  rw [if_pos (show onTheHeap (Value.ref D) = true from rfl)]
  refine L2.at ?_
  refine wpAny_bind (wpAny_attempt (wpAny_holding ?_))
  unfold callGetattribute
  rw [if_neg (by cases expr <;> decide)]
  unfold boundAndCalled
  rw [f3]
  refine wpAny_bind (wpAny_pure ?_)
  dsimp only
  refine wpAny_call (codeAny_call_builtin F.excAttr_ValueError.ga.plain F.entry_bexc_ga (exc_check (s := ⟨hh, g, d, t + 1, os⟩) C X I (exc_entryV (s := ⟨hh, g, d, t + 1, os⟩) I hf ?_)))
  exact handed_on hv h
end
section
variable {X : Cx} {e : Expr} {f : Str} {pos : Pos} {ta : TE}
def tFldE (K : PySem.W.Frag) (ta : TE) (f : Str) : TE := fun σ H Q => ta σ H fun x H1 => ∃ a C dx fs v, x = .ref a ∧ H1 a = some (ExcO a C (some dx)) ∧ H1 dx = some (.xd fs) ∧ ClsE K C ∧ PySem.W.hasDictIn K C = true ∧ PySem.W.findIn K (.ref C) f = some none ∧ fs.lookup f = some v ∧ Q v H1
theorem pe_fldE {K : PySem.W.Frag} (hK : X.K = K) (he : PE X e ta) (hb : attributeBase e f X.env (eval e X.env) = eval e X.env := by rfl) : PE X (.Attribute e f pos) (tFldE K ta f) := by
  subst hK
  intro pins s σ H Q I h
  refine attr_of hb (thn (he pins s σ H _ I h) fun u s1 ⟨x, H1, I1, rx, a, C, dx, fs, v, ex, ea, ed, c, hd, hn, l, q⟩ => ?_)
  subst ex
  obtain rfl : u = Value.ref a := rx
  obtain ⟨⟨o, vs, h1, h2, h3, h4⟩, _⟩ := (show ObjOk X.prog X.w H1 s1.heap a (.ext fun h => ∃ o vs, h.get? a = some o ∧ o.cls = .ref C ∧ o.dict = some dx ∧ o.data = .fields vs) from I1.hok a _ ea)
  obtain ⟨mA, hns, hr⟩ := (show ObjOk X.prog X.w H1 s1.heap dx (.xd fs) from I1.hok dx _ ed)
  obtain ⟨od, ho, hl⟩ := lookIn_ns hns
  have J : PySem.W.InstAt s1.heap a o C (some od) := ⟨h1, h2, by unfold PySem.W.notCls; rw [h4], by rw [h3]; exact ho⟩
  have rr := hr f
  rw [l] at rr
  obtain ⟨u', eu, ru⟩ := RelO.some_of rr
  refine exc_attr c I1.kIn ⟨o, h1, h2⟩ (PySem.W.looks_find I1.kIn J (PySem.W.findObj_own hd hn rfl (by rw [hl, eu]))) ?_ ⟨v, H1, I1.tok _, ru, q⟩
  exact handed_of ru
end
end L2
set_option maxHeartbeats 4000000
namespace L2
open PySem PySem.Spec PyProof.Rows PySem.Calls
section
open Builtin Builtin.ObjectAttr
variable {prog : Program} {w : World} {A : Around} {E : Value → Shared → Prop} {s : Shared} {K : PySem.W.Frag} {x C : Addr}
/-! ### self.f = v, the first own name of an exception -/
/-- classes of the text over ValueError -/
def isR : Value → Bool
  | .ref _ => true
  | _ => false
def listVE : List Value := [.type "ValueError", .type "Exception", .type "BaseException", .type "object"]
def overVE (K : PySem.W.Frag) (C : Addr) : Bool := (PySem.W.clsIn K C).any fun k => k.mro.dropWhile isR == listVE
theorem pass_drop (u : Value) (x : Str) : ∀ l : List Value, refuseLoop u x l = refuseLoop u x (l.dropWhile isR)
  | [] => rfl
  | v :: r => by
    cases v with
    | ref D => rw [refuseLoop_ref, pass_drop u x r]; rfl
    | _ => rfl
theorem pass_VE (u : Value) {l : List Value} (e : (l.dropWhile isR == listVE) = true) : refuseLoop u "__setattr__" l = pure () := by
  rw [pass_drop, beq_iff_eq.mp e]
  exact PySem.F.store_ValueError.passes u
theorem store_VE {o : Obj} {od : Option Obj} {name : Str} {t : Tok} {v : Value} {R : Result → Shared → Prop} (X : K.In s.heap) (J : PySem.W.InstAt s.heap x o C od) (hp : overVE K C = true) (hm : PySem.W.mroIn K C (.type "object") = some true) (ht : PySem.W.takerIn K C name = some none)
    (h : ∀ b, wpAny (model prog w) A.in1 (storeInOwnDict (.ref x) (.ref C) (.str name t) name v b)
      (fun q s' => match q with | .done z => R (.ok z) s' | .again c => c.quiet = true ∧ codeAny (model prog w) A c R s') (fun e s' => R (.error e) s') s) :
    codeAny (model prog w) A (.call (.builtin "object.__setattr__") ⟨[.ref x, .str name t, v], []⟩) R s := by
  have S := PySem.F.store_object
  obtain ⟨k, hk, he⟩ := PySem.W.any_some hp
  have isO : PySem.W.Looks (model prog w) s.heap (isInstance (.ref x) (.type "object")) true := J.type.andThen (PySem.W.looks_mroIn X hm)
  have mo : PySem.W.Looks (model prog w) s.heap (mroOf (.ref C)) k.mro := (PySem.W.looks_clsIn X hk).andThen .now
  obtain ⟨at', ha, hr⟩ := Option.bind_eq_some_iff.mp ht
  have tk : PySem.W.Looks (model prog w) s.heap (storeTaker? at') none := by
    cases at' with
    | none => exact .now
    | some y =>
      obtain ⟨b, hb, hn⟩ := Option.map_eq_some_iff.mp hr
      refine (PySem.W.looks_takesIn X hb).andThen ?_
      cases b with
      | false => exact .now
      | true => cases hn
  refine codeAny_call_builtin S.slot.plain S.entry (@PySem.W.check_slot (model prog w) _ _ s "object.__setattr__" "object" "__setattr__" (.ref x) [.str name t, v] [] _ S.kind S.split isO (S.args (.ref x) (.str name t) v) ?_)
  rw [PySem.W.osa_eq, refuse_eq]
  refine wpAny_bind (wpAny_bind (J.type.here (wpAny_bind (mo.here ?_))))
  rw [pass_VE _ he]
  exact wpAny_pure (wpAny_bind (J.type.here (wpAny_bind ((PySem.W.looks_findIn X ha).here (wpAny_bind (tk.here (h _)))))))
theorem set_exc {o : Obj} {vs : Array Value} {name : Str} {v : Value} {Q : Unit → Shared → Prop} (X : K.In s.heap) (hx : s.heap.get? x = some o) (hc : o.cls = .ref C) (hn : o.dict = none) (hd : o.data = .fields vs)
    (hs : PySem.W.findIn K (.ref C) "__setattr__" = some (some (.builtin "object.__setattr__"))) (hp : overVE K C = true) (hm : PySem.W.mroIn K C (.type "object") = some true) (ht : PySem.W.takerIn K C name = some none) (hh : PySem.W.hasDictIn K C = true)
    (h : ∀ h', (∀ b u, b ≠ x → s.heap.get? b = some u → h'.get? b = some u) → h'.get? x = some { o with dict := some s.heap.objs.size } → h'.Ns1 s.heap.objs.size (fun y => if y = name then some v else none) → Q () { s with heap := h', toks := s.toks + 2 }) :
    wpAny (model prog w) A (setAttr (.ref x) name v) Q E s := by
  have J : PySem.W.InstAt s.heap x o C none := ⟨hx, hc, by unfold PySem.W.notCls; rw [hd], by rw [hn]; trivial⟩
  refine PySem.W.set_plain X J hs (store_VE (s := { s with toks := s.toks + 1 }) X J hp hm ht fun b => ?_)
  obtain ⟨cd, hcd, hd'⟩ := PySem.W.any_some hh
  obtain ⟨oc, od, oda, osl⟩ := o
  dsimp only at hc hn hd
  subst hc hn hd
  refine wpAny_bind (wpAny_pure (wpAny_bind ?_))
  show wpAny _ _ (instanceDict x true) _ _ _
  unfold instanceDict
  refine wpAny_bind (wpAny_loadPart hx (wpAny_bind (PySem.W.Looks.here (s := { s with toks := s.toks + 1 }) (PySem.W.looks_clsIn X hcd) ?_)))
  rw [hd']
  rw [if_neg (by decide)]
  dsimp only
  rw [if_neg (by simp [typeHasDict])]
  obtain ⟨hh0, g, d, t, os⟩ := s
  dsimp only at *
  have hxs : x ≠ hh0.objs.size := Nat.ne_of_lt (Heap.lt_size hx)
  have hx1 := Heap.get?_push_of_some (h := hh0) { cls := .type "dict", data := .dict #[] } hx
  refine wpAny_bind (wpAny_alloc' (wpAny_bind (wpAny_update' hx1 ?_)))
  have hx2 := Heap.get?_update_self (fun o : Obj => { o with dict := some hh0.objs.size }) hx1 rfl
  have hd2 : ((hh0.push { cls := .type "dict", data := .dict #[] }).update x fun o => { o with dict := some hh0.objs.size }).get? hh0.objs.size = some { cls := .type "dict", data := .dict #[] } :=
    (Heap.get?_update_other _ _ hxs).trans (Heap.get?_push_size _ rfl)
  refine wpAny_bind (wpAny_pure (wpAny_pure ?_))
  have n1 : ((hh0.push { cls := .type "dict", data := .dict #[] }).update x fun o => { o with dict := some hh0.objs.size }).Ns1 hh0.objs.size (fun _ => none) := ⟨_, #[], _, hd2, rfl, by simp [StrKeys], by simp [UniqKeys], fun _ => rfl⟩
  refine wpAny_bind (wpAny_pure (wpAny_bind ?_))
  refine wpAny_nsSet1 n1 fun h' hn2 hs2 => ?_
  obtain ⟨oD, esD, epD, hoD, hdD, hcD⟩ := hn2.count (PySem.Within.cons name v (show PySem.Within (fun _ => none) [] from fun _ z => absurd rfl z))
  refine wpAny_bind (wpAny_lookBehind hoD (by rw [hdD]; exact pastItsLine_dict (Nat.le_trans hcD (by rw [List.length_cons]; decide))) ?_)
  refine wpAny_pure (h h' (fun b u hb e => ?_) ?_ hn2)
  · have e1 : ((hh0.push { cls := .type "dict", data := .dict #[] }).update x fun o => { o with dict := some hh0.objs.size }).get? b = some u := (Heap.get?_update_other _ _ (Ne.symm hb)).trans (Heap.get?_push_of_some _ e)
    exact (hs2.2 b (Nat.ne_of_lt (Heap.lt_size e))).trans e1
  · exact (hs2.2 x hxs).trans hx2
end
/-- an exception just made -/
def ExcN (e C : Addr) (dp : Option Addr) : HO := .ext fun h => ∃ t : Addr, h.get? e = some { cls := .ref C, dict := dp, data := .fields #[.ref t, .none, .none, .none, .bool false, .none] }
/-- what of the text storing asks of an exception's class -/
structure ClsS (K : PySem.W.Frag) (C : Addr) (f : Str) : Prop where
  sa : PySem.W.findIn K (.ref C) "__setattr__" = some (some (.builtin "object.__setattr__"))
  po : overVE K C = true
  mo : PySem.W.mroIn K C (.type "object") = some true
  tk : PySem.W.takerIn K C f = some none
  hd : PySem.W.hasDictIn K C = true
section
variable {X : Cx} {o value : Expr} {f : Str} {pos pos' : Pos} {ta tv : TE}
def sFldE (K : PySem.W.Frag) (ta tv : TE) (f : Str) : TS := fun D σ H => tv σ H fun y H1 => ta σ H1 fun x H2 => ∃ a C, x = .ref a ∧ H2 a = some (ExcN a C none) ∧ ClsS K C f ∧ ∀ dx, H2 dx = none → D.nx σ (upd (upd H2 a (ExcN a C (some dx))) dx (.xd [(f, y)]))
theorem ps_fldE (hex : X.ex = []) (ha : PE X o ta) (hv : PE X value tv) (hs : swapsWith value (some (.Attribute o f pos')) pos.line X.env = pure false := by rfl) : PS X (.Assign [.Attribute o f pos'] value pos) (sFldE X.K ta tv f) := by
  intro pins s σ H D I h
  refine plainObj_wpAny_Assign_Attribute (thn (hv pins s σ H _ I h) fun u s1 ⟨y, H1, I1, ry, q⟩ => thn (ha pins s1 σ H1 _ I1 q) fun ov s2 ⟨x, H2, I2, rx, a, C, ex, ea, c, q2⟩ => ?_) hs
  subst ex
  obtain rfl : ov = Value.ref a := rx
  obtain ⟨⟨tt, h1⟩, _⟩ := (show ObjOk X.prog X.w H2 s2.heap a (.ext fun h => ∃ t : Addr, h.get? a = some { cls := .ref C, dict := none, data := .fields #[.ref t, .none, .none, .none, .bool false, .none] }) from I2.hok a _ ea)
  refine set_exc I2.kIn h1 rfl rfl rfl c.sa c.po c.mo c.tk c.hd fun h' kp hx' hn' => ?_
  have dn : H2 s2.heap.objs.size = none := I2.hok.fresh (Nat.le_refl _)
  have gn : s2.heap.get? s2.heap.objs.size = none := Heap.get?_none_of_le (Nat.le_refl _)
  have I3 : Inv X pins σ (upd H2 a (ExcN a C (some s2.heap.objs.size))) { s2 with heap := h', toks := s2.toks + 2 } := by
    refine I2.write (x := a) (e := a) (by rw [ea]; exact True.intro) (.inl rfl) (fun b u hb e => kp b u hb e) ⟨_, hx'⟩ ?_
    exact ⟨⟨tt, hx'⟩, ⟨_, hx'⟩, fun k1 k2 ⟨tz, z⟩ kk => ⟨tz, kk _ z⟩⟩
  have ane : s2.heap.objs.size ≠ a := fun z => by rw [z, h1] at gn; cases gn
  have s0 : X.s₀.heap.get? s2.heap.objs.size = none := by
    cases z : X.s₀.heap.get? s2.heap.objs.size with
    | none => rfl
    | some oz =>
      obtain ⟨o', e'⟩ := I2.base.there _ oz z (fun y => by rw [hex] at y; cases y)
      rw [gn] at e'; cases e'
  refine ⟨σ, _, I3.track s0 (fun z => ?_) (fun y' c' hy z => ?_) (fun p hpp z => ?_) (by rw [upd_ne ane]; exact dn) (o := .xd [(f, y)]) (show ObjOk X.prog X.w _ h' s2.heap.objs.size (.xd [(f, y)]) from ⟨_, hn', fun g => ?_⟩), q2 _ dn⟩
  · obtain ⟨m, ⟨om, _, _, hom, _⟩, _⟩ := I2.loc
    rw [← z, gn] at hom; cases hom
  · obtain ⟨v', o', ho', _⟩ := I2.cell y' c' hy
    rw [z, gn] at ho'; cases ho'
  · have := (I2.pin p hpp).1
    rw [z, gn] at this; cases this
  · show RelO (List.lookup g [(f, y)]) (if g = f then some u else none)
    by_cases hg : g = f
    · subst hg
      rw [if_pos rfl, List.lookup_cons_self]
      exact ry
    · rw [if_neg hg]
      have : List.lookup g [(f, y)] = none := by
        simp [List.lookup, beq_eq_false_iff_ne.mpr hg]
      rw [this]
      trivial
end
end L2
set_option maxHeartbeats 4000000
namespace L2
open PySem PySem.Spec PyProof.Rows PySem.Calls
/-! ### raise C(x), C of the text with an __init__ of its own -/
section
variable {prog : Program} {w : World} {A : Around} {E : Value → Shared → Prop} {h : Heap} {g : Array GenState} {d : Drawn} {t : Nat} {os : OsState}
variable {nm q : Str} {C N : Addr} {bs bm bmB : List Value} {hdct : Bool} {sn : List Str} {sub : List Value} {ab : Bool} {col : Option Bool} {dd : Option Addr} {k0 k1 k2 k3 k5 : Option Value} {B newId initId : String}
theorem exc_made {mN : Str → Option Value} {rest : List Value} {fI : Addr} {oI : Obj} {Q : Value → Shared → Prop} (F : ExcBaseFacts B newId initId bmB) (T : OwnTail h bmB bm)
    (hC : h.get? C = some (excClassObj nm q C N bs bm hdct sn sub ab col dd k0 k1 k2 k3 k5 newId)) (hn : h.Ns N mN) (hi : mN "__init__" = some (.ref fI)) (hfI : h.get? fI = some oI) (hfc : oI.cls = .type "function") (hrest : rest.length ≤ sizeLine)
    (hq : ∀ h' e, h.objs.size ≤ e → Heap.MadeExcOf h h' e (.ref C) rest →
      wpAny (model prog w) (A.under (.builtin "type.__call__" ⟨.ref C :: rest, []⟩)) (call (.ref fI) (.ref e :: rest)) (fun r s' => r = .none ∧ Q (.ref e) s') E ⟨h', g, d, t, os⟩) :
    wpAny (model prog w) A (call (.ref C) rest) Q E ⟨h, g, d, t, os⟩ := by
  have f1 := tc_lookup
  have f2 := tc_bind (.ref C)
  have hT : (⟨h, g, d, t, os⟩ : Shared).TypeIs (.ref C) "type" := ⟨_, hC, rfl⟩
  refine wpAny_call (codeAny_of_tree ?_)
  show wpAny _ _ (callAny (.ref C) _) _ _ _
  repeat (any_goals (first | assumption | with_reducible refine wpAny_loadPart_at hC ?_ | wp_step))
  refine ⟨rfl, codeAny_call_builtin_at (Code.quiet_builtin _ (by decide +kernel)) entry_typeCall (wpAny_check_type_call_sub hC ?_)⟩
  repeat (first | with_reducible refine wpAny_loadPart_at hC ?_ | with_reducible refine wpAny_madeBy_exc hC ?_ | wp_step)
  refine codeAny_call_builtin_code (Code.quiet_builtin _ F.quiet) (wpAny_check_new_subT F T hC (codeAny_exc_new_subT F T hC ?_ hrest))
  show wpAny _ _ _ _ _ _
  obtain ⟨ha, hha⟩ : ∃ z : Heap, z = (h.push { cls := .type "tuple", data := .seq rest.toArray }).push { cls := .ref C, data := .fields #[.ref h.objs.size, .none, .none, .none, .bool false, .none] } := ⟨_, rfl⟩
  have up : ∀ b o, h.get? b = some o → ha.get? b = some o := fun b o e => by rw [hha]; exact Heap.get?_push_of_some _ (Heap.get?_push_of_some _ e)
  have hge : ha.get? (h.objs.size + 1) = some { cls := .ref C, data := .fields #[.ref h.objs.size, .none, .none, .none, .bool false, .none] } := by rw [hha]; exact Heap.get?_push_at (by simp only [Heap.size_push]) rfl
  have hgt : ha.get? h.objs.size = some { cls := .type "tuple", data := .seq rest.toArray } := by rw [hha]; exact Heap.get?_push_of_some _ (Heap.get?_push_at rfl rfl)
  show wpAny _ _ _ _ _ ⟨(h.push { cls := .type "tuple", data := .seq rest.toArray }).push { cls := .ref C, data := .fields #[.ref h.objs.size, .none, .none, .none, .bool false, .none] }, g, d, t, os⟩
  rw [← hha]
  have hcC : (Value.ref C :: bm).contains (.ref C) = true := by simp
  have T₁ := T.keeps up
  have hC₁ := up _ _ hC
  have hn₁ : ha.Ns N mN := let ⟨o, es, ep, e, r⟩ := hn; ⟨o, es, ep, up _ _ e, r⟩
  unfold isInstance
  repeat (first | with_reducible refine wpAny_loadPart_at hge ?_ | (with_reducible refine wpAny_isSubtype_exc hC₁ ?_; rw [hcC]) | wp_step)
  show wpAny _ _ (typeLookup (.ref C) _) _ _ _
  refine wpAny_typeLookup_tail hC₁ hn₁ T₁ F.mroIs F.init.lookup ?_
  rw [hi]
  refine wpAny_holding (wpAny_bind ?_)
  unfold bindSpecial
  refine wpAny_bind (wpAny_typeOf (T := "function") ⟨_, up _ _ hfI, hfc⟩ ?_)
  rw [if_pos (by decide)]
  refine wpAny_pure (wpAny_bind (wpAny_mono (hq ha (h.objs.size + 1) (Nat.le_succ _) ⟨up, Heap.get?_none_of_le (Nat.le_succ _), h.objs.size, hge, Heap.get?_none_of_le (Nat.le_refl _), hgt⟩) (fun r s' hr => ?_) fun _ _ x => x))
  obtain ⟨rfl, hQ⟩ := hr
  wp_walk
  exact hQ
end
end L2
set_option maxHeartbeats 4000000
namespace L2
open PySem PySem.Spec PyProof.Rows PySem.Calls
/-- an object no longer spoken of -/
def drop1 (H : Hp) (e : Addr) : Hp := fun b => if b = e then none else H b
theorem drop1_ne {H : Hp} {e b : Addr} (h : b ≠ e) : drop1 H e b = H b := if_neg h
theorem drop1_same {H : Hp} {e : Addr} : drop1 H e e = none := if_pos rfl
theorem drop1_some {H : Hp} {e b : Addr} {o : HO} (h : drop1 H e b = some o) : b ≠ e ∧ H b = some o := by
  by_cases z : b = e
  · subst z; rw [drop1_same] at h; cases h
  · rw [drop1_ne z] at h; exact ⟨z, h⟩
section
variable {P : Program} {w : World} {fs ex : List Addr} {H H' : Hp} {h h' : Heap} {e : Addr} {φ : Heap → Prop}
theorem HOk.drop1 (ok : HOk P w H h) (he : H e = some (.ext φ)) : HOk P w (drop1 H e) h := fun b o q => by
  obtain ⟨nb, q'⟩ := drop1_some q
  refine (ok b o q').stay (fun _ _ _ z => z) (fun c z => ?_) fun c xs z => ?_
  · rw [drop1_ne (fun y => by rw [y, he] at z; cases z)]; exact z
  · rw [drop1_ne (fun y => by rw [y, he] at z; cases z)]; exact z
theorem Un.drop1 (u : Un fs ex H H' h h') (he : H' e = some (.ext φ)) : Un fs ex H (drop1 H' e) h h' where
  keep := u.keep
  slot := u.slot
  free := fun b o q n x => by
    have z := u.free b o q n x
    by_cases y : b = e
    · rw [y]; exact drop1_same
    · rw [drop1_ne y]; exact z
  there := u.there
  tups := fun b xs q => by
    have z := u.tups b xs q
    rw [drop1_ne (fun y => by rw [y, he] at z; cases z)]; exact z
  frzs := fun b o v q => by
    have z := u.frzs b o v q
    rw [drop1_ne (fun y => by rw [y, he] at z; cases z)]; exact z
  tbls := fun b ps q => by
    obtain ⟨m, z⟩ := u.tbls b ps q
    exact ⟨m, by rw [drop1_ne (fun y => by rw [y, he] at z; cases z)]; exact z⟩
end
section
variable {P : Program} {w : World} {K : PySem.W.Frag} {mg : Str → Option Value} {base : Heap} {N : List Str} {qual : Str} {scope : Scope} {f : Addr} {cd : Value} {A : Around} {outer : List Env} {s0 : Shared} {H0 : Hp} {E : XK}
/-- an exception made and filled here leaves -/
theorem raisesF {pins : List (Addr × Obj)} {σ : St} {H2 H4 : Hp} {s2 s4 : Shared} {e C : Addr} {oe : Obj} {vs : Array Value} {a0 : Value} (I : Inv (cxOf (CXe P w) P w K mg base N qual scope f cd A outer s0 H0 E) pins σ H2 s2)
    (un : Un (frs (cxOf (CXe P w) P w K mg base N qual scope f cd A outer s0 H0 E).stack) [] H2 H4 s2.heap s4.heap) (ok : HOk P w H4 s4.heap) (os : s4.os = s2.os) (bare : AllBare s4.gens) (new : s2.heap.get? e = none) (he : s4.heap.get? e = some oe) (hcls : oe.cls = .ref C) (hd : oe.data = .fields vs) (h1 : vs[1]? = some .none) (h0 : vs[0]? = some a0) (hn : H4 e = none) (q : E (.ref C) oe.dict H4) :
    (cxOf (CXe P w) P w K mg base N qual scope f cd A outer s0 H0 E).xe (.ref e) s4 := by
  have no : ∀ b ∈ ([] : List Addr), (b ∈ (cxOf (CXe P w) P w K mg base N qual scope f cd A outer s0 H0 E).ex ∨ (cxOf (CXe P w) P w K mg base N qual scope f cd A outer s0 H0 E).s₀.heap.objs.size ≤ b) ∧ b ≠ (cxOf (CXe P w) P w K mg base N qual scope f cd A outer s0 H0 E).env.locals ∧ (∀ x c, (cxOf (CXe P w) P w K mg base N qual scope f cd A outer s0 H0 E).env.cells.lookup x = some c → c ≠ b) ∧ ∀ p ∈ (cxOf (CXe P w) P w K mg base N qual scope f cd A outer s0 H0 E).pn ++ pins, p.1 ≠ b := fun b z => by cases z
  have I4 := I.call' (s' := s4) (ch := []) os un ok bare no
  have hin : ∀ env ∈ (cxOf (CXe P w) P w K mg base N qual scope f cd A outer s0 H0 E).stack, ∀ b, env.frame = some b → b ∈ e :: frs (cxOf (CXe P w) P w K mg base N qual scope f cd A outer s0 H0 E).stack := fun env hh b hb => .tail _ (List.mem_filterMap.mpr ⟨env, hh, hb⟩)
  have hl : s4.heap.FunFrames (PySem.W.hideAll s4.heap (e :: frs (cxOf (CXe P w) P w K mg base N qual scope f cd A outer s0 H0 E).stack)) (cxOf (CXe P w) P w K mg base N qual scope f cd A outer s0 H0 E).stack := PySem.W.funFrames_hide I4.stack hin
  have hB : (PySem.W.hideAll s4.heap (e :: frs (cxOf (CXe P w) P w K mg base N qual scope f cd A outer s0 H0 E).stack)).get? e = none := PySem.W.hideAll_none _ (.head _)
  generalize hBB : PySem.W.hideAll s4.heap (e :: frs (cxOf (CXe P w) P w K mg base N qual scope f cd A outer s0 H0 E).stack) = B at hl hB
  have fb0 : FlyB B (cxOf (CXe P w) P w K mg base N qual scope f cd A outer s0 H0 E).stack H4 s2.heap s4.heap := fun b o eo c => by
    rw [← hBB]
    refine PySem.W.hideAll_get _ eo fun z => ?_
    rcases List.mem_cons.mp z with z | z
    · subst z
      rcases c with c | ⟨⟨o₀, c⟩, _⟩
      · exact c hn
      · rw [new] at c; cases c
    · rcases c with c | ⟨_, nb⟩
      · exact c (I4.stkFree b z)
      · exact nb z
  have hkb : B.StaysIn s4.heap := fun b o z => PySem.W.of_hideAll _ (by rw [hBB]; exact z)
  refine wpAny_mono (kd_wpAny (kd_leaving _ _) (wpAny_leaving_firstW (a0 := a0) (Q := fun _ s5 => ∃ h5, s5 = { s4 with heap := h5 } ∧ Heap.FlyingW B outer e (.ref C) a0 h5 ∧ s4.heap.UpToSlots h5) (E := fun _ _ => False) I4.ok.frames hl rfl he hkb hB hd h1 h0 fun h5 hL => ?_)) (fun _ s5 z => ?_) (fun _ _ z => z.1.elim)
  · obtain ⟨k1, ⟨_, _, k2⟩, k3, k4⟩ := hL
    rw [hcls] at k3
    exact ⟨h5, rfl, ⟨k1, hB, k2, k3⟩, k4⟩
  obtain ⟨⟨h5, rfl, fly, us⟩, dk⟩ := z
  obtain ⟨un5, ok5, fb5⟩ := settle un ok fb0 hl fly.1 us
  have I5 := I.call (h' := h5) (g' := s4.gens) (d' := s4.drawn) (t' := s4.toks) (ch := []) un5 ok5 bare (fun b z => by cases z)
  have hdp : ∀ o, h5.get? e = some o → o.dict = oe.dict := fun o ho => by
    obtain ⟨o1, e1, d1⟩ := dk.2 e o (Heap.lt_size he) ho
    rw [show s4.heap.get? e = some o1 from e1] at he
    cases he
    exact d1
  exact ⟨e, C, a0, H4, B, oe.dict, rfl, os.trans I.os, bare, I5.base, ok5, fly, flyB_out I fb5, hdp, q⟩
end
end L2
set_option maxHeartbeats 4000000
namespace L2
open PySem PySem.Spec PyProof.Rows PySem.Calls
section
variable {M : Model} {A : Around} {E : Value → Shared → Prop} {env : Env}
variable {nm q : Str} {C N : Addr} {bs bm : List Value} {hdct : Bool} {sn : List Str} {sub : List Value} {ab : Bool} {col : Option Bool} {dd : Option Addr} {k0 k1 k2 k3 k5 : Option Value} {newId : String}
theorem exc_raised {s : Shared} {x : Sem Value} {Q : Flow → Shared → Prop} (hbase : bm.contains (.type "BaseException") = true) (hh : A.handled = none)
    (h : wpAny M A x (fun v s₁ => ∃ (e t : Addr) (dp : Option Addr), v = .ref e ∧ s₁.heap.get? C = some (excClassObj nm q C N bs bm hdct sn sub ab col dd k0 k1 k2 k3 k5 newId) ∧
      s₁.heap.get? e = some { cls := .ref C, dict := dp, data := .fields #[.ref t, .none, .none, .none, .bool false, .none] } ∧ E (.ref e) s₁) E s) :
    wpAny M A (raiseStmt env (some x) none) Q E s := by
  have hcB : (Value.ref C :: bm).contains (.type "BaseException") = true := by rw [List.contains_cons, hbase, Bool.or_true]
  unfold raiseStmt
  refine wpAny_bind (wpAny_mono h (fun v s₁ h₁ => ?_) fun _ _ x => x)
  obtain ⟨e, t, dp, rfl, hC, he, hE⟩ := h₁
  obtain ⟨hp, g, d, tk, os⟩ := s₁
  repeat (first | with_reducible refine wpAny_loadPart_at he ?_ | with_reducible refine wpAny_loadPart_at hC ?_ | (with_reducible refine wpAny_isSubtype_exc hC ?_; rw [hcB]) | wp_step)
  exact wpAny_raiseNew_none hh hE
end
/-- a class of exceptions of the text, with an __init__ of its own -/
structure OwnI (x : Str) (C : Addr) (bmB : List Value) (newId : String) (fI : Addr) (mg : Str → Option Value) (h : Heap) : Prop where
  bound : mg x = some (.ref C)
  obj : ∃ bm N nm q bs hdct sn sub ab col dd k0 k1 k2 k3 k5 mN, h.get? C = some (excClassObj nm q C N bs bm hdct sn sub ab col dd k0 k1 k2 k3 k5 newId) ∧ h.Ns N mN ∧ mN "__init__" = some (.ref fI) ∧ OwnTail h bmB bm
  fn : ∃ oI, h.get? fI = some oI ∧ oI.cls = .type "function"
/-- what an exception's __init__ that stores its one argument keeps -/
def spEI (C : Addr) (f : Str) : Sp := fun args H Q _ => ∃ (e : Addr) (x : V), args = [.ref e, x] ∧ H e = some (ExcN e C none) ∧ ∀ dx, H dx = none → Q .non (upd (upd H e (ExcN e C (some dx))) dx (.xd [(f, x)]))
theorem drop_back {H : Hp} {e dx : Addr} {a b o : HO} (he : H e = none) (hd : dx ≠ e) : drop1 (upd (upd (upd H e a) e b) dx o) e = upd H dx o := by
  funext c
  by_cases h : c = e
  · subst h
    rw [drop1_same, upd_ne (Ne.symm hd), he]
  · rw [drop1_ne h]
    by_cases h2 : c = dx
    · subst h2; rw [upd_same, upd_same]
    · rw [upd_ne h2, upd_ne h2, upd_ne h, upd_ne h]
section
variable {P : Program} {w : World} {K : PySem.W.Frag} {mg : Str → Option Value} {base : Heap} {N : List Str} {qual : Str} {scope : Scope} {f : Addr} {cd : Value} {A : Around} {outer : List Env} {s0 : Shared} {H0 : Hp} {E : XK}
def tRaise1 (E : XK) (C : Addr) (f : Str) (ta : TA) : TS := fun _ σ H => ta σ H fun vs H1 => ∃ x, vs = [x] ∧ ∀ dx, H1 dx = none → E (.ref C) (some dx) (upd H1 dx (.xd [(f, x)]))
theorem ps_raise1 {k : Nat} {x at' pn : Str} {C fI : Addr} {fdI : FuncData} {Bn newId initId : String} {bm : List Value} {arg : Expr} {ta : TA} {np cpos pos : Pos} (O : OwnI x C bm newId fI mg base) (FB : ExcBaseFacts Bn newId initId bm)
    (G : FnOk P w K mg base CX0 k fI fdI ["self", pn] (spEI C at')) (hb : Binds K fdI ["self", pn] []) (hkp : PySem.W.keepIn K (.ref C) = true)
    (hr : Room (k + 1) (cxOf (CXe P w) P w K mg base N qual scope f cd A outer s0 H0 E).A) (hg : Gl (cxOf (CXe P w) P w K mg base N qual scope f cd A outer s0 H0 E) x) (ha : PA (cxOf (CXe P w) P w K mg base N qual scope f cd A outer s0 H0 E) [arg] ta) (hdb : (x == ("__debug__" : Str)) = false := by decide)
    (hs : starEach [arg] (cxOf (CXe P w) P w K mg base N qual scope f cd A outer s0 H0 E).env = (false, eval arg (cxOf (CXe P w) P w K mg base N qual scope f cd A outer s0 H0 E).env) :: starEach [] (cxOf (CXe P w) P w K mg base N qual scope f cd A outer s0 H0 E).env := by rfl) :
    PS (cxOf (CXe P w) P w K mg base N qual scope f cd A outer s0 H0 E) (.Raise (some (.Call (.Name x np) [arg] [] cpos)) none pos) (tRaise1 E C at' ta) := by
  intro pins s σ H D I h
  obtain ⟨tl, Nn, nm, q, bs, hdct, sn, sub, ab, col, dd, k0, k1, k2, k3, k5, mN, hC, hNn, hi, T⟩ := O.obj
  rw [arm_exec_Raise]
  simp only [evalOpt, Option.map]
  refine wpAny_bind (wpAny_standAt (exc_raised (C := C) (nm := nm) (q := q) (N := Nn) (bs := bs) (bm := tl) (hdct := hdct) (sn := sn) (sub := sub) (ab := ab) (col := col) (dd := dd) (k0 := k0) (k1 := k1) (k2 := k2) (k3 := k3) (k5 := k5) (newId := newId) (T.hasType FB.hasBase) (I.ok.hd rfl) ?_))
  refine wpAny_bind (wpAny_mono (Q := fun v s₁ => ∃ (e t : Addr) (dp : Option Addr), v = .ref e ∧ s₁.heap.get? C = some (excClassObj nm q C Nn bs tl hdct sn sub ab col dd k0 k1 k2 k3 k5 newId) ∧
      s₁.heap.get? e = some { cls := .ref C, dict := dp, data := .fields #[.ref t, .none, .none, .none, .bool false, .none] } ∧ (cxOf (CXe P w) P w K mg base N qual scope f cd A outer s0 H0 E).xe (.ref e) s₁) ?_ (fun v s₃ h₃ => wpAny_bind (wpAny_standAt (wpAny_pure h₃))) fun _ _ x => x)
  refine wpAny_Call_Name_kw (ld_glob I hg O.bound ?_ hdb)
  refine PySem.W.callWith_K (h₀ := (cxOf (CXe P w) P w K mg base N qual scope f cd A outer s0 H0 E).base) I.ok.mod.kin hkp (thn (ha cpos pins s σ H _ I h) fun us s1 ⟨vs, H1, I1, r, xv, ev, hE⟩ => ⟨I1.kIn, ?_⟩) hs rfl
  subst ev
  obtain ⟨u, rfl, ru⟩ := vals1 r
  obtain ⟨oI, hfI, hfc⟩ := O.fn
  have bk1 := I1.bk
  obtain ⟨hh1, g1, dr1, t1, os1⟩ := s1
  have hN1 : hh1.Ns Nn mN := let ⟨o, es, ep, e, r⟩ := hNn; ⟨o, es, ep, bk1 _ _ e, r⟩
  refine exc_made FB (T.keeps bk1) (bk1 _ _ hC) hN1 hi (bk1 _ _ hfI) hfc (by show 1 ≤ sizeLine; exact Nat.le_of_lt (small1000 (by decide))) fun h3 e hle hm => ?_
  obtain ⟨tt, hte, _, _⟩ := hm.there
  have he1 : H1 e = none := I1.hok.fresh hle
  have I3 : Inv (cxOf (CXe P w) P w K mg base N qual scope f cd A outer s0 H0 E) pins σ (upd H1 e (ExcN e C none)) ⟨h3, g1, dr1, t1, os1⟩ :=
    I1.laid (t' := t1) hm.keeps hle ⟨⟨tt, hte⟩, ⟨_, hte⟩, fun k1 k2 ⟨tz, z⟩ kk => ⟨tz, kk _ z⟩⟩
  have r2 : Vals [V.ref e, xv] [Value.ref e, u] := .cons rfl (.cons ru .nil)
  have hsp : spEI C at' [V.ref e, xv] (upd H1 e (ExcN e C none)) (fun v H' => v = .non ∧ ∃ dx, H1 dx = none ∧ dx ≠ e ∧ H' = upd (upd (upd H1 e (ExcN e C none)) e (ExcN e C (some dx))) dx (.xd [(at', xv)])) E0 := by
    refine ⟨e, xv, rfl, upd_same, fun dx hdx => ?_⟩
    have nd : dx ≠ e := fun z => by rw [z, upd_same] at hdx; cases hdx
    rw [upd_ne nd] at hdx
    exact ⟨rfl, dx, hdx, nd, rfl⟩
  refine wpAny_call (codeAny_mono (G.run _ (cxOf (CXe P w) P w K mg base N qual scope f cd A outer s0 H0 E).stack _ _ ⟨[.ref e, u], []⟩ [.ref e, u] _ _ E0 (hr.make C [u] []) (I3.env0.make C [u] []) (hb _ [.ref e, u] I3.kIn rfl) r2 hsp) fun res s4 hq => ?_)
  cases res with
  | error ev => exact hq.elim
  | ok fl =>
    cases fl with
    | next => exact hq.elim
    | brk => exact hq.elim
    | cont => exact hq.elim
    | ret uv =>
      obtain ⟨v, H', os4, bare4, un4, ok4, rv, rfl, dx, hdx, ndx, rfl⟩ := hq
      have hev : (upd (upd (upd H1 e (ExcN e C none)) e (ExcN e C (some dx))) dx (.xd [(at', xv)])) e = some (ExcN e C (some dx)) := by rw [upd_ne (Ne.symm ndx), upd_same]
      obtain ⟨⟨t4, h4⟩, _⟩ := (show ObjOk P w _ s4.heap e (.ext fun h => ∃ t : Addr, h.get? e = some { cls := .ref C, dict := some dx, data := .fields #[.ref t, .none, .none, .none, .bool false, .none] }) from ok4 e _ hev)
      have unA := (Un.laid (fs := frs (cxOf (CXe P w) P w K mg base N qual scope f cd A outer s0 H0 E).stack) (ex := []) (o := ExcN e C none) hm.keeps hle he1).trans un4
      have unB := Un.drop1 unA hev
      have okB := HOk.drop1 ok4 hev
      rw [drop_back he1 ndx] at unB okB
      have I4 := I1.call' (s' := s4) (ch := []) os4 unB okB bare4 (fun b z => by cases z)
      exact ⟨rv, e, t4, some dx, rfl, I4.bk _ _ hC, h4, raisesF I1 unB okB os4 bare4 hm.new h4 rfl rfl rfl rfl (by rw [upd_ne (Ne.symm ndx)]; exact he1) (hE dx hdx)⟩
end
end L2
set_option maxHeartbeats 4000000
namespace L2
open PySem PySem.Spec PyProof.Rows
/-! ### except M as n, for a class under M -/
theorem excMatches_own {M : Model} {A : Around} {E : Value → Shared → Prop} {nm q nm' q' : Str} {C N C' N' : Addr} {bs bm bs' bm' : List Value} {hdct hdct' : Bool} {sn sn' : List Str} {sub sub' : List Value} {ab ab' : Bool} {col col' : Option Bool} {dd dd' : Option Addr} {k0 k1 k2 k3 k5 j0 j1 j2 j3 j5 : Option Value} {newId newId' : String} {h : Heap} {g : Array GenState} {d : Drawn} {t : Nat} {os : OsState} {e : Addr} {oe : Obj} {Q : Bool → Shared → Prop}
    (hC : h.get? C = some (excClassObj nm q C N bs bm hdct sn sub ab col dd k0 k1 k2 k3 k5 newId)) (hM : h.get? C' = some (excClassObj nm' q' C' N' bs' bm' hdct' sn' sub' ab' col' dd' j0 j1 j2 j3 j5 newId')) (he : h.get? e = some oe) (hc : oe.cls = .ref C)
    (hb : bm'.contains (.type "BaseException") = true) (hs : (Value.ref C :: bm).contains (.ref C') = true) (q : Q true ⟨h, g, d, t, os⟩) : wpAny M A (excMatches (.ref e) (.ref C')) Q E ⟨h, g, d, t, os⟩ := by
  have hcB : (Value.ref C' :: bm').contains (.type "BaseException") = true := by rw [List.contains_cons, hb, Bool.or_true]
  obtain ⟨oc, od, oda, osl⟩ := oe
  dsimp only at hc
  subst hc
  have tt : isSubtype (Value.type "type") (Value.type "tuple") = pure false := by kernel_rfl
  unfold excMatches
  repeat (first | with_reducible refine wpAny_loadPart_at he ?_ | with_reducible refine wpAny_loadPart_at hC ?_ | with_reducible refine wpAny_loadPart_at hM ?_ | (with_reducible refine wpAny_isSubtype_exc hM ?_; rw [hcB]) | (with_reducible refine wpAny_isSubtype_exc hC ?_; rw [hs]) | wp_step)
  exact q
/-! ### statements that may raise -/
section
variable {X : Cx} {pins : List (Addr × Obj)} {st : Stmt} {rest : List Stmt} {t u : TS} {pos : Pos}
def PSa (X : Cx) (pins : List (Addr × Obj)) (st : Stmt) (t : TS) : Prop := ∀ (s : Shared) (σ : St) (H : Hp) (D : Ends), Inv X pins σ H s → t D σ H → wpAny (model X.prog X.w) X.A (exec st X.env) (SP X pins D) X.xe s
def PSsA (X : Cx) (pins : List (Addr × Obj)) (st : List Stmt) (t : TS) : Prop := ∀ (s : Shared) (σ : St) (H : Hp) (D : Ends), Inv X pins σ H s → t D σ H → wpAny (model X.prog X.w) X.A (execs st X.env) (SP X pins D) X.xe s
theorem pssa_of {b : List Stmt} (h : PSs X b t) : PSsA X pins b t := fun s σ H D I q => h pins s σ H D I q
theorem pssa_cons (h1 : PSa X pins st t) (h2 : PSsA X pins rest u) : PSsA X pins (st :: rest) (tSeq t u) := by
  intro s σ H D I h
  refine wpAny_execs_cons (thn (h1 s σ H { D with nx := u D } I h) fun f s1 q => ?_)
  cases f with
  | next =>
    obtain ⟨σ', H', I', q⟩ := q
    exact h2 s1 σ' H' D I' q
  | ret v => exact q
  | brk => exact q
  | cont => exact q
def tAt (te : St → TE) : TE := fun σ H Q => te σ σ H Q
theorem psa_set {i : Nat} {x : Str} {e : Expr} {te : St → TE} {pos' : Pos} (hN : X.N.Nodup) (hi : X.N[i]? = some x) (hx : Loc X.env.scope x) (he : ∀ σ, PEa X pins σ e (te σ)) (hs : swapsWith e (some (.Name x pos')) pos.line X.env = pure false := by rfl) (hf : X.fn x = true ∨ X.env.scope.names.lookup x = some .local := by first | exact .inl rfl | exact .inr rfl | assumption) :
    PSa X pins (.Assign [.Name x pos'] e pos) (tAsg (tAt te) (gName i)) := by
  intro s σ H D I h
  refine wpAny_Assign_Name (thn (he σ s H _ I h) fun v s1 ⟨y, H1, I1, r1, q1⟩ => ?_) hs
  exact store_ok I1 hN hi hx r1 (fun s2 I2 => ⟨_, H1, I2, q1⟩) hf
end
/-- a class under M -/
structure SubE (C M : Addr) (h : Heap) : Prop where
  obj : ∃ bm N nm q bs hdct sn sub ab col dd k0 k1 k2 k3 k5 newId, h.get? C = some (excClassObj nm q C N bs bm hdct sn sub ab col dd k0 k1 k2 k3 k5 newId) ∧ (Value.ref C :: bm).contains (.ref M) = true
theorem SubE.keeps {C M : Addr} {h h' : Heap} (O : SubE C M h) (hk : ∀ b o, h.get? b = some o → h'.get? b = some o) : ∃ bm N nm q bs hdct sn sub ab col dd k0 k1 k2 k3 k5 newId, h'.get? C = some (excClassObj nm q C N bs bm hdct sn sub ab col dd k0 k1 k2 k3 k5 newId) ∧ (Value.ref C :: bm).contains (.ref M) = true := by
  obtain ⟨bm, N, nm, q, bs, hdct, sn, sub, ab, col, dd, k0, k1, k2, k3, k5, newId, hC, T⟩ := O
  exact ⟨bm, N, nm, q, bs, hdct, sn, sub, ab, col, dd, k0, k1, k2, k3, k5, newId, hk _ _ hC, T⟩
/-- try: a suite; except M as n: a suite that raises nothing; else: a suite that raises nothing -/
def tTryG (sub : Addr → Prop) (tb : (St → XK) → TS) (th to : TS) (i : Nat) : TS := fun D σ H =>
  tb (fun σ1 c dp H' => ∃ C, c = .ref C ∧ sub C ∧ ∀ e, H' e = none → th { nx := fun σ' H2 => D.nx (σ'.set i none) H2, rt := D.rt, bk := fun σ' H2 => D.bk (σ'.set i none) H2, ct := fun σ' H2 => D.ct (σ'.set i none) H2 } (σ1.set i (some (.ref e))) (upd H' e (ExcO e C dp))) { D with nx := to D } σ H
theorem ps_tryG {X : Cx} {body orelse : List Stmt} {b₀ : Stmt} {bs : List Stmt} {n x : Str} {i : Nat} {M : Addr} {Bn newId initId : String} {bm : List Value} {sub : Addr → Prop} {tb : (St → XK) → TS} {th to : TS} {np hp pos : Pos}
    (hst : X.stack = X.env :: X.outer) (hex : X.ex = []) (hfr : X.env.frame = some X.env.locals)
    (hbody : ∀ (xe : Value → Shared → Prop) (E : St → XK) (pins : List (Addr × Obj)), (∀ σ, PassA (CXe X.prog X.w) (cxT X xe) pins σ (E σ)) → PSsA (cxT X xe) pins body (tb E))
    (O : OwnB x M bm newId X.mg X.base) (FB : ExcBaseFacts Bn newId initId bm) (hsub : ∀ C, sub C → SubE C M X.base) (hgl : Gl X x) (hN : X.N.Nodup) (hi : X.N[i]? = some n) (hloc : X.env.scope.names.lookup n = some .local)
    (hs : ∀ e : Addr, PSs (cxH X e) (b₀ :: bs) th) (ho : PSs X orelse to) (hdb : (x == ("__debug__" : Str)) = false := by decide) :
    PS X (.Try body [.ExceptHandler (some (.Name x np)) (some n) (b₀ :: bs) hp] orelse [] pos) (tTryG sub tb th to i) := by
  intro pins s σ H D I h
  refine wpAny_Try_except (thn (hbody (fun ev s₁ => wpAny (model X.prog X.w) X.A (noteFrame ev X.env) (fun _ s₂ => wpAny (model X.prog X.w) X.A (setFlight ev none) (fun _ s₃ => wpAny (model X.prog X.w) X.A (handleBy ev X.env [.ExceptHandler (some (.Name x np)) (some n) (b₀ :: bs) hp]) (SP X pins D) X.xe s₃) X.xe s₂) X.xe s₁) _ pins ?_ s σ H _ (I.toT _) h) fun f s1 sp => ?_)
  · intro σ1
    rintro H1 s1 ev s' I1t ⟨e, C, a0, H', B, dp, rfl, os, bare, un, ok, fly, fb, hdp, C2, ec, hsb, q⟩
    have I1 := I1t.ofT
    obtain rfl : C = C2 := Value.ref.inj ec
    obtain ⟨oe, vs, Tt, oT, ts, he, ⟨hcls, _⟩, hdt, _⟩ := id fly.2.2.2
    have hne : H' e = none := by
      cases z : H' e with
      | none => rfl
      | some u =>
        have := fb e oe he (.inl (by rw [z]; simp))
        rw [fly.2.1] at this; cases this
    have e0 : s1.heap.get? e = none := by
      cases z : s1.heap.get? e with
      | none => rfl
      | some o =>
        by_cases hb : e ∈ frs X.stack
        · obtain ⟨_, o', z', d⟩ := fly.2.2.1.mem hb
          rw [he] at z'; cases z'
          exact absurd hdt (d vs)
        · have := fb e oe he (.inr ⟨⟨o, z⟩, hb⟩)
          rw [fly.2.1] at this; cases this
    have fly' : Heap.FlyingW B (X.env :: X.outer) e (.ref C) a0 s'.heap := by
      have z : Heap.FlyingW B X.stack e (.ref C) a0 s'.heap := fly
      rw [hst] at z
      exact z
    have frames' : X.A.frames = some (X.env :: X.outer) := by rw [← hst]; exact I1.ok.frames
    have un' : Un (frs (X.env :: X.outer)) [] H1 H' s1.heap s'.heap := by
      have z : Un (frs X.stack) [] H1 H' s1.heap s'.heap := un
      rw [hst] at z
      exact z
    have fb' : FlyB B (X.env :: X.outer) H' s1.heap s'.heap := by
      have z : FlyB B X.stack H' s1.heap s'.heap := fb
      rw [hst] at z
      exact z
    refine wpAny_mono (kd_wpAny (kd_note _ _) (wpAny_looks_onW (Q := fun _ s2 => ∃ h4, s2 = { s' with heap := h4 } ∧ Heap.HeldW B (X.env :: X.outer) e (.ref C) a0 X.env.locals h4 ∧ s'.heap.UpToSlots h4) (E := fun _ _ => False) frames' hfr fly' fun h4 held us4 => ⟨h4, rfl, held, us4⟩)) (fun _ s2 z => ?_) (fun _ _ z => z.1.elim)
    obtain ⟨⟨h4, rfl, held, us4⟩, dk4⟩ := z
    refine wpAny_mono (kd_wpAny (kd_setFlight _ _) (wpAny_landsW (s := { s' with heap := h4 }) (Q := fun _ s2 => ∃ h5, s2 = { s' with heap := h5 } ∧ Heap.FlyingW B (X.env :: X.outer) e (.ref C) a0 h5 ∧ h4.UpToSlots h5) (E := fun _ _ => False) held fun h5 fly5 us5 => ⟨h5, rfl, fly5, us5⟩)) (fun _ s2 z => ?_) (fun _ _ z => z.1.elim)
    obtain ⟨⟨h5, rfl, fly5, us5⟩, dk5⟩ := z
    obtain ⟨un5, ok5, fb5⟩ := settle un' ok fb' fly'.2.2.1 fly5.1 (us4.trans us5)
    have no : ∀ b ∈ ([] : List Addr), (b ∈ X.ex ∨ X.s₀.heap.objs.size ≤ b) ∧ b ≠ X.env.locals ∧ (∀ x c, X.env.cells.lookup x = some c → c ≠ b) ∧ ∀ p ∈ X.pn ++ pins, p.1 ≠ b := fun b z => by cases z
    have I5 : Inv X pins σ1 H' { s' with heap := h5 } := I1.call' (s' := { s' with heap := h5 }) os (by rw [hst]; exact un5) ok5 bare no
    have I5h := I5.toH e
    refine wpAny_handleBy_cons (codeAny_handlers_test (ld_glob (X := cxH X e) I5h hgl O.bound ?_ hdb)) (by intro z; cases z)
    obtain ⟨tl, Nn, nm, qq, bss, hdct, sn, sub, ab, col, dd, k0, k1, k2, k3, k5, hC, T⟩ := (O.keeps I5.bk).obj
    obtain ⟨ob, hob, hobc⟩ := fly5.there
    obtain ⟨tl', Nn', nm', qq', bss', hdct', sn', sub', ab', col', dd', k0', k1', k2', k3', k5', newId', hC', hct⟩ := (hsub C hsb).keeps I5.bk
    refine excMatches_own hC' hC hob hobc (T.hasType FB.hasBase) hct ?_
    refine codeAny_handlers_suite_as ?_
    refine wpAny_mono (kd_wpAny (kd_setFlight _ _) (lands_againW (s := { s' with heap := h5 }) (Q := fun _ s2 => ∃ h6, s2 = { s' with heap := h6 } ∧ Heap.FlyingW B (X.env :: X.outer) e (.ref C) a0 h6 ∧ h5.UpToSlots h6) (E := fun _ _ => False) fly5 fun h6 fly6 us6 => ⟨h6, rfl, fly6, us6⟩)) (fun _ s2 z => ?_) (fun _ _ z => z.1.elim)
    obtain ⟨⟨h6, rfl, fly6, us6⟩, dk6⟩ := z
    have hd6 : ∀ o, h6.get? e = some o → o.dict = dp := fun o ho => by
      obtain ⟨o1, e1, d1⟩ := ((dk4.trans dk5).trans dk6).2 e o (Heap.lt_size he) ho
      rw [d1]
      exact hdp o1 e1
    obtain ⟨un6, ok6, fb6⟩ := settle un5 ok5 fb5 fly5.2.2.1 fly6.1 us6
    have I6 : Inv X pins σ1 H' { s' with heap := h6 } := I1.call' (s' := { s' with heap := h6 }) os (by rw [hst]; exact un6) ok6 bare no
    obtain ⟨oe6, vs6, _, _, _, he6, ⟨hcls6, _⟩, hdt6, _⟩ := id fly6.2.2.2
    have s0e : X.s₀.heap.get? e = none := by
      cases z : X.s₀.heap.get? e with
      | none => rfl
      | some o =>
        obtain ⟨o', z'⟩ := I1.base.there e o z (fun y => by rw [hex] at y; cases y)
        rw [e0] at z'; cases z'
    have I6' : Inv X pins σ1 (upd H' e (ExcO e C dp)) { s' with heap := h6 } := by
      refine I6.track s0e (fun z => ?_) (fun y c hy z => ?_) (fun p hpp z => ?_) hne ⟨⟨oe6, vs6, he6, hcls6, hd6 _ he6, hdt6⟩, ⟨oe6, he6⟩, fun h1 h2 y k => ?_⟩
      · obtain ⟨m, ⟨o, _, _, ho, _⟩, _⟩ := I1.loc
        rw [← z, e0] at ho; cases ho
      · obtain ⟨v, o, ho, _⟩ := I1.cell y c hy
        rw [z, e0] at ho; cases ho
      · have := (I1.pin p hpp).1
        rw [z, e0] at this; cases this
      · obtain ⟨o, vs', y1, y2, y3⟩ := y
        exact ⟨o, vs', k o y1, y2, y3⟩
    refine store_ok (X := cxH X e) (v := .ref e) (I6'.toH e) hN hi (Or.inl hloc) rfl (fun s7 I7 => ?_) (.inr hloc)
    refine wpAny_mono ((hs e) pins s7 _ _ _ I7 (q e hne)) (fun f s8 sp => ?_) (fun _ _ z => z.elim)
    cases f with
    | next => obtain ⟨σ', H2, I8, q8⟩ := sp; exact gone (I8.ofH I.ok.hd) hN hi hloc fun s9 I9 => ⟨_, H2, I9, q8⟩
    | brk => obtain ⟨σ', H2, I8, q8⟩ := sp; exact gone (I8.ofH I.ok.hd) hN hi hloc fun s9 I9 => ⟨_, H2, I9, q8⟩
    | cont => obtain ⟨σ', H2, I8, q8⟩ := sp; exact gone (I8.ofH I.ok.hd) hN hi hloc fun s9 I9 => ⟨_, H2, I9, q8⟩
    | ret u => obtain ⟨v, σ', H2, I8, r8, q8⟩ := sp; exact gone (I8.ofH I.ok.hd) hN hi hloc fun s9 I9 => ⟨v, _, H2, I9, r8, q8⟩
  · cases f with
    | next =>
      obtain ⟨σ', H', I', q'⟩ := sp
      exact ho pins s1 σ' H' D I'.ofT q'
    | brk => obtain ⟨σ', H', I', q'⟩ := sp; exact ⟨σ', H', I'.ofT, q'⟩
    | cont => obtain ⟨σ', H', I', q'⟩ := sp; exact ⟨σ', H', I'.ofT, q'⟩
    | ret u => obtain ⟨v, σ', H', I', r', q'⟩ := sp; exact ⟨v, σ', H', I'.ofT, r', q'⟩
end L2
set_option maxHeartbeats 4000000
namespace L2
open PySem PySem.Spec PyProof.Rows
/-! ### a dict walked: it is held still while it is -/
section
variable {X : Cx} {pins : List (Addr × Obj)} {σ : St} {H : Hp} {s : Shared}
end
section
variable {X : Cx}
/-! ### list(d.values()), len(a set) -/
end
end L2
set_option maxHeartbeats 4000000
namespace L2
open PySem PySem.Spec PyProof.Rows
section
variable {X : Cx} {pins : List (Addr × Obj)} {σ : St} {H : Hp} {s : Shared} {h' : Heap}
/-- several untracked records of ours have turned -/
theorem Inv.turnedM {t' : Nat} {fp : List Addr} (I : Inv X pins σ H s) (k : ∀ b o, b ∉ fp → s.heap.get? b = some o → h'.get? b = some o) (hf : ∀ b ∈ fp, FpOk X pins H b) : Inv X pins σ H { s with heap := h', toks := t' } := by
  have nit : ∀ b u, H b = some u → b ∉ fp := fun b u e z => by rw [(hf b z).1] at e; cases e
  have nL : X.env.locals ∉ fp := fun z => (hf _ z).2.1 rfl
  refine I.step (g' := s.gens) (d' := s.drawn) (ch := fp) (fun b hb => ?_) (fun b o _ _ hc e _ => k b o hc e) (fun b o _ _ hc e _ => ⟨o.slots, k b o hc e⟩) (fun _ _ _ _ n => n)
    (fun b o hc e => ⟨o, k b o hc e⟩) (fun _ _ e => e) (fun _ _ _ e => e) (fun b ps e => ⟨#[], by rw [e]; simp⟩) (fun m hm => ?_) (fun b u e => ?_) I.bare
  · obtain ⟨f0, f1, f2, f3, f4, f5⟩ := hf b hb
    exact ⟨f3, f1, f4, f5⟩
  · obtain ⟨o, es, ep, ho, r⟩ := hm
    exact ⟨o, es, ep, k _ o nL ho, r⟩
  · refine (I.hok b u e).stay (fun c v hc q => k c v ?_ q) (fun _ q => q) fun _ _ q => q
    rcases hc with z | z
    · rw [z]; exact nit b u e
    · exact nit c _ z
end
section
variable {X : Cx}
/-! ### the values of a dict walked -/
/-! ### xs.insert(i, x) -/
def rInsert : V → List V → Hp → VK → Prop := fun x vs H Q => ∃ (l : Addr) (xs : List V) (i : Nat) (y : V), x = .ref l ∧ vs = [.int i, y] ∧ H l = some (.lst xs) ∧ i ≤ xs.length ∧ xs.length < 1000 ∧ Q .non (upd H l (.lst (xs.take i ++ y :: xs.drop i)))
theorem vals_take {xs : List V} {us : List Value} (h : Vals xs us) (n : Nat) : Vals (xs.take n) (us.take n) ∧ Vals (xs.drop n) (us.drop n) := by
  induction h generalizing n with
  | nil => simp; exact .nil
  | cons r t ih =>
    cases n with
    | zero => exact ⟨.nil, .cons r t⟩
    | succ n => exact ⟨.cons r (ih n).1, (ih n).2⟩
theorem mt_insert : MtM X "list.insert" rInsert := by
  intro pins s σ H x vs v us Q I rx rv h
  obtain ⟨l, xs, i, y, rfl, rfl, hH, hi, hz, q⟩ := h
  cases rx
  obtain ⟨u1, u2, rfl, ⟨t, e1⟩, r2⟩ := vals2 rv
  subst e1
  obtain ⟨z, its, n, r, hl, e⟩ := I.lstM hH
  obtain ⟨x, hx⟩ : ∃ x : Int, x = (i : Int) := ⟨_, rfl⟩
  rw [← hx]
  have hsz : its.toArray.size ≤ sizeLine := by rw [List.size_toArray]; omega
  have hfit : Builtin.List.listFitsIndex x = true := by
    unfold Builtin.List.listFitsIndex
    rw [Bool.and_eq_true]
    exact ⟨decide_eq_true (by omega), decide_eq_true (by omega)⟩
  have hk : (if x < 0 then (x + ((its.toArray.size : Nat) : Int)).toNat else min x.toNat its.toArray.size) = i := by
    rw [if_neg (by omega), hx, Int.toNat_natCast, List.size_toArray]
    omega
  have hv : Vals (xs.take i ++ y :: xs.drop i) (its.take i ++ u2 :: its.drop i) := (vals_take r i).1.append (.cons r2 (vals_take r i).2)
  have hkk : (its.toArray.extract 0 (if x < 0 then (x + ((its.toArray.size : Nat) : Int)).toNat else min x.toNat its.toArray.size)).push u2 ++ its.toArray.extract (if x < 0 then (x + ((its.toArray.size : Nat) : Int)).toNat else min x.toNat its.toArray.size) = (its.take i ++ u2 :: its.drop i).toArray := by
    rw [hk]
    exact PySem.W.kl_ins_eq its i u2
  clear hk
  refine call_meets PySem.F.slot_list_insert ⟨_, e, rfl⟩ PySem.F.entry_list_insert (PySem.F.args_list_insert_3 _ _ _) (PySem.AutoSeq1.list_insert_list_int_val_1 l its.toArray n x t u2 (fun z => by rw [hfit] at z; cases z) hsz) ⟨e, ?_⟩
  refine ⟨.non, _, I.lset (its' := its.take i ++ u2 :: its.drop i) hH e hkk hv ?_, rfl, q⟩
  rw [List.length_append, List.length_cons, List.length_take, List.length_drop]
  exact Nat.le_of_lt (small1000 (by omega))
end
end L2
set_option maxHeartbeats 4000000
namespace L2
open PySem PySem.Spec PyProof.Rows
/-! ### d.setdefault(k, v) -/
section
variable {X : Cx}
/-! ### list(d) -/
/-! ### [.. for k in d ..] -/
/-! ### {k: v} -/
end
end L2
set_option maxHeartbeats 4000000
namespace L2
open PySem PySem.Spec PyProof.Rows
section
variable {X : Cx}
end
end L2
set_option maxHeartbeats 4000000
namespace L2
open PySem PySem.Spec PyProof.Rows
section
variable {X : Cx}
/-! ### sep.join(texts) -/
theorem strs_are : ∀ {ys : List Str} {its : List Value}, Vals (ys.map V.str) its → StrsAre its ys
  | [], _, .nil => .nil
  | y :: r, _, .cons h t => by
    obtain ⟨tk, rfl⟩ := (show ∃ t, _ = Value.str y t from h)
    exact .cons y tk (strs_are t)
end
end L2
set_option maxHeartbeats 4000000
namespace L2
open PySem PySem.Spec PyProof.Rows
/-! ### sorted(a dict with texts for keys) -/
section
variable {prog : Program} {w : World} {A : Around} {E : Value → Shared → Prop} {s : Shared} {T : String} {r d : Addr} {n : Nat} {P : Nat → Value → Prop} {OK : Heap → Prop}
end
section
variable {X : Cx}
end
end L2
set_option maxHeartbeats 4000000
namespace L2
open PySem PySem.Spec PyProof.Rows
/-! ### two lists of the same things -/
section
variable {X : Cx}
end
end L2
set_option maxHeartbeats 4000000
namespace L2
open PySem PySem.Spec PyProof.Rows
/-! ### is, is not, with a truth at the right -/
section
variable {X : Cx}
end
end L2
set_option maxHeartbeats 4000000
namespace L2
open PySem PySem.Spec PyProof.Rows
/-! ### a plain text, sign by sign -/
def Itx (x : Str) : It := ⟨fun i _ => i < x.cps.size, fun i H v H' => H' = H ∧ ∃ c, x.cps[i]? = some c ∧ v = .str ⟨#[c]⟩, fun i _ => x.cps.size ≤ i⟩
theorem turn_ascii {P : Program} {w : World} {K : PySem.W.Frag} {tg : Expr} (it : Addr) (x : Str) (t : Tok) : Turn P w K tg (Itx x) [it] it (fun i h => h.IsStrIter it "str_ascii_iterator" x t i) where
  mem := by simp
  obj := fun i h st b hb => by
    have e : b = it := by simpa using hb
    subst e
    obtain ⟨o, e, c, d⟩ := st
    exact ⟨o, e, fun v z => by rw [d] at z; cases z⟩
  keep := fun i h h' st k => by
    obtain ⟨o, e, c, d⟩ := st
    exact ⟨o, k it (by simp) o e, c, d⟩
  item := by
    intro X hP hw hK hc i pins s σ H E I hf st hg
    subst hP hw hK
    have hi : i < x.cps.size := hg
    obtain ⟨f0, f1, f2, f3, f4, f5⟩ := hf it (by simp)
    refine wpAny_pyNext_ascii_item st (c := x.cps[i]) (Array.getElem?_eq_getElem hi) fun h' st' sb => ?_
    have I1 : Inv X pins σ H { s with heap := h', toks := s.toks + 1 } := I.turned (fun b o hb e => (sb.2 b hb).trans e) f0 f1 f3 f4 f5
    obtain ⟨o, e, c, d⟩ := id st'
    exact ⟨_, rfl, go_of (s := { s with heap := h', toks := s.toks + 1 }) e c d (by decide) ⟨.str ⟨#[x.cps[i]]⟩, H, I1, ⟨_, rfl⟩, ⟨rfl, _, Array.getElem?_eq_getElem hi, rfl⟩, st', fun b hb => (hf b hb).1⟩⟩
  done := by
    intro X hP hw hK hc i pins s σ H E I hf st hg
    subst hP hw hK
    obtain ⟨f0, f1, f2, f3, f4, f5⟩ := hf it (by simp)
    have hi : x.cps.size ≤ i := hg
    exact wpAny_pyNext_ascii_end (I.ok.hd hc) st (Array.getElem?_eq_none hi) fun h' eb => ⟨rfl, I.turned (t' := s.toks) (fun b o hb e => eb b o hb e) f0 f1 f3 f4 f5⟩
  self := fun _ _ _ _ _ st h => wpAny_pyIter_striter_ascii st h
section
variable {X : Cx} {tg : Expr}
def iAsc (tl : TE) : TI := fun σ H R => tl σ H fun x H1 => ∃ z, x = .str z ∧ (z.cps.all fun x => decide (x < 128)) = true ∧ R (Itx z) H1
theorem pi_ascii {l : Expr} {tl : TE} (hl : PE X l tl) : PI X tg l (iAsc tl) := by
  intro pins s σ H R I h
  refine thn (hl pins s σ H _ I h) fun v s1 ⟨x, H1, I1, r1, q1⟩ => ?_
  obtain ⟨z, rfl, ha, q⟩ := q1
  obtain ⟨t, rfl⟩ := r1
  refine wpAny_pyIter_ascii ha ?_
  refine ⟨s1.heap.objs.size, [s1.heap.objs.size], _, _, H1, rfl, I1.kept (t' := s1.toks) fun b o e => Heap.get?_push_of_some _ e, turn_ascii _ z t, ⟨_, Heap.get?_push_size _ rfl, rfl, rfl⟩, fun b hb => ?_, q⟩
  have e : b = s1.heap.objs.size := by simpa using hb
  subst e
  exact I1.fpOk (Nat.le_refl _) (I1.hok.fresh (Nat.le_refl _))
theorem lcg_asciiR {z : Str} {D : Addr} {g : TG} {tt : TT} {te : TE} {R : Hp → Prop} {σ0 : St} {H1 : Hp} (Pv : Nat → St → Hp → Prop) (h0 : Pv 0 σ0 (upd H1 D (.lst [])))
    (hs : ∀ i c σ H, z.cps[i]? = some c → Pv i σ H → g (.str ⟨#[c]⟩) σ H fun σ3 H3 => tt σ3 H3 fun b H4 => if b = true then te σ3 H4 fun y H5 => ∃ zs, H5 D = some (.lst zs) ∧ zs.length < sizeLine ∧ Pv (i + 1) σ3 (upd H5 D (.lst (zs ++ [y]))) else Pv (i + 1) σ3 H4) (hd : ∀ σ H, Pv z.cps.size σ H → R H) :
    ∃ W : Nat → Nat → St → Hp → Prop, (∃ m, W 0 m σ0 (upd H1 D (.lst []))) ∧ ∀ i m σ' H', W i m σ' H' →
      ((Itx z).stop i H' ∧ R H') ∨ ((Itx z).go i H' ∧ ∃ N : St → Hp → Prop, (∀ σ2 H2, N σ2 H2 → ∃ m', m' < m ∧ W (i + 1) m' σ2 H2) ∧
        ∀ x H2, (Itx z).yld i H' x H2 → g x σ' H2 fun σ3 H3 => tt σ3 H3 fun b H4 => if b = true then te σ3 H4 fun y H5 => ∃ zs, H5 D = some (.lst zs) ∧ zs.length < sizeLine ∧ N σ3 (upd H5 D (.lst (zs ++ [y]))) else N σ3 H4) := by
  refine ⟨fun i m σ H => m = z.cps.size - i ∧ i ≤ z.cps.size ∧ Pv i σ H, ⟨z.cps.size, rfl, Nat.zero_le _, h0⟩, ?_⟩
  rintro i m σ H ⟨rfl, hi, p⟩
  rcases Nat.lt_or_ge i z.cps.size with hlt | hge
  · refine .inr ⟨hlt, Pv (i + 1), fun σ' H' p' => ⟨z.cps.size - (i + 1), by omega, rfl, hlt, p'⟩, fun x H' y => ?_⟩
    obtain ⟨rfl, c, hc, rfl⟩ := y
    exact hs i c σ H' hc p
  · have e : i = z.cps.size := by omega
    subst e
    exact .inl ⟨hge, hd σ H p⟩
end
end L2
set_option maxHeartbeats 4000000
namespace L2
open PySem PySem.Spec PyProof.Rows
section
variable {prog : Program} {w : World} {A : Around} {E : Value → Shared → Prop} {s : Shared}
/-! ### the next item of a tuple's iterator, asked by another iterator -/
theorem nextT_item {it t : Addr} {i : Nat} {items : Array Value} {x : Value} {Q : Value → Shared → Prop} (st : s.heap.IsTupleIter it t i) (tu : s.heap.IsTuple t items) (ix : items[i]? = some x)
    (q : ∀ h', h'.IsTupleIter it t (i + 1) → Heap.SameBut it s.heap h' → Q x { s with heap := h' }) : wpAny (model prog w) A (Builtin.SmallTypes.nextOf (.ref it)) Q E s := by
  obtain ⟨o, eo, ec, ed⟩ := id st; obtain ⟨ol, el, _, nl, edl⟩ := tu; unfold Builtin.SmallTypes.nextOf
  refine wpAny_bind (wpAny_callSpecial?_slot (name := Str.ofString "__next__") st.typeIs F.slot_tuple_iterator_next (wpAny_call_entry F.slot_tuple_iterator_next st.typeIs F.entry_tuple_iterator_next ?_ (F.args_tuple_iterator_next_1 _)))
  show wpAny _ _ (field (.ref it) 0 >>= _) _ _ s; refine wpAny_bind (wpAny_field eo ed (x := .ref t) rfl ?_)
  show wpAny _ _ (if (Value.ref t == Value.none) = true then _ else _) _ _ s; rw [if_neg (show ¬ ((Value.ref t == Value.none) = true) from Bool.false_ne_true)]
  show wpAny _ _ (field (.ref it) 1 >>= _) _ _ s; refine wpAny_bind (wpAny_field eo ed (x := .int i 0) rfl ?_)
  show wpAny _ _ (seqItems? (.ref t) >>= _) _ _ s; refine wpAny_bind (wpAny_seqItems el edl ?_); simp only [Int.toNat_natCast, ix]
  refine wpAny_bind (wpAny_setField eo ed (by simp) (wpAny_pure ⟨x, rfl, wpAny_pure (q _ ⟨_, Heap.get?_update_self _ eo (Obj.isFreed_of_fields (Obj.data_mapFields ed _)), (Obj.cls_mapFields ..).trans ec, by rw [Obj.data_mapFields ed]; simp [rawInt]⟩ (Heap.SameBut.update ..))⟩))
theorem nextT_end {it t : Addr} {i : Nat} {items : Array Value} {Q : Value → Shared → Prop} (hh : A.handled = none) (st : s.heap.IsTupleIter it t i) (tu : s.heap.IsTuple t items) (ix : items[i]? = none)
    (q : ∀ h' e, Heap.ExtBut it s.heap h' → (∃ o, h'.get? e = some o ∧ o.cls = .type "StopIteration") → E (.ref e) { s with heap := h' }) : wpAny (model prog w) A (Builtin.SmallTypes.nextOf (.ref it)) Q E s := by
  obtain ⟨o, eo, ec, ed⟩ := id st; obtain ⟨ol, el, _, nl, edl⟩ := tu; unfold Builtin.SmallTypes.nextOf
  refine wpAny_bind (wpAny_callSpecial?_slot (name := Str.ofString "__next__") st.typeIs F.slot_tuple_iterator_next (wpAny_call_entry F.slot_tuple_iterator_next st.typeIs F.entry_tuple_iterator_next ?_ (F.args_tuple_iterator_next_1 _)))
  show wpAny _ _ (field (.ref it) 0 >>= _) _ _ s; refine wpAny_bind (wpAny_field eo ed (x := .ref t) rfl ?_)
  show wpAny _ _ (if (Value.ref t == Value.none) = true then _ else _) _ _ s; rw [if_neg (show ¬ ((Value.ref t == Value.none) = true) from Bool.false_ne_true)]
  show wpAny _ _ (field (.ref it) 1 >>= _) _ _ s; refine wpAny_bind (wpAny_field eo ed (x := .int i 0) rfl ?_)
  show wpAny _ _ (seqItems? (.ref t) >>= _) _ _ s; refine wpAny_bind (wpAny_seqItems el edl ?_); simp only [Int.toNat_natCast, ix]
  refine wpAny_bind (wpAny_rule (wpAny_bind (wpAny_setField eo ed (by simp) ?_))); show wpAny _ _ (newExc (.type "StopIteration") [] >>= _) _ _ _
  refine wpAny_bind ?_; simp only [newExc, newTuple]; refine wpAny_bind (wpAny_newObj_type ?_ (by size_fits))
  refine wpAny_bind (m := firstArgMember _ _) (wpAny_of_eq (a := Value.none) (by first | rfl | (simp only [firstArgMember]; rfl)) ?_); refine wpAny_newObj_type ?_ (by size_fits)
  simp only [raiseNew]; refine wpAny_bind (wpAny_handled ?_); first | rw [show A.in1.handled = none from hh] | rw [hh]
  refine wpAny_bind (wpAny_pure (wpAny_throw ?_))
  exact q _ _ (((Heap.SameBut.update ..).extBut.push _).push _) ⟨_, Heap.get?_push_size _ rfl, rfl⟩
end
end L2
set_option maxHeartbeats 4000000
namespace L2
open PySem PySem.Spec PyProof.Rows
/-! ### for k, x in enumerate(a tuple) -/
abbrev eq1 (h : Heap) (a : Addr) : Heap := h.push { cls := .type "tuple_iterator", data := .fields #[.ref a, .int 0 0] }
abbrev eq2 (h : Heap) (a : Addr) : Heap := (eq1 h a).push { cls := .type "enumerate", data := .fields #[.none, .bool false, .ref h.objs.size, rawInt 0, .none, .none] }
theorem wp_ite {α : Type} {M : Model} {A : Around} {Q : α → Shared → Prop} {E : Value → Shared → Prop} {s : Shared} {c : Prop} [Decidable c] {a b : Sem α} (h1 : wpAny M A a Q E s) (h2 : wpAny M A b Q E s) : wpAny M A (if c then a else b) Q E s := by
  split
  · exact h1
  · exact h2
theorem meets_enumT (a : Addr) (xs : Array Value) :
    Meets (Builtin.«enumerate.__new__» ⟨[.type "enumerate", .ref a], []⟩) (fun _ R s => s.heap.IsTuple a xs ∧ R (.ok (.ret (.ref (eq1 s.heap a).objs.size))) { s with heap := eq2 s.heap a }) :=
  .of_wp fun prog w A R s h => by
    obtain ⟨hp, g, d, tk, os⟩ := s; obtain ⟨e1, h⟩ := h; have hsub := sub_enumerate
    have f1 : Heap.IsTuple (Shared.heap ⟨hp, g, d, tk, os⟩) a xs := e1
    wp_walk using wpAny_pyIter_tuple f1
    refine wpAny_stack fun st _ _ _ => wpAny_pure ?_
    show wpAny _ _ (if _ then _ else _) _ _ _
    refine wp_ite ?_ ?_
    · wp_walk using wpAny_pyIter_tuple f1
      exact ⟨_, rfl, h⟩
    · wp_walk using wpAny_pyIter_tuple f1
      exact ⟨_, rfl, h⟩
section
variable {prog : Program} {w : World} {A : Around} {E : Value → Shared → Prop} {s : Shared}
theorem call_enumT {a : Addr} {xs : Array Value} {Q : Value → Shared → Prop} (e1 : s.heap.IsTuple a xs)
    (q : ∀ h', IsEnum h' (s.heap.objs.size + 1) s.heap.objs.size 0 .none → h'.IsTupleIter s.heap.objs.size a 0 → h'.objs.size = s.heap.objs.size + 2 → (∀ c o, s.heap.get? c = some o → h'.get? c = some o) → Q (.ref (s.heap.objs.size + 1)) { s with heap := h' }) :
    wpAny (model prog w) A (call (.type "enumerate") [.ref a]) Q E s := by
  refine callType_new F.called_enumerate (by decide) (F.typeCall_enumerate_1 _) (F.newCall_enumerate_1 _) (fun obj => F.args_object_init_2 obj _) F.entry_enumerate_new (meets_enumT a xs) ⟨e1, ?_⟩
  have n1 : (eq1 s.heap a).objs.size = s.heap.objs.size + 1 := Heap.size_push ..
  have n2 : (eq2 s.heap a).objs.size = s.heap.objs.size + 2 := by rw [Heap.size_push, n1]
  have m2 : (eq2 s.heap a).get? (eq1 s.heap a).objs.size = some _ := Heap.get?_push_size _ rfl
  have m1 : (eq2 s.heap a).get? s.heap.objs.size = some _ := Heap.get?_push_of_some _ (Heap.get?_push_size _ rfl)
  show _ ∧ _
  rw [n1] at m2 ⊢
  exact ⟨⟨_, m2, rfl⟩, q _ m2 ⟨_, m1, rfl, rfl⟩ n2 fun c o x => Heap.get?_push_of_some _ (Heap.get?_push_of_some _ x)⟩
theorem draws_tuple (hh : A.handled = none) (it l : Addr) (ne : l ≠ it) (items : Array Value) : Draws prog w A it [it, l] items.size (fun i v => items[i]? = some v) (fun i h => h.IsTupleIter it l i ∧ h.IsTuple l items) where
  live := fun i h st => by
    obtain ⟨⟨o, e, _⟩, _⟩ := st
    exact ⟨o, e⟩
  frame := fun i h h' st k => by
    obtain ⟨s1, o, e, r⟩ := st
    exact ⟨s1.at fun o e => k it (by simp) o e, o, k l (by simp) o e, r⟩
  item := fun i s Q E hi st q => by
    obtain ⟨s1, t1⟩ := st
    refine nextT_item s1 t1 (x := items[i]) (Array.getElem?_eq_getElem hi) fun h' s2 sb => ?_
    refine q _ h' s.toks (Array.getElem?_eq_getElem hi) ⟨s2, ?_⟩ sb
    obtain ⟨o, e, r⟩ := t1
    exact ⟨o, (sb.2 l ne).trans e, r⟩
  done := fun s Q E st q => by
    obtain ⟨s1, t1⟩ := st
    exact nextT_end hh s1 t1 (Array.getElem?_eq_none (Nat.le_refl _)) fun h' e k x => q h' e k x
end
def Iten (K : PySem.W.Frag) (a : Addr) : It :=
  ⟨fun i H => ∃ xs x, SqT K H a xs ∧ xs[i]? = some x,
   fun i H v H' => ∃ T, v = .ref T ∧ H T = none ∧ ∀ xs x, SqT K H a xs → xs[i]? = some x → H' = upd H T (.tup [.int i, x]),
   fun i H => ∃ xs, SqT K H a xs ∧ xs.length = i⟩
def EnumAtT (e it a : Addr) (i : Nat) (h : Heap) : Prop := (∃ old, IsEnum h e it i old) ∧ h.IsTupleIter it a i ∧ a ≠ it ∧ a ≠ e
theorem turn_enumT {P : Program} {w : World} {K : PySem.W.Frag} {elts : List Expr} {kk : Nat} {pos : Pos} {e it a : Addr} (D : e ≠ it) : Turn P w K (.Tuple elts kk pos) (Iten K a) [e, it] e (EnumAtT e it a) where
  mem := by simp
  obj := fun i h st c hc => by
    obtain ⟨⟨old, ez⟩, ⟨o1, e1, c1, d1⟩, _⟩ := st
    simp only [List.mem_cons, List.not_mem_nil, or_false] at hc
    rcases hc with rfl | rfl
    · exact ⟨_, ez, fun v y => by cases y⟩
    · exact ⟨o1, e1, fun v y => by rw [d1] at y; cases y⟩
  keep := fun i h h' st k => by
    obtain ⟨⟨old, ez⟩, s1, ne⟩ := st
    exact ⟨⟨old, k e (by simp) _ ez⟩, s1.at fun o e1 => k it (by simp) o e1, ne⟩
  item := by
    intro X hP hw hK hc i pins s σ H E I hf st hg
    subst hP hw hK
    obtain ⟨⟨old, ez⟩, s1, ne1, ne2⟩ := st
    obtain ⟨xs, x, q1, g1⟩ := hg
    obtain ⟨its1, r1, p1, z1⟩ := I.tuple q1
    obtain ⟨ux, hx, rx⟩ := r1.get g1
    have t1 : s.heap.IsTuple a its1.toArray := p1
    have hi : i < its1.toArray.size := by
      have := (List.getElem?_eq_some_iff.mp hx).1
      simpa using this
    refine wpAny_pyNext_enum_itemD (draws_tuple (A := X.A.in1) (show X.A.in1.handled = none from I.ok.hd hc) it a ne1 its1.toArray) ez ⟨s1, t1⟩ hi D (by simp [D, Ne.symm ne2]) fun u h' tk hu a1 a2 a3 a4 a5 => ⟨_, rfl, ?_⟩
    have eu : u = ux := by
      have h1 : its1.toArray[i]? = some ux := by simpa using hx
      have h2 : its1.toArray[i]? = some u := hu
      rw [h1] at h2
      exact (Option.some.inj h2).symm
    subst eu
    refine wpAny_letOwnedTupleGo_enum (s := { s with heap := h', toks := tk + 1 }) a1 fun h2 b1 b2 => ?_
    have zlt : e < s.heap.objs.size := Heap.lt_size ez
    obtain ⟨o1, e1, _⟩ := id s1
    have lt1 : it < s.heap.objs.size := Heap.lt_size e1
    have fr : H s.heap.objs.size = none := I.hok.fresh (Nat.le_refl _)
    have I0 : Inv X pins σ (upd H s.heap.objs.size (.tup [.int i, x])) { s with heap := s.heap.push { cls := .type "tuple", data := .seq #[.int i tk, u] } } := by
      refine I.laid (t' := s.toks) (fun c o e => Heap.get?_push_of_some _ e) (Nat.le_refl _) ?_
      exact ⟨by show 2 ≤ sizeLine; exact Nat.le_of_lt (small1000 (by decide)), [.int i tk, u], .cons ⟨_, rfl⟩ (.cons rx .nil), ⟨_, Heap.get?_push_size _ rfl, rfl, rfl, _, rfl⟩⟩
    have nlt : ∀ c ∈ [e, it], c ≠ s.heap.objs.size := by
      intro c hc
      simp only [List.mem_cons, List.not_mem_nil, or_false] at hc
      rcases hc with rfl | rfl
      · exact Nat.ne_of_lt zlt
      · exact Nat.ne_of_lt lt1
    have hf0 : ∀ c ∈ [e, it], FpOk X pins (upd H s.heap.objs.size (.tup [.int i, x])) c := fun c hc => by
      obtain ⟨f0, f1⟩ := hf c hc
      exact ⟨by rw [upd_ne (nlt c hc)]; exact f0, f1⟩
    have I1 : Inv X pins σ (upd H s.heap.objs.size (.tup [.int i, x])) { s with heap := h2, toks := tk + 1 } := by
      refine Inv.turnedM (s := { s with heap := s.heap.push { cls := .type "tuple", data := .seq #[.int i tk, u] } }) (h' := h2) (t' := tk + 1) (fp := [e, it]) I0 (fun c o nc e0 => ?_) hf0
      simp only [List.mem_cons, List.not_mem_nil, or_false, not_or] at nc
      obtain ⟨n1, n2⟩ := nc
      rcases Heap.get?_push_cases e0 with ⟨rfl, rfl⟩ | e0
      · exact b2.extBut _ _ n1 a3
      · exact b2.extBut _ _ n1 (a5 c o n1 n2 e0)
    refine ⟨.ref s.heap.objs.size, _, I1, rfl, ⟨_, rfl, fr, fun xs' x' q1' g1' => ?_⟩, ⟨⟨_, by exact_mod_cast b1⟩, a2.1.at fun o e0 => b2.extBut _ _ (Ne.symm D) e0, ne1, ne2⟩, fun c hc => (hf0 c hc).1⟩
    have ex : xs' = xs := I.tuple_inj q1' q1
    subst ex
    rw [g1] at g1'
    cases g1'
    rfl
  done := by
    intro X hP hw hK hc i pins s σ H E I hf st hg
    subst hP hw hK
    obtain ⟨⟨old, ez⟩, s1, ne1, ne2⟩ := st
    obtain ⟨xs, q1, g⟩ := hg
    obtain ⟨its1, r1, p1, z1⟩ := I.tuple q1
    have l1 := r1.length
    have t1 : s.heap.IsTuple a its1.toArray := p1
    have ei : its1.toArray.size = i := by simp; omega
    refine wpAny_pyNext_enum_endD (draws_tuple (A := X.A.in1) (show X.A.in1.handled = none from I.ok.hd hc) it a ne1 its1.toArray) ez (by rw [ei]; exact ⟨s1, t1⟩) fun h' kk => ⟨rfl, ?_⟩
    refine I.turnedM (t' := s.toks) (fp := [e, it]) (fun c o nc e0 => ?_) hf
    simp only [List.mem_cons, List.not_mem_nil, or_false, not_or] at nc
    exact kk c o nc.2 e0
  self := fun _ _ _ _ _ st h => by
    obtain ⟨⟨old, ez⟩, _⟩ := st
    exact wpAny_pyIter_enum ez h
section
variable {X : Cx}
def iEnumT (K : PySem.W.Frag) (ta : TA) : TI := fun σ H R => ta σ H fun vs H1 => ∃ a xs, vs = [.ref a] ∧ SqT K H1 a xs ∧ R (Iten K a) H1
theorem pi_enumT {a : Expr} {ta : TA} {p pos : Pos} {elts : List Expr} {kk : Nat} {tp : Pos} (hg : Gl X "enumerate") (hm : X.mg "enumerate" = none) (ha : PA X [a] ta) (hs : starEach [a] X.env = [(false, eval a X.env)] := by rfl) :
    PI X (.Tuple elts kk tp) (.Call (.Name "enumerate" p) [a] [] pos) (iEnumT X.K ta) := by
  intro pins s σ H R I h
  refine Call_ (ld_blt I hg hm (show bootBuiltins "enumerate" = some (.type "enumerate") by decide +kernel) (PyProof.Rows.callWith_type1 (thn (ha pos pins s σ H _ I h) fun us s1 ⟨vs, H1, I1, r1, q1⟩ => ?_) (by rw [hs]; rfl) (by rfl)))
  obtain ⟨ea, xs, rfl, h1, q⟩ := q1
  obtain ⟨u1, rfl, rr1⟩ := vals1 r1
  cases rr1
  obtain ⟨its1, v1, p1, z1⟩ := I1.tuple h1
  have t1 : s1.heap.IsTuple ea its1.toArray := p1
  obtain ⟨oa, eoa, _⟩ := id t1
  have la : ea < s1.heap.objs.size := Heap.lt_size eoa
  refine call_enumT t1 fun h' c1 c2 c3 c4 => ?_
  refine wpAny_pyIter_enum (s := { s1 with heap := h' }) c1 ?_
  refine ⟨s1.heap.objs.size + 1, [s1.heap.objs.size + 1, s1.heap.objs.size], _, _, H1, rfl, I1.kept (t' := s1.toks) c4, turn_enumT (Nat.succ_ne_self _), ⟨⟨_, c1⟩, c2, Nat.ne_of_lt la, Nat.ne_of_lt (Nat.lt_succ_of_lt la)⟩, fun c hc => ?_, q⟩
  have hge : s1.heap.objs.size ≤ c := by
    simp only [List.mem_cons, List.not_mem_nil, or_false] at hc
    rcases hc with rfl | rfl
    · exact Nat.le_add_right _ 1
    · exact Nat.le_refl _
  exact I1.fpOk hge (I1.hok.fresh hge)
theorem for_enumT {K : PySem.W.Frag} {a : Addr} {xs : List V} {g : TG} {tb : TS} {D : Ends} {σ : St} {H : Hp} (Pv : Nat → St → Hp → Prop) (h0 : Pv 0 σ H) (hl : ∀ i σ H, i ≤ xs.length → Pv i σ H → SqT K H a xs)
    (hs : ∀ i x T σ H, xs[i]? = some x → H T = none → Pv i σ H → g (.ref T) σ (upd H T (.tup [.int i, x])) fun σ2 H2 => tb { D with nx := Pv (i + 1), ct := Pv (i + 1), bk := D.nx } σ2 H2) (hd : ∀ σ H, Pv xs.length σ H → D.nx σ H) :
    ∃ W : Nat → Nat → St → Hp → Prop, (∃ m, W 0 m σ H) ∧ ∀ i m σ H, W i m σ H →
      ((Iten K a).stop i H ∧ D.nx σ H) ∨ ((Iten K a).go i H ∧ ∃ N : St → Hp → Prop, (∀ σ' H', N σ' H' → ∃ m', m' < m ∧ W (i + 1) m' σ' H') ∧ ∀ x H', (Iten K a).yld i H x H' → g x σ H' fun σ2 H2 => tb { D with nx := N, ct := N, bk := D.nx } σ2 H2) := by
  refine ⟨fun i m σ H => m = xs.length - i ∧ i ≤ xs.length ∧ Pv i σ H, ⟨xs.length, rfl, Nat.zero_le _, h0⟩, ?_⟩
  rintro i m σ H ⟨rfl, hi, p⟩
  have q1 := hl i σ H hi p
  rcases Nat.lt_or_ge i xs.length with hlt | hge
  · refine .inr ⟨⟨xs, xs[i], q1, List.getElem?_eq_getElem hlt⟩, Pv (i + 1), fun σ' H' p' => ⟨xs.length - (i + 1), by omega, rfl, hlt, p'⟩, fun x H' y => ?_⟩
    obtain ⟨T, rfl, hT, e⟩ := y
    have e' := e xs xs[i] q1 (List.getElem?_eq_getElem hlt)
    subst e'
    exact hs i xs[i] T σ H (List.getElem?_eq_getElem hlt) hT p
  · have e : i = xs.length := by omega
    subst e
    exact .inl ⟨⟨xs, q1, rfl⟩, hd σ H p⟩
/-! ### a tuple's count -/
def rCountT : V → List V → Hp → VK → Prop := fun x vs H Q => ∃ (p : Addr) (xs : List V) (y : V), x = .ref p ∧ vs = [y] ∧ H p = some (.tup xs) ∧ flatV y = true ∧ xs.all flatV = true ∧ Q (.int ((xs.countP fun z => eqV z y : Nat) : Int)) H
def tBMT (r : V → List V → Hp → VK → Prop) (to : TE) (t : TA) : TE := fun σ H Q => to σ H fun x H1 => (∃ p xs, x = .ref p ∧ H1 p = some (.tup xs)) ∧ t σ H1 fun xs H2 => r x xs H2 Q
variable {o e : Expr} {es : List Expr} {to : TE} {t : TA} {name : Str} {apos cpos : Pos} {id : String} {r : V → List V → Hp → VK → Prop}
theorem pe_bmT (slot : Slot "tuple" name id) (hty : typeOf (.builtin id) = pure (.type "method_descriptor")) (hm : MtM X id r) (ho : PE X o to) (ha : PA X (e :: es) t)
    (hbase : attributeBase o name X.env (eval o X.env) = eval o X.env := by rfl)
    (hfew : ((backTo cpos (starEach (e :: es) X.env)).all (fun x => !x.1) && (backToKw cpos (keywordEach [] X.env)).all (fun x => x.1.isSome)
      && decide ((e :: es).length + ([] : List Keyword).length + (if ([] : List Keyword).isEmpty then 0 else 1) < 30)) = true := by rfl)
    (hline : (apos.endLine == cpos.line) = true := by rfl) (hs : starEach (e :: es) X.env = (false, eval e X.env) :: starEach es X.env := by rfl) (hplain : (backTo cpos (starEach es X.env)).any (·.1) = false := by rfl) :
    PE X (.Call (.Attribute o name apos) (e :: es) [] cpos) (tBMT r to t) := by
  intro pins s σ H Q I h
  refine wpAny_Call_method_late hbase hfew hline rfl (thn (ho pins s σ H _ I h) fun v s1 ⟨x, H1, I1, r1, ⟨p, xs, ex, hp⟩, q1⟩ => ?_)
  subst ex
  cases r1
  obtain ⟨_, its, rv, ob, e1, e2, e3, _⟩ := (show ObjOk X.prog X.w H1 s1.heap p (.tup xs) from I1.hok p _ hp)
  refine ⟨"tuple", id, F.plainAttrs_tuple, slot, hty, ⟨ob, e1, e2⟩, fun a e => ?_, ?_⟩
  · cases e
    exact ⟨ob, e1, e3⟩
  have hA := ha cpos pins s1 σ H1 _ I1 q1
  rw [hs] at hA ⊢
  refine Calls.callWith_builtin (by show (false || (backTo cpos (starEach es X.env)).any (·.1)) = false; rw [hplain] <;> rfl) (Calls.evalArgs_plain ?_)
  exact thn hA fun us s2 ⟨vs, H2, I2, r2, q2⟩ => hm pins s2 σ H2 (.ref p) vs _ us Q I2 rfl r2 q2
theorem countP_vals {y : V} : ∀ {xs : List V} {its : List Value}, Vals xs its → xs.all flatV = true → its.countP (eqU y) = xs.countP fun z => eqV z y
  | _, _, .nil, _ => rfl
  | x :: xs, u :: its, .cons r t, h => by
    rw [List.all_cons, Bool.and_eq_true] at h
    rw [List.countP_cons, List.countP_cons, eqU_of r h.1, countP_vals t h.2]
theorem mt_countT : MtM X "tuple.count" rCountT := by
  intro pins s σ H x vs v us Q I rx rv h
  obtain ⟨p, xs, y, rfl, rfl, hp, fy, fs, q⟩ := h
  cases rx
  obtain ⟨u, rfl, ru⟩ := rv.one
  obtain ⟨hz, its, r, ob, e1, e2, e3, n, e4⟩ := (show ObjOk X.prog X.w H s.heap p (.tup xs) from I.hok p _ hp)
  obtain ⟨c1, c2, c3, c4⟩ := ob
  dsimp only at e2 e3 e4
  subst e2 e3 e4
  refine call_meets F.slot_tuple_count ⟨_, e1, rfl⟩ F.entry_tuple_count (F.args_tuple_count_2 _ _) (SeqAt.tuple_countAt p its.toArray n none c4 u (eqU y)) ⟨e1, fun w' hw => mem_eqAt ru fy r fs w' (by simpa using hw), ?_⟩
  refine ⟨.int ((its.countP (eqU y) : Nat) : Int), H, I.kept (t' := s.toks + 1) fun b o e => e, ⟨s.toks, rfl⟩, ?_⟩
  rw [countP_vals r fs]
  exact q
end
end L2
set_option maxHeartbeats 4000000
namespace L2
open PySem PySem.Spec PyProof.Rows
section
variable {X : Cx}
/-! ### a slice of a list with a step -/
/-! ### two tuples, alike or not -/
inductive EqI (K : PySem.W.Frag) (H : Hp) : V → V → Bool → Prop
  | flat {x y : V} : flatV x = true → flatV y = true → EqI K H x y (eqV x y)
  | tb {a : Addr} {xs : List V} {b : Bool} : SqT K H a xs → EqI K H (.ref a) (.bl b) false
  | lb {a : Addr} {xs : List V} {b : Bool} : SqL K H a xs → EqI K H (.ref a) (.bl b) false
/-! ### a def with defaults -/
structure FunD (K : PySem.W.Frag) (x qual : Str) (st : Stmt) (f : Addr) (fd : FuncData) : Prop where
  ex : ∃ (oc : Value) (od : Option Addr) (dV kV doc pm : Value) (an : Option Addr) (cdv ct : Value) (osl : Array (Option Value)),
    fd = PySem.W.fnOf x qual (defArgs st) (defBody st) (defScope st) dV kV doc pm an cdv ct ∧ K.lookup f = some ⟨oc, od, .func fd, osl⟩ ∧ PySem.W.codeIn K cdv qual = true
  kp : PySem.W.keepIn K (.ref f) = true
end
end L2
set_option maxHeartbeats 4000000
namespace L2
open PySem PySem.Spec PyProof.Rows
/-! ### defs that raise -/
theorem Fun.okX {P : Program} {w : World} {K : PySem.W.Frag} {mg : Str → Option Value} {base : Heap} {x qual : Str} {st : Stmt} {f : Addr} {fd : FuncData} {N ps : List Str} {k : Nat} {sp : Sp} (F : Fun K x qual st f fd) (S : FnScope N ps (defScope st)) (len : ∀ vs H Q E, sp vs H Q E → vs.length = ps.length)
    (hbody : ∀ (cdv : Value) (A : Around) (outer : List Env) (s : Shared) (H : Hp) (vs : List V) (Q : VK) (E : XK), Room k (A.deeper (envOfC qual (defScope st) s.heap.objs.size f cdv)) → sp vs H Q E →
      ∃ t, PSs (cxOf (CXe P w) P w K mg base N qual (defScope st) f cdv A outer s H E) (defBody st) t ∧ t { nx := fun _ H' => Q .non H', rt := Q } (start N vs) H) : FnOk P w K mg base (CXe P w) (k + 1) f fd ps sp := by
  obtain ⟨oc, od, kV, doc, pm, an, cdv, ct, osl, rfl, lk, hcd⟩ := F.ex
  exact fn_of lk hcd S len fun A outer s H vs Q E hr hsp => hbody cdv A outer s H vs Q E hr hsp
theorem FunD.okX {P : Program} {w : World} {K : PySem.W.Frag} {mg : Str → Option Value} {base : Heap} {x qual : Str} {st : Stmt} {f : Addr} {fd : FuncData} {N ps : List Str} {k : Nat} {sp : Sp} (F : FunD K x qual st f fd) (S : FnScope N ps (defScope st)) (len : ∀ vs H Q E, sp vs H Q E → vs.length = ps.length)
    (hbody : ∀ (cdv : Value) (A : Around) (outer : List Env) (s : Shared) (H : Hp) (vs : List V) (Q : VK) (E : XK), Room k (A.deeper (envOfC qual (defScope st) s.heap.objs.size f cdv)) → sp vs H Q E →
      ∃ t, PSs (cxOf (CXe P w) P w K mg base N qual (defScope st) f cdv A outer s H E) (defBody st) t ∧ t { nx := fun _ H' => Q .non H', rt := Q } (start N vs) H) : FnOk P w K mg base (CXe P w) (k + 1) f fd ps sp := by
  obtain ⟨oc, od, dV, kV, doc, pm, an, cdv, ct, osl, rfl, lk, hcd⟩ := F.ex
  exact fn_of lk hcd S len fun A outer s H vs Q E hr hsp => hbody cdv A outer s H vs Q E hr hsp
/-! ### a class called that may raise -/
section
variable {X : Cx} {pins : List (Addr × Obj)} {σ : St} {H : Hp} {s : Shared} {CX : CXT} {k : Nat} {f C : Addr} {fd : FuncData} {ps : List Str} {sp : Sp} {dvs : List V} {ds : List Value} {E : XK} {x m : Str} {p pos apos : Pos} {e o : Expr} {es : List Expr} {ta : TE} {t : TA}
theorem run_makeA {Q : VK} {us : List Value} {vs : List V} (M : Mk X.K C f) (F : FnOk X.prog X.w X.K X.mg X.base CX k f fd ps sp) (hr : Room (k + 1) X.A) (hb : Binds X.K fd ps ds) (hd : Vals dvs ds)
    (hx : PassA CX X pins σ E) (I : Inv X pins σ H s) (r : Vals vs us)
    (h : ∀ x dx, H x = none → H dx = none → dx ≠ x → sp (.ref x :: (vs ++ dvs)) (upd (upd H dx (.own x)) x (.ins C dx [])) (fun v H2 => v = .non ∧ Q (.ref x) H2) E) :
    wpAny (model X.prog X.w) X.A (call (.ref C) us) (EP X pins σ Q) X.xe s := by
  have hq := h (s.heap.objs.size + 1) s.heap.objs.size (I.hok.fresh (Nat.le_succ _)) (I.hok.fresh (Nat.le_refl _)) (Nat.ne_of_lt (Nat.lt_succ_self _))
  have I2 := Inv.made (C := C) I
  have r2 : Vals (V.ref (s.heap.objs.size + 1) :: (vs ++ dvs)) (Value.ref (s.heap.objs.size + 1) :: (us ++ ds)) := .cons rfl (r.append hd)
  have hl : (Value.ref (s.heap.objs.size + 1) :: us ++ ds).length = ps.length := by
    have e := r2.length
    rw [F.len _ _ _ _ hq] at e
    exact e.symm
  refine wpAny_call (make_map (f := f) I.kIn M.makes M.init (beq_iff_eq.mp M.fn) (codeAny_mono (F.run _ X.stack _ _ ⟨Value.ref (s.heap.objs.size + 1) :: us, []⟩ (Value.ref (s.heap.objs.size + 1) :: (us ++ ds)) _ _ E (hr.make C us [])
    (I2.env0.make C us []) (hb _ (Value.ref (s.heap.objs.size + 1) :: us) I2.kIn hl) r2 hq) fun r s' hq' => ?_))
  cases r with
  | error e => exact hx _ _ e s' I2 hq'
  | ok fl =>
    cases fl with
    | ret u =>
      obtain ⟨v, H', I3, rv, ev, q3⟩ := I2.after hq'
      subst ev
      exact ⟨rv, ⟨V.ref (s.heap.objs.size + 1), H', I3, rfl, q3⟩⟩
    | next => exact False.elim hq'
    | brk => exact False.elim hq'
    | cont => exact False.elim hq'
theorem pe_makeA (M : Mk X.K C f) (F : FnOk X.prog X.w X.K X.mg X.base CX k f fd ps sp) (hr : Room (k + 1) X.A) (hg : Gl X x) (hm : X.mg x = some (.ref C)) (hb : Binds X.K fd ps ds) (hd : Vals dvs ds) (hx : PassA CX X pins σ E)
    (ha : PA X (e :: es) t) (hdb : (x == ("__debug__" : Str)) = false := by decide) (he : starEach (e :: es) X.env = (false, eval e X.env) :: starEach es X.env := by rfl) (hpl : (backTo pos (starEach es X.env)).any (·.1) = false := by rfl) :
    PEa X pins σ (.Call (.Name x p) (e :: es) [] pos) (tMake C sp dvs E t) := by
  intro s H Q I h
  refine wpAny_Call_Name_kw (ld_glob I hg hm ?_ hdb)
  exact PySem.W.callWith_K (h₀ := X.base) I.ok.mod.kin M.kp (thn (ha pos pins s σ H _ I h) fun us s1 ⟨vs, H1, I1, r, q⟩ => ⟨I1.kIn, run_makeA M F hr hb hd hx I1 r q⟩) he hpl
end
/-! ### a def called within an except suite -/
structure RoomH (k : Nat) (A : Around) : Prop where
  dp : A.depth + 3 * k + 5 < recursionLimit
  un : A.units + 16 * k + 200 < cLine
theorem RoomH.deeper {k : Nat} {A : Around} (r : RoomH (k + 1) A) (env : Env) : RoomH k (A.deeper env) :=
  ⟨by have := r.dp; show A.depth + 1 + 3 * k + 5 < _; omega, by have := r.un; show A.units + 3 + 16 * k + 200 < _; omega⟩
theorem RoomH.mark {k : Nat} {A : Around} {v : Option Value} (r : Room k A) : RoomH k (A.mark v) := ⟨r.dp, r.un⟩
theorem RoomH.depth {k : Nat} {A : Around} (r : RoomH k A) : A.depth < recursionLimit := by have := r.dp; omega
structure FnH (P : Program) (w : World) (K : PySem.W.Frag) (mg : Str → Option Value) (base : Heap) (CX : CXT) (k : Nat) (f : Addr) (fd : FuncData) (ps : List Str) (sp : Sp) : Prop where
  len : ∀ vs H Q E, sp vs H Q E → vs.length = ps.length
  run : ∀ (A : Around) (outer : List Env) (s : Shared) (H : Hp) (args : Args) (us : List Value) (vs : List V) (Q : VK) (E : XK), RoomH k A → Env0 P w K mg base A outer s H → BindsTo s fd args (ps.zip us) → Vals vs us → sp vs H Q E →
    codeAny (model P w) A (.call (.ref f) args) (CR CX outer P w H s Q E) s
def cxOfH (CX : CXT) (P : Program) (w : World) (K : PySem.W.Frag) (mg : Str → Option Value) (base : Heap) (N : List Str) (qual : Str) (scope : Scope) (f : Addr) (cd : Value) (A : Around) (outer : List Env) (s : Shared) (H : Hp) (E : XK) : Cx := { cxOf CX P w K mg base N qual scope f cd A outer s H E with calm := false }
theorem inv_startH {CX : CXT} {P : Program} {w : World} {K : PySem.W.Frag} {mg : Str → Option Value} {base : Heap} {N ps : List Str} {qual : Str} {scope : Scope} {f : Addr} {cd : Value} {A : Around} {outer : List Env} {s s1 : Shared} {H : Hp} {E : XK} {us : List Value} {vs : List V}
    (S : FnScope N ps scope) (e0 : Env0 P w K mg base A outer s H) (hl : vs.length = ps.length) (r : Vals vs us)
    (x : InCallC s s.heap.objs.size (bindL (envOfC qual scope s.heap.objs.size f cd).kindOf (ps.zip us) fun _ => none) (cellsFrom (s.heap.objs.size + 1) scope.names []) (bindC (envOfC qual scope s.heap.objs.size f cd).kindOf (ps.zip us) fun _ => none) s1) :
    Inv (cxOfH CX P w K mg base N qual scope f cd A outer s H E) [] (start N vs) H s1 := by
  have hpl : ps.length ≤ N.length := by have := congrArg List.length S.pre; rw [List.length_take] at this; omega
  obtain ⟨h1, tk, rfl, hk⟩ := x.done
  have noA : ∀ b : Addr, b ∉ (cxOfH CX P w K mg base N qual scope f cd A outer s H E).ex := fun b z => absurd (show b ∈ ([] : List Addr) from z) (by simp)
  refine ⟨⟨e0.mod, S.kind, rfl, rfl, Nat.le_refl _, fun y z c h1 h2 => ?_, fun y hy => ?_, fun y c _ h => ?_, fun z => (by cases z), Around.frames_deeper e0.frames, .inr ⟨rfl, rfl⟩, fun b z => absurd z (noA b), e0.bs, e0.bsz, fun b _ _ => noA b, fun b z => absurd z (noA b), e0.funs, e0.frf⟩,
    rfl, e0.bare, Un.kept hk, ⟨_, x.toInCall.ns, fun i y v h1 h2 h3 => ?_⟩, fun y c h => ⟨_, x.cell y c h⟩, e0.hok.fresh (Nat.le_refl _), fun y c h => ?_, fun p hp => absurd (show p ∈ ([] : List (Addr × Obj)) from hp) (by simp), e0.hok.kept hk, ?_⟩
  · exact name_of_addr x.apart (PySem.mem_of_lookup h1) (PySem.mem_of_lookup h2)
  · have hy : scope.names.lookup y = some .cell ∨ scope.names.lookup y = some .free := hy
    rcases hy with hy | hy
    · exact cell_has hy
    · exact absurd rfl (S.nofree _ (PySem.mem_of_lookup hy))
  · exact Nat.le_of_lt (x.above y c (PySem.mem_of_lookup h))
  · have hi : i < vs.length := by
      unfold start at h2
      by_cases hi : i < vs.length
      · exact hi
      · rw [List.getElem?_append_right (by simpa using hi)] at h2
        rw [List.getElem?_replicate] at h2
        split at h2 <;> cases h2
    have ha : vs[i]? = some v := by
      unfold start at h2
      rw [List.getElem?_append_left (by simpa using hi), List.getElem?_map] at h2
      cases e : vs[i]? with
      | none => rw [e] at h2; cases h2
      | some a => rw [e] at h2; cases h2; rfl
    obtain ⟨u, hu, rv⟩ := r.get ha
    have hp : ps[i]? = some y := by
      rw [← S.pre, List.getElem?_take_of_lt (by omega)]; exact h1
    have ndP : ps.Nodup := by rw [← S.pre]; exact S.nd.sublist (List.take_sublist _ _)
    refine ⟨u, rv, ?_⟩
    rcases S.par y (List.mem_of_getElem? hp) with k | k
    · exact .inl ⟨k, bindL_get ndP hp hu k⟩
    · obtain ⟨c, e⟩ := cell_has (n := s.heap.objs.size + 1) k
      refine .inr ⟨.inl k, c, e, ?_⟩
      have q := x.cell y c e
      rw [bindC_get ndP hp hu (by show scope.names.lookup y ≠ _; rw [k]; decide)] at q
      exact q
  · exact e0.hok.fresh (Nat.le_of_lt (x.above y c (PySem.mem_of_lookup h)))
  · unfold start
    show _ = N.length
    rw [List.length_append, List.length_map, List.length_replicate]
    omega

theorem fn_ofH {CX : CXT} {P : Program} {w : World} {K : PySem.W.Frag} {mg : Str → Option Value} {base : Heap} {k : Nat} {f : Addr} {name qual : Str} {params : Arguments} {body : List Stmt} {scope : Scope} {dV kV doc pm cdv ct oc : Value} {an od : Option Addr}
    {osl : Array (Option Value)} {N ps : List Str} {sp : Sp} (lk : K.lookup f = some ⟨oc, od, .func (PySem.W.fnOf name qual params body scope dV kV doc pm an cdv ct), osl⟩) (hcd : PySem.W.codeIn K cdv qual = true) (S : FnScope N ps scope)
    (len : ∀ vs H Q E, sp vs H Q E → vs.length = ps.length)
    (hbody : ∀ (A : Around) (outer : List Env) (s : Shared) (H : Hp) (vs : List V) (Q : VK) (E : XK), RoomH k (A.deeper (envOfC qual scope s.heap.objs.size f cdv)) → sp vs H Q E →
      ∃ t, PSs (cxOfH CX P w K mg base N qual scope f cdv A outer s H E) body t ∧ t { nx := fun _ H' => Q .non H', rt := Q } (start N vs) H) :
    FnH P w K mg base CX (k + 1) f (PySem.W.fnOf name qual params body scope dV kV doc pm an cdv ct) ps sp := by
  refine ⟨len, fun A outer s H args us vs Q E hr e0 hb r hsp => ?_⟩
  have hl := len _ _ _ _ hsp
  have KX : K.In s.heap := e0.mod.kin.keeps fun b o e => (e0.bs b o e).1
  have lim : s.heap.NoLimit := e0.mod.nolimit.keeps fun b o e => (e0.bs b o e).1
  have hkind : ∀ y ∈ ps.zip us, scope.names.lookup y.1 = some .local ∨ (scope.names.lookup y.1 = some .cell ∧ ((cellsFrom (s.heap.objs.size + 1) scope.names []).lookup y.1).isSome = true) := fun ⟨n, v⟩ hy => by
    rcases S.par n (List.of_mem_zip hy).1 with q | q
    · exact .inl q
    · exact .inr ⟨q, PySem.W.cellsFrom_some _ _ _ (.inl q)⟩
  refine codeAny_call_function hr.depth (KX _ _ lk) rfl S.co S.gen rfl (PySem.W.codeRec_of KX hcd) (hb _ _ _ _ ?_)
  refine wpAny_newFunctionEnv_cells S.kind hkind fun env he s1 x => ?_
  subst he
  refine ⟨lim.keeps x.toInCall.keep, codeAny_func ?_⟩
  obtain ⟨t, ht, hq⟩ := hbody A outer s H vs Q E (hr.deeper _) hsp
  have I : Inv (cxOfH CX P w K mg base N qual scope f cdv A outer s H E) [] (start N vs) H s1 := inv_startH S e0 hl r x
  refine wpAny_mono (ht [] s1 (start N vs) H _ I hq) (fun fl s' hs => ?_) fun e s' hs => hs
  have fin : ∀ {σ' : St} {H' : Hp} {v : V} {u : Value}, Inv (cxOfH CX P w K mg base N qual scope f cdv A outer s H E) [] σ' H' s' → RelV v u → Q v H' → CE outer P w H s Q u s' :=
    fun {σ' H' v u} J rv q => ⟨v, H', J.os, J.bare, J.base, J.hok, rv, q⟩
  cases fl with
  | ret u =>
    obtain ⟨v, σ', H', J, rv, q⟩ := hs
    exact fin J rv q
  | next =>
    obtain ⟨σ', H', J, q⟩ := hs
    exact fin (v := V.non) (u := Value.none) J rfl q
  | brk =>
    obtain ⟨_, _, _, q⟩ := hs
    exact False.elim q
  | cont =>
    obtain ⟨_, _, _, q⟩ := hs
    exact False.elim q

theorem Fun.okH {P : Program} {w : World} {K : PySem.W.Frag} {mg : Str → Option Value} {base : Heap} {x qual : Str} {st : Stmt} {f : Addr} {fd : FuncData} {N ps : List Str} {k : Nat} {sp : Sp} (F : Fun K x qual st f fd) (S : FnScope N ps (defScope st)) (len : ∀ vs H Q E, sp vs H Q E → vs.length = ps.length)
    (hbody : ∀ (cdv : Value) (A : Around) (outer : List Env) (s : Shared) (H : Hp) (vs : List V) (Q : VK) (E : XK), RoomH k (A.deeper (envOfC qual (defScope st) s.heap.objs.size f cdv)) → sp vs H Q E →
      ∃ t, PSs (cxOfH CX0 P w K mg base N qual (defScope st) f cdv A outer s H E).nox (defBody st) t ∧ t { nx := fun _ H' => Q .non H', rt := Q } (start N vs) H) : FnH P w K mg base CX0 (k + 1) f fd ps sp := by
  obtain ⟨oc, od, kV, doc, pm, an, cdv, ct, osl, rfl, lk, hcd⟩ := F.ex
  refine fn_ofH lk hcd S len fun A outer s H vs Q E hr hsp => ?_
  obtain ⟨t, h, q⟩ := hbody cdv A outer s H vs Q E hr hsp
  exact ⟨t, h.nox, q⟩
section
variable {X : Cx} {k : Nat} {f : Addr} {fd : FuncData} {ps : List Str} {sp : Sp} {x : Str} {p pos : Pos} {e : Expr} {es : List Expr} {t : TA}
theorem pe_callH {K : PySem.W.Frag} {mg : Str → Option Value} (hK : X.K = K) (hmg : X.mg = mg) (F : FnH X.prog X.w K mg X.base CX0 k f fd ps sp) (hr : RoomH k X.A) (hg : Gl X x) (hm : mg x = some (.ref f)) (hk : PySem.W.keepIn K (.ref f) = true) (hb : Binds K fd ps [])
    (ha : PA X (e :: es) t) (hdb : (x == ("__debug__" : Str)) = false := by decide) (he : starEach (e :: es) X.env = (false, eval e X.env) :: starEach es X.env := by rfl) (hpl : (backTo pos (starEach es X.env)).any (·.1) = false := by rfl) :
    PE X (.Call (.Name x p) (e :: es) [] pos) (tCall sp [] E0 t) := by
  subst hK hmg
  intro pins s σ H Q I h
  refine wpAny_Call_Name_kw (ld_glob I hg hm ?_ hdb)
  refine PySem.W.callWith_K (h₀ := X.base) I.ok.mod.kin hk (thn (ha pos pins s σ H _ I h) fun us s1 ⟨vs, H1, I1, r, q⟩ => ⟨I1.kIn, ?_⟩) he hpl
  have r2 : Vals (vs ++ []) (us ++ []) := r.append .nil
  have hl : (us ++ []).length = ps.length := by rw [← r2.length]; exact F.len _ _ _ _ q
  refine wpAny_call (codeAny_mono (F.run X.A X.stack s1 H1 ⟨us, []⟩ (us ++ []) (vs ++ []) Q E0 hr I1.env0 (hb s1 us I1.kIn hl) r2 q) fun r s' hq => ?_)
  cases r with
  | error e => exact False.elim hq
  | ok fl =>
    cases fl with
    | ret u => exact I1.after hq
    | next => exact False.elim hq
    | brk => exact False.elim hq
    | cont => exact False.elim hq
end
end L2
/-! ### conditions as data -/
namespace CD
open PySem L2 PyProof.Rows
inductive Cd where
  | truth (b : Bool)
  | same (x y : Key)
  | all (l : List Cd)
  | one (l : List Cd)
  | opp (c : Cd)
def come (f : Str → Int) : Key → Int
  | .inl i => i
  | .inr x => f x
mutual
def ev (f : Str → Int) : Cd → Bool
  | .truth b => b
  | .same x y => come f x == come f y
  | .all l => evA f l
  | .one l => evO f l
  | .opp c => !ev f c
def evA (f : Str → Int) : List Cd → Bool
  | [] => true
  | c :: r => ev f c && evA f r
def evO (f : Str → Int) : List Cd → Bool
  | [] => false
  | c :: r => ev f c || evO f r
end
mutual
def cells : Cd → List Key
  | .truth _ => []
  | .same x y => [x, y]
  | .all l => cellsL l
  | .one l => cellsL l
  | .opp c => cells c
def cellsL : List Cd → List Key
  | [] => []
  | c :: r => cells c ++ cellsL r
end
mutual
def atoms : Cd → Int
  | .truth _ => 0
  | .same _ _ => 1
  | .all l => atomsL l
  | .one l => atomsL l
  | .opp c => atoms c
def atomsL : List Cd → Int
  | [] => 0
  | c :: r => atoms c + atomsL r
end
mutual
def depth : Cd → Nat
  | .truth _ => 1
  | .same _ _ => 1
  | .all l => depthL l + 1
  | .one l => depthL l + 1
  | .opp c => depth c + 1
def depthL : List Cd → Nat
  | [] => 0
  | c :: r => max (depth c) (depthL r)
end
mutual
/-- the same at fillings that are alike at the gaps -/
theorem ev_congr {f g : Str → Int} : ∀ c : Cd, (∀ x, Sum.inr x ∈ cells c → f x = g x) → ev f c = ev g c
  | .truth _, _ => by simp [ev]
  | .same x y, h => by
    have hx : come f x = come g x := by
      cases x with
      | inl i => rfl
      | inr s => exact h s (by simp [cells])
    have hy : come f y = come g y := by
      cases y with
      | inl i => rfl
      | inr s => exact h s (by simp [cells])
    simp [ev, hx, hy]
  | .all l, h => by simp only [ev]; exact (evL_congr l h).1
  | .one l, h => by simp only [ev]; exact (evL_congr l h).2
  | .opp c, h => by simp only [ev]; rw [ev_congr c (fun x hx => h x (by simpa [cells] using hx))]
theorem evL_congr {f g : Str → Int} : ∀ l : List Cd, (∀ x, Sum.inr x ∈ cellsL l → f x = g x) → evA f l = evA g l ∧ evO f l = evO g l
  | [], _ => ⟨rfl, rfl⟩
  | c :: r, h => by
    have h1 := ev_congr c (fun x hx => h x (by simp [cellsL, hx]))
    have h2 := evL_congr r (fun x hx => h x (by simp [cellsL, hx]))
    simp only [evA, evO, h1, h2.1, h2.2, and_self]
end
/-! ### small facts -/
theorem nodup_sub {α : Type} [DecidableEq α] : ∀ {l m : List α}, l.Nodup → (∀ x ∈ l, x ∈ m) → l.length ≤ m.length
  | [], m, _, _ => Nat.zero_le _
  | a :: r, m, h, hs => by
    obtain ⟨h1, h2⟩ := List.nodup_cons.mp h
    have ha := hs a List.mem_cons_self
    have := nodup_sub (l := r) (m := m.erase a) h2 (fun x hx => (List.mem_erase_of_ne (show x ≠ a from fun e => h1 (e ▸ hx))).mpr (hs x (List.mem_cons_of_mem _ hx)))
    rw [List.length_erase_of_mem ha] at this
    have hp : 0 < m.length := List.length_pos_of_mem ha
    rw [List.length_cons]
    omega
def strsIn (l : List Key) : List Str := l.filterMap fun k => match k with | .inl _ => none | .inr x => some x
def intsIn (l : List Key) : List Int := l.filterMap fun k => match k with | .inl i => some i | .inr _ => none
theorem mem_strsIn {l : List Key} {x : Str} : x ∈ strsIn l ↔ Sum.inr x ∈ l := by
  unfold strsIn
  rw [List.mem_filterMap]
  constructor
  · rintro ⟨k, hk, e⟩
    cases k with
    | inl i => cases e
    | inr y => cases e; exact hk
  · intro h; exact ⟨_, h, rfl⟩
theorem mem_intsIn {l : List Key} {x : Int} : x ∈ intsIn l ↔ Sum.inl x ∈ l := by
  unfold intsIn
  rw [List.mem_filterMap]
  constructor
  · rintro ⟨k, hk, e⟩
    cases k with
    | inl i => cases e; exact hk
    | inr y => cases e
  · intro h; exact ⟨_, h, rfl⟩
/-- a list of keys that are all texts -/
theorem allStr : ∀ {ks : List Key}, (∀ k ∈ ks, ∃ x, k = Sum.inr x) → ∃ xs : List Str, ks = xs.map Sum.inr
  | [], _ => ⟨[], rfl⟩
  | k :: r, h => by
    obtain ⟨x, rfl⟩ := h k List.mem_cons_self
    obtain ⟨xs, e⟩ := allStr (ks := r) fun k hk => h k (List.mem_cons_of_mem _ hk)
    exact ⟨x :: xs, by rw [e]; rfl⟩
theorem allInt : ∀ {ks : List Key}, (∀ k ∈ ks, ∃ x, k = Sum.inl x) → ∃ xs : List Int, ks = xs.map Sum.inl
  | [], _ => ⟨[], rfl⟩
  | k :: r, h => by
    obtain ⟨x, rfl⟩ := h k List.mem_cons_self
    obtain ⟨xs, e⟩ := allInt (ks := r) fun k hk => h k (List.mem_cons_of_mem _ hk)
    exact ⟨x :: xs, by rw [e]; rfl⟩
theorem nodup_of_map {α β : Type} {f : α → β} : ∀ {l : List α}, (l.map f).Nodup → l.Nodup
  | [], _ => List.nodup_nil
  | a :: r, h => by
    rw [List.map_cons, List.nodup_cons] at h
    exact List.nodup_cons.mpr ⟨fun hm => h.1 (List.mem_map.mpr ⟨a, hm, rfl⟩), nodup_of_map h.2⟩
end CD
set_option maxHeartbeats 4000000
namespace K32
open PySem L2 CD
def top (i : Nat) : Stmt := PySem.Challenge.pw_maybetables_k32_tables_refused.main.body.getD i (.Pass ⟨0, 0, 0, 0⟩)
abbrev sGapsA : Stmt := top 14
abbrev sValsA : Stmt := top 15
abbrev sCellsW : Stmt := top 16
abbrev sCheckC : Stmt := top 21
abbrev sCheckR : Stmt := top 22
abbrev sSeed : Stmt := top 26
abbrev sDraw : Stmt := top 27
abbrev sWord : Stmt := top 28
abbrev sColumns : Stmt := top 29
abbrev sRows : Stmt := top 30
abbrev sDue : Stmt := top 31
abbrev sOthers : Stmt := top 32
abbrev sTold : Stmt := top 33
abbrev sLaw : Stmt := top 34
abbrev sTwInit : Stmt := inClass (top 5) 0
abbrev sShInit : Stmt := inClass (top 6) 0
abbrev sCInit : Stmt := inClass (top 18) 0
abbrev sTInit : Stmt := inClass (top 19) 0
abbrev sTWork : Stmt := inClass (top 19) 1
abbrev sBInit : Stmt := inClass (top 24) 0
abbrev sBCols : Stmt := inClass (top 24) 1
abbrev sBRows : Stmt := inClass (top 24) 2
/-- what stands under the built-in names -/
structure Txt (mg : Str → Option Value) : Prop where
  range : mg "range" = none
  len : mg "len" = none
  sorted : mg "sorted" = none
  list : mg "list" = none
  dict : mg "dict" = none
  isi : mg "isinstance" = none
  bool : mg "bool" = none
  str : mg "str" = none
  set : mg "set" = none
  tuple : mg "tuple" = none
  sum : mg "sum" = none
  max : mg "max" = none
  range2 : mg "enumerate" = none
  min : mg "min" = none
  ve : mg "ValueError" = none
/-- a def of the text that keeps its promise -/
def Cal (P : Program) (w : World) (K : PySem.W.Frag) (mg : Str → Option Value) (base : Heap) (x : Str) (k : Nat) (ps : List Str) (sp : Sp) : Prop :=
  ∃ f fd, FnOk P w K mg base CX0 k f fd ps sp ∧ Binds K fd ps [] ∧ PySem.W.keepIn K (.ref f) = true ∧ mg x = some (.ref f)
theorem same_new {H : Hp} {p : Addr} (h : H p = none) (o : HO) : Same H (upd H p o) := fun b u q => by rw [upd_ne (ne_of_none q h)]; exact q
theorem same_upd {H H' : Hp} {p : Addr} (s : Same H H') (h : H p = none) (o : HO) : Same H (upd H' p o) := fun b u q => by rw [upd_ne (ne_of_none q h)]; exact s b u q
theorem small {n : Nat} (h : n ≤ 4000) : n ≤ sizeLine := Nat.le_trans h (by decide)
theorem kit_is (K : PySem.W.Frag) : PySem.W.kitOne K (.type "int") (.type "str") = some false := by kernel_rfl
theorem ty_key {K : PySem.W.Frag} {H : Hp} (k : Key) : TyOf K H (kV k) (match k with | .inl _ => .type "int" | .inr _ => .type "str") := by
  cases k with
  | inl i => exact .int i
  | inr x => exact .str x
theorem kit_key (K : PySem.W.Frag) (k : Key) : PySem.W.kitOne K (match k with | .inl _ => .type "int" | .inr _ => .type "str") (.type "str") = some k.isRight := by
  cases k with
  | inl i => exact kit_is K
  | inr x => exact kit_ss K "str"
theorem rel_ty {n : String} : ∀ u, RelV (.ty n) u → u = .type n := fun u r => r
/-! the promises -/
def spGapsA (K : PySem.W.Frag) : Sp := fun vs H Q _ => ∃ (a : Addr) (ks : List Key), vs = [.ref a] ∧ SqL K H a (ks.map kV) ∧ ks.length ≤ 4000 ∧ ∀ l H', Same H H' → H' l = some (.lst ((strsIn ks).map V.str)) → Q (.ref l) H'
def spValsA (K : PySem.W.Frag) : Sp := fun vs H Q _ => ∃ (a : Addr) (ks : List Key), vs = [.ref a] ∧ SqL K H a (ks.map kV) ∧ ks.length ≤ 4000 ∧ ∀ l H', Same H H' → H' l = some (.lst ((intsIn ks).map V.int)) → Q (.ref l) H'
section
variable {P : Program} {w : World} {K : PySem.W.Frag} {mg : Str → Option Value} {base : Heap} {f : Addr} {fd : FuncData}
theorem scGA : FnScope ["cells"] ["cells"] (defScope sGapsA) := ⟨rfl, rfl, rfl, by decide +kernel, rfl, by decide +kernel, by decide +kernel⟩
theorem nd1 (x : Str) : ([x] : List Str).Nodup := by simp
theorem of_key {ks : List Key} {i : Nat} {x : V} (hi : (ks.map kV)[i]? = some x) : ∃ k, ks[i]? = some k ∧ x = kV k := by
  rw [List.getElem?_map] at hi
  cases z : ks[i]? with
  | none => rw [z] at hi; cases hi
  | some v => rw [z] at hi; exact ⟨v, rfl, (Option.some.inj hi).symm⟩
theorem strsIn_len (l : List Key) : (strsIn l).length ≤ l.length := List.length_filterMap_le _ _
theorem intsIn_len (l : List Key) : (intsIn l).length ≤ l.length := List.length_filterMap_le _ _
theorem strsIn_snoc (l : List Key) (k : Key) : strsIn (l ++ [k]) = strsIn l ++ (match k with | .inl _ => [] | .inr x => [x]) := by
  unfold strsIn
  rw [List.filterMap_append]
  cases k <;> rfl
theorem intsIn_snoc (l : List Key) (k : Key) : intsIn (l ++ [k]) = intsIn l ++ (match k with | .inl x => [x] | .inr _ => []) := by
  unfold intsIn
  rw [List.filterMap_append]
  cases k <;> rfl
theorem take_snoc {α : Type} {l : List α} {i : Nat} {a : α} (h : l[i]? = some a) : l.take (i + 1) = l.take i ++ [a] := by
  rw [List.take_add_one, h]; rfl
theorem ok_gapsa (F : Fun K "gaps_among" "gaps_among" sGapsA f fd) (T : Txt mg) : FnOk P w K mg base CX0 1 f fd ["cells"] (spGapsA K) := by
  refine F.ok scGA (fun vs H Q E h => ?_) (fun cdv A outer s H vs Q E hr h => ?_)
  · obtain ⟨a, ks, rfl, _⟩ := h
    rfl
  obtain ⟨a, ks, rfl, hS, hl, q⟩ := h
  refine ⟨_, pss_one (ps_ret (pe_lcG (caps := []) ["cell"] rfl (pi_list (pv 0)) ⟨rfl, by decide +kernel, by decide +kernel, rfl, .nil, rfl, rfl, rfl⟩
    (fun s H ex => pg_name (X := cxLG _ _ _ _ s H ex) (i := 0) (nd1 _) rfl (Or.inl rfl) (.inr rfl))
    (fun s H ex => pif_one (pt_val (pe_callB (call_isiK (K := K) rfl) rfl T.isi PyProof.Rows.boot_isinstance (pa_cons (pe_var (X := cxLG _ _ _ _ s H ex) (i := 0) rfl (Or.inl rfl)) (pa_cons (pe_bltn (v := .ty "str") rfl T.str PyProof.Rows.boot_str rfl) pa_nil)))))
    (fun s H ex => pe_var (X := cxLG _ _ _ _ s H ex) (i := 0) rfl (Or.inl rfl)))), ?_⟩
  refine ⟨_, rfl, a, rfl, ⟨_, hS⟩, fun D hD => ?_⟩
  refine lcg_list (K := K) (a := a) (xs := ks.map kV) (fun i σ H2 => ∃ u, σ = [u] ∧ Same H H2 ∧ H2 D = some (.lst ((strsIn (ks.take i)).map V.str)))
    ⟨none, rfl, same_new hD _, upd_same⟩ (fun i σ H2 _ ⟨_, _, s2, _⟩ => s2.seq hS) ?_ ?_
  · rintro i x σ H2 hi ⟨u, rfl, s2, h2⟩
    obtain ⟨k, hk, rfl⟩ := of_key hi
    refine ⟨_, rfl, _, _, _, _, _, rfl, rel_ty, ty_key k, kit_key K k, _, rfl, ?_⟩
    rw [take_snoc hk, strsIn_snoc]
    cases k with
    | inl j => exact iteF ⟨_, rfl, s2, by simpa using h2⟩
    | inr y =>
      refine iteT ⟨_, rfl, _, h2, ?_, _, rfl, same_upd s2 hD _, ?_⟩
      · have := strsIn_len (ks.take i)
        have : (ks.take i).length ≤ ks.length := by rw [List.length_take]; omega
        rw [List.length_map]
        exact Nat.lt_of_le_of_lt (by omega : _ ≤ 4000) (by decide)
      · rw [upd_same, List.map_append]; rfl
  · rintro σ H2 ⟨u, rfl, s2, h2⟩
    rw [List.length_map, List.take_length] at h2
    exact q D H2 s2 h2
theorem scVA : FnScope ["cells"] ["cells"] (defScope sValsA) := ⟨rfl, rfl, rfl, by decide +kernel, rfl, by decide +kernel, by decide +kernel⟩
theorem ok_valsa (F : Fun K "values_among" "values_among" sValsA f fd) (T : Txt mg) : FnOk P w K mg base CX0 1 f fd ["cells"] (spValsA K) := by
  refine F.ok scVA (fun vs H Q E h => ?_) (fun cdv A outer s H vs Q E hr h => ?_)
  · obtain ⟨a, ks, rfl, _⟩ := h
    rfl
  obtain ⟨a, ks, rfl, hS, hl, q⟩ := h
  refine ⟨_, pss_one (ps_ret (pe_lcG (caps := []) ["cell"] rfl (pi_list (pv 0)) ⟨rfl, by decide +kernel, by decide +kernel, rfl, .nil, rfl, rfl, rfl⟩
    (fun s H ex => pg_name (X := cxLG _ _ _ _ s H ex) (i := 0) (nd1 _) rfl (Or.inl rfl) (.inr rfl))
    (fun s H ex => pif_one (pt_not (pt_val (pe_callB (call_isiK (K := K) rfl) rfl T.isi PyProof.Rows.boot_isinstance (pa_cons (pe_var (X := cxLG _ _ _ _ s H ex) (i := 0) rfl (Or.inl rfl)) (pa_cons (pe_bltn (v := .ty "str") rfl T.str PyProof.Rows.boot_str rfl) pa_nil))))))
    (fun s H ex => pe_var (X := cxLG _ _ _ _ s H ex) (i := 0) rfl (Or.inl rfl)))), ?_⟩
  refine ⟨_, rfl, a, rfl, ⟨_, hS⟩, fun D hD => ?_⟩
  refine lcg_list (K := K) (a := a) (xs := ks.map kV) (fun i σ H2 => ∃ u, σ = [u] ∧ Same H H2 ∧ H2 D = some (.lst ((intsIn (ks.take i)).map V.int)))
    ⟨none, rfl, same_new hD _, upd_same⟩ (fun i σ H2 _ ⟨_, _, s2, _⟩ => s2.seq hS) ?_ ?_
  · rintro i x σ H2 hi ⟨u, rfl, s2, h2⟩
    obtain ⟨k, hk, rfl⟩ := of_key hi
    refine ⟨_, rfl, _, _, _, _, _, rfl, rel_ty, ty_key k, kit_key K k, _, rfl, ?_⟩
    rw [take_snoc hk, intsIn_snoc]
    cases k with
    | inr j => exact iteF ⟨_, rfl, s2, by simpa using h2⟩
    | inl y =>
      refine iteT ⟨_, rfl, _, h2, ?_, _, rfl, same_upd s2 hD _, ?_⟩
      · have := intsIn_len (ks.take i)
        have : (ks.take i).length ≤ ks.length := by rw [List.length_take]; omega
        rw [List.length_map]
        exact Nat.lt_of_le_of_lt (by omega : _ ≤ 4000) (by decide)
      · rw [upd_same, List.map_append]; rfl
  · rintro σ H2 ⟨u, rfl, s2, h2⟩
    rw [List.length_map, List.take_length] at h2
    exact q D H2 s2 h2

end
end K32
set_option maxHeartbeats 4000000
namespace K32
open PySem L2 CD
def KeepB (a : Addr) (H H' : Hp) : Prop := ∀ b o, b ≠ a → H b = some o → H' b = some o
theorem KeepB.trans {a : Addr} {H H1 H2 : Hp} (x : KeepB a H H1) (y : KeepB a H1 H2) : KeepB a H H2 := fun b o n h => y b o n (x b o n h)
theorem KeepB.of {a : Addr} {H H' : Hp} (s : Same H H') : KeepB a H H' := fun b o _ h => s b o h
theorem KeepB.upd {a : Addr} {H : Hp} {o : HO} : KeepB a H (upd H a o) := fun b u n h => by rw [upd_ne n]; exact h
theorem KeepB.same {a : Addr} {H0 H H' : Hp} (k : KeepB a H H') (s : Same H0 H) (h : H0 a = none) : Same H0 H' := fun b o q => k b o (ne_of_none q h) (s b o q)
theorem put_has {f : Str} {v : V} {fs : List (Str × V)} : (putF f v fs).lookup f = some v := by rw [lookup_putF, if_pos rfl]
theorem put_ne {f g : Str} {v : V} {fs : List (Str × V)} (h : g ≠ f) : (putF f v fs).lookup g = fs.lookup g := by rw [lookup_putF, if_neg h]
theorem same_back {H H1 : Hp} (s : Same H H1) {a : Addr} (h : H1 a = none) : H a = none := by
  cases e : H a with
  | none => rfl
  | some o => rw [s _ _ e] at h; cases h
theorem mk_same {H : Hp} {x dx C : Addr} (h1 : H x = none) (h2 : H dx = none) : Same H (upd (upd H dx (.own x)) x (.ins C dx [])) := same_upd (same_new h2 _) h1 _
/-- a condition without a cell -/
def IsTr (Tt : Addr) (H : Hp) (v : V) : Prop := ∃ (a dx tg tv : Addr) (fs : List (Str × V)), v = .ref a ∧ H a = some (.ins Tt dx fs) ∧ fs.lookup ("kept_gaps" : Str) = some (.ref tg) ∧ H tg = some (.tup []) ∧ fs.lookup ("kept_values" : Str) = some (.ref tv) ∧ H tv = some (.tup [])
theorem IsTr.keep {Tt : Addr} {H H' : Hp} {v : V} (s : Same H H') (h : IsTr Tt H v) : IsTr Tt H' v := by
  obtain ⟨a, dx, tg, tv, fs, e, h1, h2, h3, h4, h5⟩ := h
  exact ⟨a, dx, tg, tv, fs, e, s _ _ h1, h2, s _ _ h3, h4, s _ _ h5⟩
/-- the class -/
structure Tz (K : PySem.W.Frag) (Tt : Addr) : Prop where
  cl : Cls K Tt
  ng : NoAttr K Tt "kept_gaps"
  nv : NoAttr K Tt "kept_values"
  na : NoAttr K Tt "kept_atoms"
  ns : NoAttr K Tt "settled"
  nd : NoAttr K Tt "said"
/-- a class of the text that makes what it promises -/
def MkC (P : Program) (w : World) (K : PySem.W.Frag) (mg : Str → Option Value) (base : Heap) (x : Str) (C : Addr) (k : Nat) (ps : List Str) (sp : Sp) : Prop := ∃ f fd, Mk K C f ∧ FnOk P w K mg base CX0 k f fd ps sp ∧ Binds K fd ps [] ∧ mg x = some (.ref C)
def spWork (Tt : Addr) : Sp := fun vs H Q _ => ∃ (a d tl dx : Addr) (fs : List (Str × V)) (v : V), vs = [.ref a, .ref d, .ref tl] ∧ H a = some (.ins Tt dx fs) ∧ fs.lookup ("said" : Str) = some v ∧ Q v H
def spBase (Tt : Addr) (K : PySem.W.Frag) : Sp := fun vs H Q _ => ∃ (a r dx : Addr) (b : Bool), vs = [.ref a, .ref r, .int 0] ∧ H a = some (.ins Tt dx [("said", .bl b)]) ∧ H r = some (.lst []) ∧ ∀ H', KeepB a H H' → IsTr Tt H' (.ref a) → Q .non H'
def spTI (Tt : Addr) : Sp := fun vs H Q _ => ∃ (a dx : Addr) (b : Bool), vs = [.ref a, .bl b] ∧ H a = some (.ins Tt dx []) ∧ ∀ H', KeepB a H H' → IsTr Tt H' (.ref a) → Q .non H'
def spCellsW (Tt : Addr) : Sp := fun vs H Q _ => ∃ (a : Addr) (xs : List V), vs = [.ref a] ∧ H a = some (.lst xs) ∧ (∀ x ∈ xs, IsTr Tt H x) ∧ ∀ (r : Addr) (H' : Hp), Same H H' → H r = none → H' r = some (.lst []) → Q (.ref r) H'
theorem no_mem {α : Type} {l : List α} (h : ∀ x, x ∈ l → False) : l = [] := by
  cases l with
  | nil => rfl
  | cons x r => exact (h x List.mem_cons_self).elim
section
variable {P : Program} {w : World} {K : PySem.W.Frag} {mg : Str → Option Value} {base : Heap} {f : Addr} {fd : FuncData} {Tt CC : Addr}
theorem scTW : FnScope ["self", "filling", "told"] ["self", "filling", "told"] (defScope sTWork) := ⟨rfl, rfl, rfl, by decide +kernel, rfl, by decide +kernel, by decide +kernel⟩
theorem ok_work (F : Fun K "worked" "Truth.worked" sTWork f fd) (Z : Tz K Tt) : FnOk P w K mg base CX0 1 f fd ["self", "filling", "told"] (spWork Tt) := by
  refine F.ok scTW (fun vs H Q E h => ?_) (fun cdv A outer s H vs Q E hr h => ?_)
  · obtain ⟨a, d, tl, dx, fs, v, rfl, _⟩ := h
    rfl
  obtain ⟨a, d, tl, dx, fs, v, rfl, ha, hv, q⟩ := h
  exact ⟨_, pss_one (ps_ret (pe_fld (pv 0) rfl)), _, rfl, a, Tt, dx, fs, _, rfl, ha, Z.cl, Z.nd, hv, q⟩
theorem scCI : FnScope ["self", "cells", "atoms"] ["self", "cells", "atoms"] (defScope sCInit) := ⟨rfl, rfl, rfl, by decide +kernel, rfl, by decide +kernel, by decide +kernel⟩
theorem ok_cinit (F : Fun K "__init__" "Cond.__init__" sCInit f fd) (X : Txt mg) (Z : Tz K Tt) (C1 : Cal P w K mg base "gaps_among" 1 ["cells"] (spGapsA K)) (C2 : Cal P w K mg base "values_among" 1 ["cells"] (spValsA K)) (FW : Fam P w K mg base CX0 1 (· = Tt) "worked" ["self", "filling", "told"] (fun _ => spWork Tt)) : FnOk P w K mg base CX0 2 f fd ["self", "cells", "atoms"] (spBase Tt K) := by
  obtain ⟨g1, d1, G1, b1, k1, m1⟩ := C1
  obtain ⟨g2, d2, G2, b2, k2, m2⟩ := C2
  refine F.ok scCI (fun vs H Q E h => ?_) (fun cdv A outer s H vs Q E hr h => ?_)
  · obtain ⟨a, r, dx, b, rfl, _⟩ := h
    rfl
  obtain ⟨a, r, dx, b, rfl, ha, hrr, q⟩ := h
  refine ⟨_, pss_cons (ps_fld (pv 0) (pe_callTy call_tuple_of rfl X.tuple PyProof.Rows.boot_tuple (pa_cons (pe_callB (call_sorted_setS rfl) rfl X.sorted PyProof.Rows.boot_sorted (pa_cons (pe_callTy (call_set_of rfl) rfl X.set PyProof.Rows.boot_set (pa_cons (pe_call G1 hr rfl m1 k1 b1 .nil pass0 (pa_cons (pv 1) pa_nil)) pa_nil)) pa_nil)) pa_nil)) rfl)
    (pss_cons (ps_fld (pv 0) (pe_callTy call_tuple_of rfl X.tuple PyProof.Rows.boot_tuple (pa_cons (pe_callB (call_sorted_setI rfl) rfl X.sorted PyProof.Rows.boot_sorted (pa_cons (pe_callTy (call_set_of rfl) rfl X.set PyProof.Rows.boot_set (pa_cons (pe_call G2 hr rfl m2 k2 b2 .nil pass0 (pa_cons (pv 1) pa_nil)) pa_nil)) pa_nil)) pa_nil)) rfl)
    (pss_cons (ps_fld (pv 0) (pv 2) rfl)
    (pss_cons (ps_fld (pv 0) pe_non rfl)
    (pss_one (ps_if (pt_not (pt_truth (pe_fld (pv 0) rfl) (fun _ => rfl))) (pss_one (ps_fld (pv 0) (pe_methF (pv 0) FW hr pass0 (pa_cons pe_dnewK (pa_cons pe_dnewK pa_nil))) rfl)) pss_nil))))), ?_⟩
  refine ⟨_, rfl, r, [], rfl, SqL.of hrr, by decide, fun l1 H1 s1 hl1 => ⟨l1, [], rfl, SqL.of hl1, by decide, fun l2 ks hl2 nd hm => ?_⟩⟩
  obtain rfl := no_mem fun x hx => by have := (hm x).mp hx; cases this
  refine ⟨l2, [], rfl, upd_same, by decide, fun l3 gs hl3 pg sg => ⟨l3, _, rfl, .inl ⟨SqL.of upd_same, fun tg htg => ?_⟩⟩⟩
  obtain rfl : gs = [] := pg.eq_nil
  generalize SetO _ _ l2 _ = so at hl3 htg ⊢
  have w3 := (same_new hl2 so).trans (same_new hl3 (.lst (List.map V.str [])))
  have s4 := s1.trans (w3.trans (same_new htg (.tup (List.map V.str []))))
  have hg4 := upd_same (H := upd (upd H1 l2 so) l3 (.lst (List.map V.str []))) (a := tg) (o := .tup (List.map V.str []))
  have htg0 := same_back (s1.trans w3) htg
  generalize upd (upd (upd H1 l2 so) l3 (.lst (List.map V.str []))) tg (.tup (List.map V.str [])) = H4 at s4 hg4
  have nta : tg ≠ a := fun e => by rw [e, ha] at htg0; cases htg0
  refine ⟨_, rfl, a, Tt, dx, _, rfl, s4 _ _ ha, Z.cl, Z.ng, by simp, ?_⟩
  have kb5 : KeepB a H (upd H4 a (.ins Tt dx (putF "kept_gaps" (.ref tg) [("said", .bl b)]))) := (KeepB.of s4).trans KeepB.upd
  have ha5 := upd_same (H := H4) (a := a) (o := .ins Tt dx (putF "kept_gaps" (.ref tg) [("said", .bl b)]))
  have hg5 : (upd H4 a (.ins Tt dx (putF "kept_gaps" (.ref tg) [("said", .bl b)]))) tg = some (.tup []) := by rw [upd_ne nta]; exact hg4
  have hr5 := kb5 _ _ (fun e => by rw [e, ha] at hrr; cases hrr) hrr
  generalize upd H4 a (.ins Tt dx (putF "kept_gaps" (.ref tg) [("said", .bl b)])) = H5 at kb5 ha5 hg5 hr5
  refine ⟨_, rfl, r, [], rfl, SqL.of hr5, by decide, fun j1 J1 z1 hj1 => ⟨j1, [], rfl, SqL.of hj1, by decide, fun j2 ks' hj2 nd' hm' => ?_⟩⟩
  obtain rfl := no_mem fun x hx => by have := (hm' x).mp hx; cases this
  refine ⟨j2, [], rfl, upd_same, by decide, fun j3 vs hj3 pv' sv => ⟨j3, _, rfl, .inl ⟨SqL.of upd_same, fun tv htv => ?_⟩⟩⟩
  obtain rfl : vs = [] := pv'.eq_nil
  generalize SetO _ _ j2 _ = so' at hj3 htv ⊢
  have y3 := (same_new hj2 so').trans (same_new hj3 (.lst (List.map V.int [])))
  have s9 := z1.trans (y3.trans (same_new htv (.tup (List.map V.int []))))
  have hv9 := upd_same (H := upd (upd J1 j2 so') j3 (.lst (List.map V.int []))) (a := tv) (o := .tup (List.map V.int []))
  have htv0 := same_back (z1.trans y3) htv
  generalize upd (upd (upd J1 j2 so') j3 (.lst (List.map V.int []))) tv (.tup (List.map V.int [])) = H9 at s9 hv9
  have nva : tv ≠ a := fun e => by rw [e, ha5] at htv0; cases htv0
  have lf0 : ([("said", V.bl b)] : List (Str × V)).length = 1 := rfl
  have lf1 := length_putF "kept_gaps" (.ref tg) [("said", .bl b)]
  refine ⟨_, rfl, a, Tt, dx, _, rfl, s9 _ _ ha5, Z.cl, Z.nv, by omega, ?_⟩
  have lf2 := length_putF "kept_values" (.ref tv) (putF "kept_gaps" (.ref tg) [("said", .bl b)])
  refine ⟨_, rfl, _, rfl, a, Tt, dx, _, rfl, upd_same, Z.cl, Z.na, by omega, ?_⟩
  have lf3 := length_putF "kept_atoms" (.int 0) (putF "kept_values" (.ref tv) (putF "kept_gaps" (.ref tg) [("said", .bl b)]))
  refine ⟨_, rfl, a, Tt, dx, _, rfl, upd_same, Z.cl, Z.ns, by omega, ?_⟩
  have lf4 := length_putF "settled" .non (putF "kept_atoms" (.int 0) (putF "kept_values" (.ref tv) (putF "kept_gaps" (.ref tg) [("said", .bl b)])))
  have fg : (putF "settled" .non (putF "kept_atoms" (.int 0) (putF "kept_values" (.ref tv) (putF "kept_gaps" (.ref tg) [("said", .bl b)])))).lookup ("kept_gaps" : Str) = some (.ref tg) := by
    rw [put_ne (by decide), put_ne (by decide), put_ne (by decide), put_has]
  have fv : (putF "settled" .non (putF "kept_atoms" (.int 0) (putF "kept_values" (.ref tv) (putF "kept_gaps" (.ref tg) [("said", .bl b)])))).lookup ("kept_values" : Str) = some (.ref tv) := by
    rw [put_ne (by decide), put_ne (by decide), put_has]
  have fd' : (putF "settled" .non (putF "kept_atoms" (.int 0) (putF "kept_values" (.ref tv) (putF "kept_gaps" (.ref tg) [("said", .bl b)])))).lookup ("said" : Str) = some (.bl b) := by
    rw [put_ne (by decide), put_ne (by decide), put_ne (by decide), put_ne (by decide)]; rfl
  have fw : (putF "settled" .non (putF "kept_atoms" (.int 0) (putF "kept_values" (.ref tv) (putF "kept_gaps" (.ref tg) [("said", .bl b)])))).lookup ("worked" : Str) = none := by
    rw [put_ne (by decide), put_ne (by decide), put_ne (by decide), put_ne (by decide)]; cases b <;> decide +kernel
  have kbX : ∀ o1 o2 o3 : HO, KeepB a H9 (upd (upd (upd H9 a o1) a o2) a o3) := fun o1 o2 o3 => (KeepB.upd.trans KeepB.upd).trans KeepB.upd
  have kb := kbX (.ins Tt dx (putF "kept_values" (.ref tv) (putF "kept_gaps" (.ref tg) [("said", .bl b)]))) (.ins Tt dx (putF "kept_atoms" (.int 0) (putF "kept_values" (.ref tv) (putF "kept_gaps" (.ref tg) [("said", .bl b)]))))
    (.ins Tt dx (putF "settled" .non (putF "kept_atoms" (.int 0) (putF "kept_values" (.ref tv) (putF "kept_gaps" (.ref tg) [("said", .bl b)])))))
  have haN := upd_same (H := upd (upd H9 a (.ins Tt dx (putF "kept_values" (.ref tv) (putF "kept_gaps" (.ref tg) [("said", .bl b)])))) a (.ins Tt dx (putF "kept_atoms" (.int 0) (putF "kept_values" (.ref tv) (putF "kept_gaps" (.ref tg) [("said", .bl b)]))))) (a := a) (o := .ins Tt dx (putF "settled" .non (putF "kept_atoms" (.int 0) (putF "kept_values" (.ref tv) (putF "kept_gaps" (.ref tg) [("said", .bl b)])))))
  generalize upd (upd (upd H9 a (.ins Tt dx (putF "kept_values" (.ref tv) (putF "kept_gaps" (.ref tg) [("said", .bl b)])))) a (.ins Tt dx (putF "kept_atoms" (.int 0) (putF "kept_values" (.ref tv) (putF "kept_gaps" (.ref tg) [("said", .bl b)]))))) a (.ins Tt dx (putF "settled" .non (putF "kept_atoms" (.int 0) (putF "kept_values" (.ref tv) (putF "kept_gaps" (.ref tg) [("said", .bl b)]))))) = HN at kb haN
  generalize putF "settled" .non (putF "kept_atoms" (.int 0) (putF "kept_values" (.ref tv) (putF "kept_gaps" (.ref tg) [("said", .bl b)]))) = fN at fg fv fd' fw haN lf4
  have hgN : HN tg = some (.tup []) := kb _ _ nta (s9 _ _ hg5)
  have hvN : HN tv = some (.tup []) := kb _ _ nva hv9
  have kN : KeepB a H HN := kb5.trans ((KeepB.of s9).trans kb)
  refine ⟨_, rfl, a, Tt, dx, _, _, rfl, haN, Z.cl, Z.ng, fg, _, .inr (.inl ⟨_, SqT.of hgN, rfl⟩), iteT ?_⟩
  refine ⟨_, rfl, a, Tt, dx, fN, rfl, haN, rfl, fw, fun d hd' tl htl => ?_⟩
  have wd := (same_new hd' (.dK [])).trans (same_new htl (.dK []))
  generalize upd (upd HN d (.dK [])) tl (.dK []) = HD at wd ⊢
  refine ⟨a, d, tl, dx, fN, .bl b, rfl, wd _ _ haN, fd', ?_⟩
  refine ⟨_, rfl, a, Tt, dx, fN, rfl, wd _ _ haN, Z.cl, Z.ns, by omega, ?_⟩
  have kE : KeepB a H (upd HD a (.ins Tt dx (putF "settled" (.bl b) fN))) := kN.trans ((KeepB.of wd).trans KeepB.upd)
  refine q _ kE ⟨a, dx, tg, tv, _, rfl, upd_same, ?_, ?_, ?_, ?_⟩
  · rw [put_ne (by decide)]; exact fg
  · rw [upd_ne nta]; exact wd _ _ hgN
  · rw [put_ne (by decide)]; exact fv
  · rw [upd_ne nva]; exact wd _ _ hvN
theorem scTI : FnScope ["self", "said"] ["self", "said"] (defScope sTInit) := ⟨rfl, rfl, rfl, by decide +kernel, rfl, by decide +kernel, by decide +kernel⟩
theorem ok_tinit (F : Fun K "__init__" "Truth.__init__" sTInit f fd) (Z : Tz K Tt) (B : ∃ f fd mc, ClsFn K CC mc "__init__" f ∧ FnOk P w K mg base CX0 2 f fd ["self", "cells", "atoms"] (spBase Tt K) ∧ Binds K fd ["self", "cells", "atoms"] [] ∧ mg "Cond" = some (.ref CC)) : FnOk P w K mg base CX0 3 f fd ["self", "said"] (spTI Tt) := by
  obtain ⟨g1, d1, mc, cf, G1, b1, m1⟩ := B
  refine F.ok scTI (fun vs H Q E h => ?_) (fun cdv A outer s H vs Q E hr h => ?_)
  · obtain ⟨a, dx, b, rfl, _⟩ := h
    rfl
  obtain ⟨a, dx, b, rfl, ha, q⟩ := h
  refine ⟨_, pss_cons (ps_fld (pv 0) (pv 1) rfl) (pss_one (ps_expr (pe_clsFn cf G1 hr rfl m1 b1 pass0 (pa_cons (pv 0) (pa_cons (pe_lst pa_nil) (pa_cons pe_int pa_nil)))))), ?_⟩
  refine ⟨_, rfl, _, rfl, a, Tt, dx, [], rfl, ha, Z.cl, Z.nd, by decide, ?_⟩
  refine ⟨_, rfl, small (by decide), fun r hr' => ?_⟩
  have nra : a ≠ r := fun e => by rw [← e, upd_same] at hr'; cases hr'
  have k1 : KeepB a H (upd (upd H a (.ins Tt dx (putF "said" (.bl b) []))) r (.lst [])) := KeepB.upd.trans (KeepB.of (same_new hr' _))
  exact ⟨a, r, dx, b, rfl, by rw [upd_ne nra, upd_same]; rfl, upd_same, fun H' kb hC => q H' (k1.trans kb) hC⟩
theorem scCW : FnScope ["parts", "cells", "part"] ["parts"] (defScope sCellsW) := ⟨rfl, rfl, rfl, by decide +kernel, rfl, by decide +kernel, by decide +kernel⟩
theorem ok_cellsw (F : Fun K "cells_within" "cells_within" sCellsW f fd) (Z : Tz K Tt) : FnOk P w K mg base CX0 1 f fd ["parts"] (spCellsW Tt) := by
  refine F.ok scCW (fun vs H Q E h => ?_) (fun cdv A outer s H vs Q E hr h => ?_)
  · obtain ⟨a, xs, rfl, _⟩ := h
    rfl
  obtain ⟨a, xs, rfl, ha, hx, q⟩ := h
  refine ⟨_, pss_cons (ps_set (i := 1) scCW.nd rfl (Or.inl rfl) (pe_lst pa_nil))
      (pss_cons (ps_for PassesOwn.never rfl (pi_list (pv 0)) (pg_name (i := 2) scCW.nd rfl (Or.inl rfl))
        (pss_cons (ps_expr (pe_bm PySem.F.plainAttrs_list PySem.F.slot_list_extend PySem.F.type_list_extend mt_extendT (pv 1) (pa_cons (pe_fld (pv 2) rfl) pa_nil)))
        (pss_one (ps_expr (pe_bm PySem.F.plainAttrs_list PySem.F.slot_list_extend PySem.F.type_list_extend mt_extendT (pv 1) (pa_cons (pe_fld (pv 2) rfl) pa_nil))))))
      (pss_one (ps_ret (pv 1)))), ?_⟩
  refine ⟨small (by decide), fun D hD => ?_⟩
  have s0 := same_new hD (.lst [])
  refine ⟨_, rfl, a, rfl, ⟨_, SqL.of (s0 _ _ ha)⟩, for_list (K := K) (a := a) (xs := xs) (fun i σ H2 => ∃ (u : Option V), σ = [some (.ref a), some (.ref D), u] ∧ Same H H2 ∧ H2 D = some (.lst []))
      ⟨none, rfl, s0, upd_same⟩ (fun i σ H2 _ ⟨_, _, s2, _⟩ => SqL.of (s2 _ _ ha)) ?_ ?_⟩
  · rintro i x σ H2 hi ⟨u, rfl, s2, hd⟩
    obtain ⟨ap, dx, tg, tv, fs, rfl, h1, h2, h3, h4, h5⟩ := hx x (List.mem_of_getElem? hi)
    have nda : ap ≠ D := ne_of_none h1 hD
    have ntv : tv ≠ D := ne_of_none h5 hD
    refine ⟨_, rfl, .inl ⟨rfl, _, SqL.of hd⟩, _, rfl, ap, Tt, dx, fs, _, rfl, s2 _ _ h1, Z.cl, Z.ng, h2, D, tg, _, _, rfl, rfl, hd, SqT.of (s2 _ _ h3), by decide, ?_⟩
    refine ⟨_, rfl, .inl ⟨rfl, _, SqL.of upd_same⟩, _, rfl, ap, Tt, dx, fs, _, rfl, by rw [upd_ne nda]; exact s2 _ _ h1, Z.cl, Z.nv, h4, D, tv, _, _, rfl, rfl, upd_same, SqT.of (by rw [upd_ne ntv]; exact s2 _ _ h5), by decide, ?_⟩
    exact ⟨_, rfl, same_upd (same_upd s2 hD _) hD _, upd_same⟩
  · rintro σ H2 ⟨u, rfl, s2, hd⟩
    exact ⟨_, rfl, q D H2 s2 hD hd⟩
end
end K32
set_option maxHeartbeats 4000000
namespace L2
open PySem PySem.Spec PyProof.Rows
/-! ### min(a list of texts) -/
theorem best_min (key : Nat → List Nat) : ∀ k i, i ≤ k → key (argBest (fun i j => decide (key i < key j)) k) ≤ key i ∧ argBest (fun i j => decide (key i < key j)) k ≤ k
  | 0, i, h => by
    have e : i = 0 := by omega
    subst e
    exact ⟨List.le_refl _, Nat.le_refl _⟩
  | k + 1, i, h => by
    have ih := best_min key k
    show key (if decide (key (k + 1) < key (argBest (fun i j => decide (key i < key j)) k)) = true then k + 1 else argBest (fun i j => decide (key i < key j)) k) ≤ key i ∧ (if decide (key (k + 1) < key (argBest (fun i j => decide (key i < key j)) k)) = true then k + 1 else argBest (fun i j => decide (key i < key j)) k) ≤ k + 1
    by_cases hb : key (k + 1) < key (argBest (fun i j => decide (key i < key j)) k)
    · rw [if_pos (by simpa using hb)]
      refine ⟨?_, Nat.le_refl _⟩
      by_cases hi : i = k + 1
      · subst hi; exact List.le_refl _
      · exact List.le_trans (List.le_of_lt hb) (ih i (by omega)).1
    · rw [if_neg (by simpa using hb)]
      refine ⟨?_, Nat.le_succ_of_le (ih 0 (Nat.zero_le _)).2⟩
      by_cases hi : i = k + 1
      · subst hi; exact hb
      · exact (ih i (by omega)).1
section
variable {X : Cx}
theorem call_min_strs (hc : X.calm = true) : CallR X (.builtin "min") (fun xs H Q => ∃ (p : Addr) (ss : List Str), xs = [.ref p] ∧ SqL X.K H p (ss.map V.str) ∧ ss ≠ [] ∧ ∀ m : Str, m ∈ ss → (∀ x ∈ ss, m.cps.toList ≤ x.cps.toList) → Q (.str m) H) := by
  intro pins s σ H xs us Q I r h
  obtain ⟨p, ss, rfl, hq, hne, q⟩ := h
  obtain ⟨u, rfl, rx⟩ := vals1 r
  cases rx
  obtain ⟨its, r', pl, hz⟩ := I.list hq
  have hlen := r'.length
  rw [List.length_map] at hlen
  have hs : ∀ (i : Nat) (v : Value), its[i]? = some v → ∃ t, v = Value.str (ss.getD i "") t := fun i v hv => by
    have hi : i < ss.length := by have := (List.getElem?_eq_some_iff.mp hv).1; omega
    obtain ⟨u, hu, ru⟩ := r'.get (i := i) (x := .str ss[i]) (by rw [List.getElem?_map, List.getElem?_eq_getElem hi]; rfl)
    rw [hv] at hu
    cases hu
    obtain ⟨t, e⟩ := (show ∃ t, v = Value.str ss[i] t from ru)
    exact ⟨t, by rw [e, List.getD_eq_getElem?_getD, List.getElem?_eq_getElem hi]; rfl⟩
  obtain ⟨op, hop, _⟩ := id pl.isList
  have hlt : p < s.heap.objs.size := Heap.lt_size hop
  have hh : X.A.in1.handled = none := by simp [I.ok.hd hc]
  refine call_min_walk (wpAny_pyIter_list pl.isList ?_)
  have kp : ∀ b o, s.heap.get? b = some o → (s.heap.push { cls := .type "list_iterator", data := .fields #[.ref p, .int 0 0] }).get? b = some o := fun b o e => Heap.get?_push_of_some _ e
  have W := Walks.list (prog := X.prog) (w := X.w) hh s.heap.objs.size p (Nat.ne_of_lt hlt) its.toArray
  have hn : 0 < its.length := by
    rw [← hlen]
    exact List.length_pos_iff.mpr hne
  refine ⟨s.heap.objs.size, _, _, _, _, _, fun i j => decide ((ss.getD i "").cps.toList < (ss.getD j "").cps.toList), rfl, W, ⟨⟨_, Heap.get?_push_size _ rfl, rfl, rfl⟩, pl.isList.push _⟩, fun b hb => ?_, by simpa using hn, fun i j vi vj s' Q' E' hi' hj' hQ' => ?_, fun v h' tk hP hk => ?_⟩
  · rw [Heap.size_push]
    simp only [List.mem_cons, List.not_mem_nil, or_false] at hb
    rcases hb with rfl | rfl
    · exact Nat.lt_succ_self _
    · exact Nat.lt_succ_of_lt hlt
  · obtain ⟨t1, rfl⟩ := hs i vi (by simpa using hi')
    obtain ⟨t2, rfl⟩ := hs j vj (by simpa using hj')
    exact PyProof.Rows.lt_str hQ'
  · have bl := best_min (fun i => (ss.getD i "").cps.toList) (its.toArray.size - 1)
    generalize argBest (fun i j => decide ((ss.getD i "").cps.toList < (ss.getD j "").cps.toList)) (its.toArray.size - 1) = ix at hP bl
    obtain ⟨t1, rfl⟩ := hs ix v (by rw [← List.getElem?_toArray]; exact hP)
    have hb := (bl 0 (Nat.zero_le _)).2
    have hix : ix < ss.length := by rw [List.size_toArray, ← hlen] at hb; rw [← hlen] at hn; omega
    refine ⟨.str (ss.getD ix ""), H, I.kept (t' := tk) (fun b o e => hk b o (fun z => ?_) (kp b o e)), ⟨_, rfl⟩, q _ ?_ fun x hx => ?_⟩
    · rw [List.mem_singleton.mp z] at e
      exact absurd (Heap.lt_size e) (Nat.lt_irrefl _)
    · rw [List.getD_eq_getElem?_getD, List.getElem?_eq_getElem hix]
      exact List.getElem_mem hix
    · obtain ⟨i, hi', e⟩ := List.mem_iff_getElem.mp hx
      have := (bl i (by rw [List.size_toArray, ← hlen]; omega)).1
      have e2 : ss.getD i "" = x := by rw [List.getD_eq_getElem?_getD, List.getElem?_eq_getElem hi', e]; rfl
      rw [e2] at this
      exact this
end
end L2
set_option maxHeartbeats 4000000
namespace L2
open PySem PySem.Spec PyProof.Rows
theorem lcg_tupR {K : PySem.W.Frag} {a D : Addr} {xs : List V} {g : TG} {tt : TT} {te : TE} {R : Hp → Prop} {σ0 : St} {H1 : Hp} (Pv : Nat → St → Hp → Prop) (h0 : Pv 0 σ0 (upd H1 D (.lst []))) (hl : ∀ i σ H, i ≤ xs.length → Pv i σ H → SqT K H a xs)
    (hs : ∀ i x σ H, xs[i]? = some x → Pv i σ H → g x σ H fun σ3 H3 => tt σ3 H3 fun b H4 => if b = true then te σ3 H4 fun y H5 => ∃ zs, H5 D = some (.lst zs) ∧ zs.length < sizeLine ∧ Pv (i + 1) σ3 (upd H5 D (.lst (zs ++ [y]))) else Pv (i + 1) σ3 H4) (hd : ∀ σ H, Pv xs.length σ H → R H) :
    ∃ W : Nat → Nat → St → Hp → Prop, (∃ m, W 0 m σ0 (upd H1 D (.lst []))) ∧ ∀ i m σ' H', W i m σ' H' →
      ((Itt K a).stop i H' ∧ R H') ∨ ((Itt K a).go i H' ∧ ∃ N : St → Hp → Prop, (∀ σ2 H2, N σ2 H2 → ∃ m', m' < m ∧ W (i + 1) m' σ2 H2) ∧
        ∀ x H2, (Itt K a).yld i H' x H2 → g x σ' H2 fun σ3 H3 => tt σ3 H3 fun b H4 => if b = true then te σ3 H4 fun y H5 => ∃ zs, H5 D = some (.lst zs) ∧ zs.length < sizeLine ∧ N σ3 (upd H5 D (.lst (zs ++ [y]))) else N σ3 H4) :=
  lcg_tup (Q := fun _ H => R H) Pv h0 hl hs hd
theorem lcg_listR {K : PySem.W.Frag} {a D : Addr} {xs : List V} {g : TG} {tt : TT} {te : TE} {R : Hp → Prop} {σ0 : St} {H1 : Hp} (Pv : Nat → St → Hp → Prop) (h0 : Pv 0 σ0 (upd H1 D (.lst []))) (hl : ∀ i σ H, i ≤ xs.length → Pv i σ H → SqL K H a xs)
    (hs : ∀ i x σ H, xs[i]? = some x → Pv i σ H → g x σ H fun σ3 H3 => tt σ3 H3 fun b H4 => if b = true then te σ3 H4 fun y H5 => ∃ zs, H5 D = some (.lst zs) ∧ zs.length < sizeLine ∧ Pv (i + 1) σ3 (upd H5 D (.lst (zs ++ [y]))) else Pv (i + 1) σ3 H4) (hd : ∀ σ H, Pv xs.length σ H → R H) :
    ∃ W : Nat → Nat → St → Hp → Prop, (∃ m, W 0 m σ0 (upd H1 D (.lst []))) ∧ ∀ i m σ' H', W i m σ' H' →
      ((Itl K a).stop i H' ∧ R H') ∨ ((Itl K a).go i H' ∧ ∃ N : St → Hp → Prop, (∀ σ2 H2, N σ2 H2 → ∃ m', m' < m ∧ W (i + 1) m' σ2 H2) ∧
        ∀ x H2, (Itl K a).yld i H' x H2 → g x σ' H2 fun σ3 H3 => tt σ3 H3 fun b H4 => if b = true then te σ3 H4 fun y H5 => ∃ zs, H5 D = some (.lst zs) ∧ zs.length < sizeLine ∧ N σ3 (upd H5 D (.lst (zs ++ [y]))) else N σ3 H4) :=
  lcg_list (Q := fun _ H => R H) Pv h0 hl hs hd
theorem lcg_rangeR {lo : Int} {n : Nat} {D : Addr} {g : TG} {tt : TT} {te : TE} {R : Hp → Prop} {σ0 : St} {H1 : Hp} (Pv : Nat → St → Hp → Prop) (h0 : Pv 0 σ0 (upd H1 D (.lst [])))
    (hs : ∀ i σ H, i < n → Pv i σ H → g (.int (lo + i)) σ H fun σ3 H3 => tt σ3 H3 fun b H4 => if b = true then te σ3 H4 fun y H5 => ∃ zs, H5 D = some (.lst zs) ∧ zs.length < sizeLine ∧ Pv (i + 1) σ3 (upd H5 D (.lst (zs ++ [y]))) else Pv (i + 1) σ3 H4) (hd : ∀ σ H, Pv n σ H → R H) :
    ∃ W : Nat → Nat → St → Hp → Prop, (∃ m, W 0 m σ0 (upd H1 D (.lst []))) ∧ ∀ i m σ' H', W i m σ' H' →
      ((Itr lo n).stop i H' ∧ R H') ∨ ((Itr lo n).go i H' ∧ ∃ N : St → Hp → Prop, (∀ σ2 H2, N σ2 H2 → ∃ m', m' < m ∧ W (i + 1) m' σ2 H2) ∧
        ∀ x H2, (Itr lo n).yld i H' x H2 → g x σ' H2 fun σ3 H3 => tt σ3 H3 fun b H4 => if b = true then te σ3 H4 fun y H5 => ∃ zs, H5 D = some (.lst zs) ∧ zs.length < sizeLine ∧ N σ3 (upd H5 D (.lst (zs ++ [y]))) else N σ3 H4) :=
  lcg_range (Q := fun _ H => R H) Pv h0 hs hd
section
variable {X : Cx}
/-- sorted(a list of texts) -/
theorem call_sorted_strs : CallR X (.builtin "sorted") (fun xs H Q => ∃ (p : Addr) (ns : List Str), xs = [.ref p] ∧ SqL X.K H p (ns.map V.str) ∧ ns.length < 64 ∧
    ∀ (l : Addr) (ns' : List Str), H l = none → ns'.Perm ns → sortedS ns' = true → Q (.ref l) (upd H l (.lst (ns'.map V.str)))) := by
  intro pins s σ H xs us Q I r h
  obtain ⟨p, ns, rfl, hq, hl, q⟩ := h
  obtain ⟨u, rfl, rx⟩ := vals1 r
  cases rx
  obtain ⟨its, r', pl, hz⟩ := I.list hq
  have hlen := r'.length
  rw [List.length_map] at hlen
  refine sorted_strs pl.isList (strs_are r') (by omega) fun out ns' a1 a2 a3 => ?_
  obtain ⟨e, he⟩ := sortedAll_at s.heap its out
  have hf : H (s.heap.objs.size + 1) = none := I.hok.fresh (Nat.le_succ _)
  have hz' : (ns'.map V.str).length ≤ sizeLine := by
    rw [List.length_map, a2.length_eq]
    exact Nat.le_of_lt (small1000 (by omega))
  exact ⟨.ref (s.heap.objs.size + 1), _, I.laid (t' := s.toks) (o := .lst (ns'.map V.str)) (fun b ob z => sortedAll_old z) (Nat.le_succ _) ⟨hz', out.toList, e, vals_strs a1, he⟩, rfl, q _ _ hf a2 a3⟩
/-- list.count -/
def rCountL : V → List V → Hp → VK → Prop := fun x vs H Q => ∃ (p : Addr) (xs : List V) (y : V), x = .ref p ∧ vs = [y] ∧ H p = some (.lst xs) ∧ flatV y = true ∧ xs.all flatV = true ∧ Q (.int ((xs.countP fun z => eqV z y : Nat) : Int)) H
theorem mt_countL : MtM X "list.count" rCountL := by
  intro pins s σ H x vs v us Q I rx rv h
  obtain ⟨p, xs, y, rfl, rfl, hp, fy, fs, q⟩ := h
  cases rx
  obtain ⟨u, rfl, ru⟩ := rv.one
  obtain ⟨hz, its, n, r, e1⟩ := (show ObjOk X.prog X.w H s.heap p (.lst xs) from I.hok p _ hp)
  refine call_meets F.slot_list_count ⟨_, e1, rfl⟩ F.entry_list_count (F.args_list_count_2 _ _) (SeqAt.list_countAt p its.toArray n none _ u (eqU y)) ⟨e1, fun w' hw => mem_eqAt ru fy r fs w' (by simpa using hw), ?_⟩
  refine ⟨.int ((its.countP (eqU y) : Nat) : Int), H, I.kept (t' := s.toks + 1) fun b o e => e, ⟨s.toks, rfl⟩, ?_⟩
  rw [countP_vals r fs]
  exact q
theorem tBM_K {to : TE} {t : TA} {T : String} {r : V → List V → Hp → VK → Prop} {K : PySem.W.Frag} {ex : Expr} (hK : X.K = K) (h : PE X ex (tBM X.K T r to t)) : PE X ex (tBM K T r to t) := by
  subst hK
  exact h
theorem PS.nox {st : Stmt} {t : TS} (h : PS X.nox st t) : PS X st t := fun pins s σ H D I hw =>
  wpAny_mono (h pins s σ H D (I.wish _) hw) (fun _ _ q => q.unwish) fun _ _ z => False.elim z
end
end L2
set_option maxHeartbeats 4000000
namespace K32
open PySem L2 CD
theorem iteFd {b : Bool} {A B : Prop} (h : b = false) (hB : B) : if b = true then A else B := by rw [h]; exact iteF hB
theorem iteTd {b : Bool} {A B : Prop} (h : b = true) (hA : A) : if b = true then A else B := by rw [h]; exact iteT hA
theorem str_flat (cs : List Str) : (cs.map V.str).all flatV = true := by
  rw [List.all_eq_true]
  intro x hx
  obtain ⟨o, _, rfl⟩ := List.mem_map.mp hx
  rfl
theorem of_str {gs : List Str} {i : Nat} {x : V} (hi : (gs.map V.str)[i]? = some x) : ∃ g, gs[i]? = some g ∧ g ∈ gs ∧ x = V.str g := by
  rw [List.getElem?_map] at hi
  cases z : gs[i]? with
  | none => rw [z] at hi; cases hi
  | some v => rw [z] at hi; exact ⟨v, rfl, List.mem_of_getElem? z, (Option.some.inj hi).symm⟩
theorem pget {α β : Type} {R : α → β → Prop} : ∀ {xs : List α} {ys : List β}, Paired R xs ys → ∀ {i : Nat} {x : α}, xs[i]? = some x → ∃ y, ys[i]? = some y ∧ R x y
  | _, _, .nil, i, x, e => by simp at e
  | _, _, .cons r t, 0, x, e => by simp at e; subst e; exact ⟨_, rfl, r⟩
  | _, _, .cons r t, i + 1, x, e => by
    obtain ⟨y, h1, h2⟩ := pget t (i := i) (x := x) (by simpa using e)
    exact ⟨y, by simpa using h1, h2⟩
theorem plen {α β : Type} {R : α → β → Prop} : ∀ {xs : List α} {ys : List β}, Paired R xs ys → xs.length = ys.length
  | _, _, .nil => rfl
  | _, _, .cons _ t => by rw [List.length_cons, List.length_cons, plen t]
theorem psnoc {α β : Type} {R : α → β → Prop} {a : α} {b : β} : ∀ {xs : List α} {ys : List β}, Paired R xs ys → R a b → Paired R (xs ++ [a]) (ys ++ [b])
  | _, _, .nil, r => .cons r .nil
  | _, _, .cons q t, r => .cons q (psnoc t r)
/-- the names that stand there more than once -/
def twice (cs : List Str) (x : Str) : Bool := decide (((cs.map V.str).countP fun z => eqV z (.str x)) > 1)
def reps (cs : List Str) : List Str := cs.filter (twice cs)
def Least (l : List Str) (m : Str) : Prop := m ∈ l ∧ ∀ x ∈ l, m.cps.toList ≤ x.cps.toList
/-- the first row of another length -/
def bad (n : Nat) : Nat → List Nat → Option Nat
  | _, [] => none
  | i, m :: r => if m = n then bad n (i + 1) r else some i
/-- an exception's class with an __init__ that stores its one argument -/
structure ExK (P : Program) (w : World) (K : PySem.W.Frag) (mg : Str → Option Value) (base : Heap) (x at' : Str) (C : Addr) : Prop where
  ex : ∃ bm newId initId Bn fI fdI, OwnI x C bm newId fI mg base ∧ ExcBaseFacts Bn newId initId bm ∧ FnOk P w K mg base CX0 1 fI fdI ["self", at'] (spEI C at') ∧ Binds K fdI ["self", at'] [] ∧ PySem.W.keepIn K (.ref C) = true
def CalE (P : Program) (w : World) (K : PySem.W.Frag) (mg : Str → Option Value) (base : Heap) (x : Str) (k : Nat) (ps : List Str) (sp : Sp) : Prop :=
  ∃ f fd, FnOk P w K mg base (CXe P w) k f fd ps sp ∧ Binds K fd ps [] ∧ PySem.W.keepIn K (.ref f) = true ∧ mg x = some (.ref f)
def spCheckC (C : Addr) : Sp := fun vs H Q E => ∃ (tc : Addr) (cs : List Str), vs = [.ref tc] ∧ H tc = some (.tup (cs.map V.str)) ∧ cs.length ≤ 100 ∧ (reps cs = [] → ∀ H', Same H H' → Q .non H') ∧ ∀ m H' dx, Least (reps cs) m → Same H H' → H' dx = none → E (.ref C) (some dx) (upd H' dx (.xd [("name", .str m)]))
/-- a kept row, by its length -/
def Wid (H : Hp) (x : V) (n : Nat) : Prop := ∃ (a rt : Addr) (cv : V) (ys : List V), x = .ref a ∧ H a = some (.tup [.ref rt, cv]) ∧ H rt = some (.tup ys) ∧ ys.length = n
def spCheckR (C : Addr) : Sp := fun vs H Q E => ∃ (tr : Addr) (xs : List V) (n : Nat) (ns : List Nat), vs = [.ref tr, .int n] ∧ H tr = some (.tup xs) ∧ Paired (Wid H) xs ns ∧ (bad n 0 ns = none → ∀ H', Same H H' → Q .non H') ∧ ∀ i H' dx, bad n 0 ns = some i → Same H H' → H' dx = none → E (.ref C) (some dx) (upd H' dx (.xd [("row", .int i)]))
theorem ndC2 : (["name", "columns"] : List Str).Nodup := by decide +kernel
section
variable {P : Program} {w : World} {K : PySem.W.Frag} {mg : Str → Option Value} {base : Heap} {f : Addr} {fd : FuncData} {C : Addr}
theorem scTwI : FnScope ["self", "name"] ["self", "name"] (defScope sTwInit) := ⟨rfl, rfl, rfl, by decide +kernel, rfl, by decide +kernel, by decide +kernel⟩
theorem ok_twinit (F : Fun K "__init__" "Twice.__init__" sTwInit f fd) (Z : ClsS K C "name") : FnOk P w K mg base CX0 1 f fd ["self", "name"] (spEI C "name") := by
  refine F.ok scTwI (fun vs H Q E h => ?_) (fun cdv A outer s H vs Q E hr h => ?_)
  · obtain ⟨e, x, rfl, _⟩ := h
    rfl
  obtain ⟨e, x, rfl, he, q⟩ := h
  refine ⟨_, pss_one (ps_fldE rfl (pv 0) (pv 1)), ?_⟩
  exact ⟨_, rfl, _, rfl, e, C, rfl, he, Z, fun dx hdx => q dx hdx⟩
theorem scShI : FnScope ["self", "row"] ["self", "row"] (defScope sShInit) := ⟨rfl, rfl, rfl, by decide +kernel, rfl, by decide +kernel, by decide +kernel⟩
theorem ok_shinit (F : Fun K "__init__" "Short.__init__" sShInit f fd) (Z : ClsS K C "row") : FnOk P w K mg base CX0 1 f fd ["self", "row"] (spEI C "row") := by
  refine F.ok scShI (fun vs H Q E h => ?_) (fun cdv A outer s H vs Q E hr h => ?_)
  · obtain ⟨e, x, rfl, _⟩ := h
    rfl
  obtain ⟨e, x, rfl, he, q⟩ := h
  refine ⟨_, pss_one (ps_fldE rfl (pv 0) (pv 1)), ?_⟩
  exact ⟨_, rfl, _, rfl, e, C, rfl, he, Z, fun dx hdx => q dx hdx⟩
theorem scCC : FnScope ["columns", "repeated"] ["columns"] (defScope sCheckC) := ⟨rfl, rfl, rfl, by decide +kernel, rfl, by decide +kernel, by decide +kernel⟩
theorem ok_checkc (Fn : Fun K "check_columns" "check_columns" sCheckC f fd) (X : Txt mg) (Z : ExK P w K mg base "Twice" "name" C) : FnOk P w K mg base (CXe P w) 3 f fd ["columns"] (spCheckC C) := by
  obtain ⟨bm, newId, initId, Bn, fI, fdI, O, FB, G, bI, kp⟩ := Z.ex
  refine Fun.okX Fn scCC (fun vs H Q E h => ?_) (fun cdv A outer s H vs Q E hr h => ?_)
  · obtain ⟨tc, cs, rfl, _⟩ := h
    rfl
  obtain ⟨tc, cs, rfl, hc, hl, q1, q2⟩ := h
  refine ⟨_, pss_cons (PS.nox (ps_setLC (i := 1) ["name"] (caps := [("columns", 0)]) rfl scCC.nd rfl rfl (pi_tup (pv 0)) ⟨rfl, by decide +kernel, by decide +kernel, rfl, .cons rfl (.inl rfl) rfl .nil, rfl, rfl, rfl⟩
      (fun s H ex => pg_name (X := cxLG _ _ _ _ s H ex) (i := 0) ndC2 rfl (Or.inl rfl) (.inr rfl))
      (fun s H ex => pif_one (pt_cmpR op_gt (pe_bmT (X := cxLG _ _ _ _ s H ex) PySem.F.slot_tuple_count PySem.F.type_tuple_count mt_countT (pe_var (X := cxLG _ _ _ _ s H ex) (i := 1) rfl (Or.inr (Or.inl rfl))) (pa_cons (pe_var (X := cxLG _ _ _ _ s H ex) (i := 0) rfl (Or.inl rfl)) pa_nil)) pe_int (nomark _)))
      (fun s H ex => pe_var (X := cxLG _ _ _ _ s H ex) (i := 0) rfl (Or.inl rfl)) rfl))
    (pss_one (ps_if (pt_truth (pv 1) (fun _ => rfl)) (pss_one (ps_raise1 O FB G bI kp hr rfl (pa_cons (pe_callB (call_min_strs rfl) rfl X.min PyProof.Rows.boot_min (pa_cons (pv 1) pa_nil)) pa_nil))) pss_nil)), ?_⟩
  refine ⟨_, rfl, tc, rfl, ⟨_, SqT.of hc⟩, fun D hD => ?_⟩
  refine lcg_tupR (K := K) (a := tc) (xs := cs.map V.str) (fun i σ H2 => ∃ (u : Option V), σ = [u, some (.ref tc)] ∧ Same H H2 ∧ H2 D = some (.lst (((cs.take i).filter (twice cs)).map V.str)))
    ⟨none, rfl, same_new hD _, upd_same⟩ (fun i σ H2 _ ⟨_, _, z, _⟩ => SqT.of (z _ _ hc)) ?_ ?_
  · rintro i v σ H2 hi ⟨u, rfl, s2, h2⟩
    obtain ⟨x, hxi, hxm, rfl⟩ := of_str hi
    have hil := (List.getElem?_eq_some_iff.mp hxi).1
    refine ⟨_, rfl, ⟨tc, _, rfl, s2 _ _ hc⟩, _, rfl, tc, _, _, rfl, rfl, s2 _ _ hc, rfl, str_flat cs, _, _, rfl, rfl, _, rfl, ?_⟩
    have e : decide ((((cs.map V.str).countP fun z => eqV z (.str x) : Nat) : Int) > 1) = twice cs x := by
      unfold twice
      rw [Bool.eq_iff_iff, decide_eq_true_iff, decide_eq_true_iff]
      omega
    rw [e]
    rw [take_snoc hxi, List.filter_append]
    cases hv : twice cs x with
    | false =>
      refine iteF ⟨_, rfl, s2, ?_⟩
      rw [List.filter_cons_of_neg (by rw [hv]; decide), List.filter_nil, List.append_nil]
      exact h2
    | true =>
      refine iteT ⟨_, rfl, _, h2, ?_, _, rfl, same_upd s2 hD _, ?_⟩
      · rw [List.length_map]
        have := List.length_filter_le (twice cs) (cs.take i)
        rw [List.length_take] at this
        exact small1000 (by omega)
      · rw [upd_same, List.filter_cons_of_pos hv, List.filter_nil, List.map_append]; rfl
  · rintro σ H2 ⟨u, rfl, s2, h2⟩
    rw [List.length_map, List.take_length] at h2
    have h2' : H2 D = some (.lst ((reps cs).map V.str)) := h2
    refine ⟨_, rfl, _, .inl ⟨_, SqL.of h2', rfl⟩, ?_⟩
    cases hz : reps cs with
    | nil =>
      rw [hz] at q1
      exact iteF (q1 rfl H2 s2)
    | cons y r =>
      refine iteT ⟨_, rfl, D, reps cs, rfl, SqL.of h2', by rw [hz]; simp, fun m hm1 hm2 => ⟨_, rfl, fun dx hdx => ?_⟩⟩
      exact q2 m H2 dx ⟨hm1, hm2⟩ s2 hdx
theorem scCR : FnScope ["rows", "width", "number", "row"] ["rows", "width"] (defScope sCheckR) := ⟨rfl, rfl, rfl, by decide +kernel, rfl, by decide +kernel, by decide +kernel⟩
theorem ok_checkr (Fn : Fun K "check_rows" "check_rows" sCheckR f fd) (X : Txt mg) (Z : ExK P w K mg base "Short" "row" C) : FnOk P w K mg base (CXe P w) 3 f fd ["rows", "width"] (spCheckR C) := by
  obtain ⟨bm, newId, initId, Bn, fI, fdI, O, FB, G, bI, kp⟩ := Z.ex
  refine Fun.okX Fn scCR (fun vs H Q E h => ?_) (fun cdv A outer s H vs Q E hr h => ?_)
  · obtain ⟨tr, xs, n, ns, rfl, _⟩ := h
    rfl
  obtain ⟨tr, xs, n, ns, rfl, ht, hw, q1, q2⟩ := h
  refine ⟨_, pss_one (ps_for PassesOwn.leaving rfl (pi_enumT rfl X.range2 (pa_cons (pv 0) pa_nil)) (pg_tup rfl (pgs_cons (pg_name (i := 2) scCR.nd rfl (Or.inl rfl)) (pgs_cons (pg_name (i := 3) scCR.nd rfl (Or.inl rfl)) pgs_nil)))
      (pss_one (ps_if (pt_cmpR op_ne (pe_callB call_len_seq rfl X.len PySem.boot_len (pa_cons (pe_ix ix_tup (pv 3) pe_int (fun _ _ => rfl)) pa_nil)) (pv 1) (nomark _)) (pss_one (ps_raise1 O FB G bI kp hr rfl (pa_cons (pv 2) pa_nil))) pss_nil))), ?_⟩
  refine ⟨_, rfl, tr, _, rfl, SqT.of ht, for_enumT (K := K) (a := tr) (xs := xs) (fun i σ H2 => ∃ (u2 u3 : Option V), σ = [some (.ref tr), some (.int n), u2, u3] ∧ Same H H2 ∧ bad n 0 ns = bad n i (ns.drop i))
    ⟨none, none, rfl, Same.refl _, rfl⟩ (fun i σ H2 _ ⟨_, _, _, z, _⟩ => SqT.of (z _ _ ht)) ?_ ?_⟩
  · rintro i x t0 σ H2 hi ht0 ⟨u2, u3, rfl, s2, hb⟩
    obtain ⟨m, hmi, a, rt, cv, ys, rfl, ha, hrt, hl⟩ := pget hw hi
    obtain ⟨hlt, hge⟩ := List.getElem?_eq_some_iff.mp hmi
    rw [List.drop_eq_getElem_cons hlt, hge] at hb
    have s3 := same_new ht0 (.tup [.int i, .ref a])
    have w3 := s2.trans s3
    refine ⟨t0, _, rfl, SqT.of upd_same, rfl, _, _, rfl, _, _, rfl, rfl, ?_⟩
    refine ⟨_, rfl, a, _, _, _, rfl, rfl, SqT.of (w3 _ _ ha), rfl, rt, _, rfl, .inr (SqT.of (w3 _ _ hrt)), _, rfl, rfl, _, rfl, ?_⟩
    by_cases e : m = n
    · refine iteFd ?_ ⟨_, _, rfl, w3, ?_⟩
      · rw [dec_int, hl, e]
        simp
      · rw [hb]
        show (if m = n then bad n (i + 1) (ns.drop (i + 1)) else some i) = _
        rw [if_pos e]
    · refine iteTd ?_ ⟨_, rfl, _, rfl, fun dx hdx => q2 i _ dx ?_ w3 hdx⟩
      · rw [dec_int, hl]
        simp
        omega
      · rw [hb]
        show (if m = n then bad n (i + 1) (ns.drop (i + 1)) else some i) = some i
        rw [if_neg e]
  · rintro σ H2 ⟨u2, u3, rfl, s2, hb⟩
    refine q1 ?_ H2 s2
    rw [hb, plen hw, List.drop_length]
    rfl
end
end K32
set_option maxHeartbeats 4000000
namespace L2
open PySem PySem.Spec PyProof.Rows
section
variable {X : Cx}
theorem pg_tupK {K : PySem.W.Frag} {es : List Expr} {k : Nat} {t : TGs} {n : Nat} {pos : Pos} (hK : X.K = K) (hc : X.calm = true) (h : PGs X es t) (hn : (assignEach es X.env).length = n := by rfl) (hst : (assignEach es X.env).findIdx? (·.1) = none := by rfl) : PG X (.Tuple es k pos) (gTup K n t) := by
  subst hK; exact pg_tup hc h hn hst
def rTupOf (K : PySem.W.Frag) : List V → Hp → VK → Prop := fun xs H Q => ∃ p ys, xs = [.ref p] ∧ ((SqL K H p ys ∧ ∀ l, H l = none → Q (.ref l) (upd H l (.tup ys))) ∨ (SqT K H p ys ∧ Q (.ref p) H))
theorem call_tuple_ofK {K : PySem.W.Frag} (hK : X.K = K) : CallR X (.type "tuple") (rTupOf K) := by
  subst hK; exact call_tuple_of
end
end L2
namespace K32
open PySem L2 CD
theorem map_kVs (xs : List Str) : xs.map V.str = (xs.map (Sum.inr : Str → Key)).map kV := by rw [List.map_map]; rfl
theorem map_kVi (xs : List Int) : xs.map V.int = (xs.map (Sum.inl : Int → Key)).map kV := by rw [List.map_map]; rfl
theorem strs_setP {ks kys : List Key} {Pd : Key → Prop} {pool : List Key} (nd : ks.Nodup) (hm : ∀ k, k ∈ ks ↔ k ∈ (strsIn kys).map Sum.inr) (hk : ∀ k : Key, k ∈ kys ↔ Pd k) (hp : ∀ k, Pd k → k ∈ pool) (pl : pool.length < 64) :
    ∃ xs : List Str, ks = xs.map Sum.inr ∧ xs.Nodup ∧ xs.length < 64 ∧ ∀ x, x ∈ xs ↔ Pd (Sum.inr x) := by
  obtain ⟨xs, rfl⟩ := allStr (ks := ks) (fun k h => by obtain ⟨x, _, e⟩ := List.mem_map.mp ((hm k).mp h); exact ⟨x, e.symm⟩)
  have mem : ∀ x, x ∈ xs ↔ Pd (Sum.inr x) := fun x => by
    have h1 := hm (Sum.inr x)
    rw [List.mem_map, List.mem_map] at h1
    rw [← hk, ← mem_strsIn]
    constructor
    · intro hx
      obtain ⟨y, hy, e⟩ := h1.mp ⟨x, hx, rfl⟩
      exact (Sum.inr.inj e) ▸ hy
    · intro hx
      obtain ⟨y, hy, e⟩ := h1.mpr ⟨x, hx, rfl⟩
      exact (Sum.inr.inj e) ▸ hy
  refine ⟨xs, rfl, nodup_of_map nd, ?_, mem⟩
  have := nodup_sub (l := xs.map (Sum.inr : Str → Key)) (m := pool) nd (fun k hk => by
    obtain ⟨x, hx, rfl⟩ := List.mem_map.mp hk
    exact hp _ ((mem x).mp hx))
  rw [List.length_map] at this
  omega
theorem ints_setP {ks kys : List Key} {Pd : Key → Prop} {pool : List Key} (nd : ks.Nodup) (hm : ∀ k, k ∈ ks ↔ k ∈ (intsIn kys).map Sum.inl) (hk : ∀ k : Key, k ∈ kys ↔ Pd k) (hp : ∀ k, Pd k → k ∈ pool) (pl : pool.length < 64) :
    ∃ xs : List Int, ks = xs.map Sum.inl ∧ xs.Nodup ∧ xs.length < 64 ∧ ∀ x, x ∈ xs ↔ Pd (Sum.inl x) := by
  obtain ⟨xs, rfl⟩ := allInt (ks := ks) (fun k h => by obtain ⟨x, _, e⟩ := List.mem_map.mp ((hm k).mp h); exact ⟨x, e.symm⟩)
  have mem : ∀ x, x ∈ xs ↔ Pd (Sum.inl x) := fun x => by
    have h1 := hm (Sum.inl x)
    rw [List.mem_map, List.mem_map] at h1
    rw [← hk, ← mem_intsIn]
    constructor
    · intro hx
      obtain ⟨y, hy, e⟩ := h1.mp ⟨x, hx, rfl⟩
      exact (Sum.inl.inj e) ▸ hy
    · intro hx
      obtain ⟨y, hy, e⟩ := h1.mpr ⟨x, hx, rfl⟩
      exact (Sum.inl.inj e) ▸ hy
  refine ⟨xs, rfl, nodup_of_map nd, ?_, mem⟩
  have := nodup_sub (l := xs.map (Sum.inl : Int → Key)) (m := pool) nd (fun k hk => by
    obtain ⟨x, hx, rfl⟩ := List.mem_map.mp hk
    exact hp _ ((mem x).mp hx))
  rw [List.length_map] at this
  omega
theorem ndRC : (["row", "cond"] : List Str).Nodup := by decide +kernel
abbrev Row := List Key
def RowI (Tt : Addr) (H : Hp) (v : V) (r : Row) : Prop := ∃ (a rr : Addr) (cv : V), v = .ref a ∧ H a = some (.tup [.ref rr, cv]) ∧ H rr = some (.lst (r.map kV)) ∧ IsTr Tt H cv
/-- a kept row: its tuples now, its condition from before -/
def RowX (Tt : Addr) (H0 H : Hp) (v : V) (r : Row) : Prop := ∃ (a rt : Addr) (cv : V), v = .ref a ∧ H a = some (.tup [.ref rt, cv]) ∧ H rt = some (.tup (r.map kV)) ∧ IsTr Tt H0 cv
/-- tuples stay -/
def KT (H H' : Hp) : Prop := ∀ x xs, H x = some (.tup xs) → H' x = some (.tup xs)
theorem KT.of {H H' : Hp} (s : Same H H') : KT H H' := fun x xs h => s _ _ h
theorem KT.keepB {BC : Addr} {H H' : Hp} {b dx : Addr} {fs : List (Str × V)} (k : KeepB b H H') (hb : H b = some (.ins BC dx fs)) : KT H H' := fun x xs h => k _ _ (fun e => by rw [e, hb] at h; cases h) h
theorem KT.updL {H : Hp} {D : Addr} {ys zs : List V} (h : H D = some (.lst ys)) : KT H (upd H D (.lst zs)) := fun x xs hx => by rw [upd_ne (fun e => by rw [e, h] at hx; cases hx)]; exact hx
theorem rowx_kt {Tt : Addr} {H0 H H' : Hp} (k : KT H H') : ∀ {xs : List V} {rows : List Row}, Paired (RowX Tt H0 H) xs rows → Paired (RowX Tt H0 H') xs rows
  | _, _, .nil => .nil
  | _, _, .cons ⟨a, rt, cv, e, h1, h2, h3⟩ r => .cons ⟨a, rt, cv, e, k _ _ h1, k _ _ h2, h3⟩ (rowx_kt k r)
theorem wid_of {Tt : Addr} {H0 H : Hp} : ∀ {xs : List V} {rows : List Row}, Paired (RowX Tt H0 H) xs rows → Paired (Wid H) xs (rows.map List.length)
  | _, _, .nil => .nil
  | _, _, .cons ⟨a, rt, cv, e, h1, h2, h3⟩ t => .cons ⟨a, rt, cv, _, e, h1, h2, by rw [List.length_map]⟩ (wid_of t)
def bmeths : List Str := ["columns", "rows"]
/-- a table -/
def IsB (BC : Addr) (H : Hp) (b : Addr) (cs : List Str) (n : Nat) : Prop := ∃ (dx tc tr : Addr) (fs : List (Str × V)) (xs : List V), H b = some (.ins BC dx fs) ∧ (∀ m ∈ bmeths, fs.lookup m = none) ∧ fs.lookup ("kept_columns" : Str) = some (.ref tc) ∧ H tc = some (.tup (cs.map V.str)) ∧ fs.lookup ("kept_rows" : Str) = some (.ref tr) ∧ H tr = some (.tup xs) ∧ xs.length = n
structure Bz (K : PySem.W.Frag) (BC : Addr) : Prop where
  cl : Cls K BC
  nc : NoAttr K BC "kept_columns"
  nr : NoAttr K BC "kept_rows"
  nw : NoAttr K BC "kept_whole"
  ng : NoAttr K BC "kept_gaps"
  nv : NoAttr K BC "kept_values"
theorem bm_put {fs : List (Str × V)} {g : Str} {y : V} (hg : g ∉ bmeths) (h : ∀ m ∈ bmeths, fs.lookup m = none) : ∀ m ∈ bmeths, (putF g y fs).lookup m = none := by
  intro m hm
  rw [lookup_putF, if_neg (fun z : m = g => hg (z ▸ hm))]
  exact h m hm
theorem nb1 : ("kept_columns" : Str) ∉ bmeths := by unfold bmeths; decide +kernel
theorem nb2 : ("kept_rows" : Str) ∉ bmeths := by unfold bmeths; decide +kernel
theorem nb3 : ("kept_whole" : Str) ∉ bmeths := by unfold bmeths; decide +kernel
theorem nb4 : ("kept_gaps" : Str) ∉ bmeths := by unfold bmeths; decide +kernel
theorem nb5 : ("kept_values" : Str) ∉ bmeths := by unfold bmeths; decide +kernel
/-- what a table's __init__ does -/
def spBE (Tt BC CT CS : Addr) : Sp := fun vs H Q E => ∃ (b dx ca ra : Addr) (cs : List Str) (ys : List V) (rows : List Row) (pool : List Key) (H0 : Hp), vs = [.ref b, .ref ca, .ref ra, .non] ∧ H b = some (.ins BC dx []) ∧ Same H0 H ∧ H0 b = none ∧ H0 ca = some (.lst (cs.map V.str)) ∧ cs.length ≤ 10 ∧ H0 ra = some (.lst ys) ∧ Paired (RowI Tt H0) ys rows ∧ rows.length ≤ 20 ∧ (∀ r ∈ rows, r.length ≤ 10) ∧ pool.length ≤ 40 ∧ (∀ r ∈ rows, ∀ k ∈ r, k ∈ pool) ∧
  (∀ m H' dx', Least (reps cs) m → Same H0 H' → H' dx' = none → E (.ref CT) (some dx') (upd H' dx' (.xd [("name", .str m)]))) ∧
  (reps cs = [] → ∀ i H' dx', bad cs.length 0 (rows.map List.length) = some i → Same H0 H' → H' dx' = none → E (.ref CS) (some dx') (upd H' dx' (.xd [("row", .int i)]))) ∧
  (reps cs = [] → bad cs.length 0 (rows.map List.length) = none → ∀ H', Same H0 H' → IsB BC H' b cs rows.length → Q .non H')
abbrev nmB : List Str := ["self", "columns", "rows", "whole", "cells", "row", "cond"]
section
variable {P : Program} {w : World} {K : PySem.W.Frag} {mg : Str → Option Value} {base : Heap} {f : Addr} {fd : FuncData} {Tt CC BC CT CS : Addr}
theorem scBI : FnScope nmB ["self", "columns", "rows", "whole"] (defScope sBInit) := ⟨rfl, rfl, rfl, by decide +kernel, rfl, by decide +kernel, by decide +kernel⟩
/-- what stands in the rows -/
theorem bi_tail {cdv : Value} {A : Around} {outer : List Env} {s : Shared} {H0' : Hp} {E : XK} {n : Nat} (hr : Room n (A.deeper (PyProof.Rows.envOfC "Table.__init__" (defScope sBInit) s.heap.objs.size f cdv))) (hn : 1 ≤ n) (X : Txt mg) (Z : Bz K BC)
    (C1 : Cal P w K mg base "gaps_among" 1 ["cells"] (spGapsA K)) (C2 : Cal P w K mg base "values_among" 1 ["cells"] (spValsA K)) (C3 : Cal P w K mg base "cells_within" 1 ["parts"] (spCellsW Tt)) :
    ∃ t, PSs (cxOf (CXe P w) P w K mg base nmB "Table.__init__" (defScope sBInit) f cdv A outer s H0' E) ((defBody sBInit).drop 5) t ∧
      ∀ (Q : VK) (H0 H : Hp) (b dx tr : Addr) (v1 v2 v3 : Option V) (fs : List (Str × V)) (xs : List V) (rows : List Row) (cw : V) (pool : List Key), H b = some (.ins BC dx fs) → fs.length ≤ 10 → fs.lookup ("kept_rows" : Str) = some (.ref tr) → H tr = some (.tup xs) → Paired (RowX Tt H0 H) xs rows → fs.lookup ("kept_whole" : Str) = some cw → IsTr Tt H cw → Same H0 H →
        rows.length ≤ 20 → (∀ r ∈ rows, r.length ≤ 10) → pool.length ≤ 40 → (∀ r ∈ rows, ∀ k ∈ r, k ∈ pool) →
        (∀ (H' : Hp) (tg tv : Addr), KeepB b H H' → H' b = some (.ins BC dx (putF "kept_values" (.ref tv) (putF "kept_gaps" (.ref tg) fs))) → Q .non H') →
        t { nx := fun _ H' => Q .non H', rt := Q } [some (.ref b), v1, v2, v3, none, none, none] H := by
  obtain ⟨g1, d1, G1, b1, k1, m1⟩ := C1
  obtain ⟨g2, d2, G2, b2, k2, m2⟩ := C2
  obtain ⟨g3, d3, G3, b3, k3, m3⟩ := C3
  have hr1 : Room 1 _ := hr.mono hn
  refine ⟨_, PSs.nox (pss_cons (ps_set (i := 4) scBI.nd rfl (Or.inl rfl) (pe_call G3 hr1 rfl m3 k3 b3 .nil pass0 (pa_cons (pe_op op_cat
        (pe_lcG (caps := []) ["row", "cond"] rfl (pi_tup (pe_fld (pv 0) rfl)) ⟨rfl, by decide +kernel, by decide +kernel, rfl, .nil, rfl, rfl, rfl⟩
          (fun s H ex => pg_tupK (K := K) (n := 2) rfl rfl (pgs_cons (pg_name (X := cxLG _ _ _ _ s H ex) (i := 0) ndRC rfl (Or.inl rfl) (.inr rfl)) (pgs_cons (pg_name (X := cxLG _ _ _ _ s H ex) (i := 1) ndRC rfl (Or.inl rfl) (.inr rfl)) pgs_nil))) (fun s H ex => pif_nil)
          (fun s H ex => pe_var (X := cxLG _ _ _ _ s H ex) (i := 1) rfl (Or.inl rfl)))
        (pe_lst (pa_cons (pe_fld (pv 0) rfl) pa_nil))) pa_nil)))
    (pss_cons (ps_for PassesOwn.never rfl (pi_tup (pe_fld (pv 0) rfl)) (pg_tup rfl (pgs_cons (pg_name (i := 5) scBI.nd rfl (Or.inl rfl)) (pgs_cons (pg_name (i := 6) scBI.nd rfl (Or.inl rfl)) pgs_nil)))
      (pss_one (ps_expr (pe_bm PySem.F.plainAttrs_list PySem.F.slot_list_extend PySem.F.type_list_extend mt_extendT (pv 4) (pa_cons (pv 5) pa_nil)))))
    (pss_cons (ps_fld (pv 0) (pe_callTy call_tuple_of rfl X.tuple PyProof.Rows.boot_tuple (pa_cons (pe_callB (call_sorted_setS rfl) rfl X.sorted PyProof.Rows.boot_sorted (pa_cons (pe_callTy (call_set_of rfl) rfl X.set PyProof.Rows.boot_set (pa_cons (pe_call G1 hr1 rfl m1 k1 b1 .nil pass0 (pa_cons (pv 4) pa_nil)) pa_nil)) pa_nil)) pa_nil)) rfl)
    (pss_one (ps_fld (pv 0) (pe_callTy call_tuple_of rfl X.tuple PyProof.Rows.boot_tuple (pa_cons (pe_callB (call_sorted_setI rfl) rfl X.sorted PyProof.Rows.boot_sorted (pa_cons (pe_callTy (call_set_of rfl) rfl X.set PyProof.Rows.boot_set (pa_cons (pe_call G2 hr1 rfl m2 k2 b2 .nil pass0 (pa_cons (pv 4) pa_nil)) pa_nil)) pa_nil)) pa_nil)) rfl))))), ?_⟩
  intro Q H0 H b dx tr v1 v2 v3 fs xs rows cw pool hb hfl lr htr hP lw hW s0 rl rw10 pl40 hpool q
  have len := plen hP
  -- the conditions
  refine ⟨_, rfl, b, BC, dx, fs, _, rfl, hb, Z.cl, Z.nr, lr, tr, rfl, ⟨_, SqT.of htr⟩, fun D hD => ?_⟩
  refine lcg_tupR (K := K) (a := tr) (xs := xs) (fun i σ H2 => ∃ (u1 u2 : Option V) (vs : List V), σ = [u1, u2] ∧ Same H H2 ∧ H2 D = some (.lst vs) ∧ vs.length = i ∧ ∀ v ∈ vs, IsTr Tt H v)
    ⟨none, none, [], rfl, same_new hD _, upd_same, rfl, fun v h => (nomatch h)⟩ (fun i σ H2 _ ⟨_, _, _, _, z, _⟩ => SqT.of (z _ _ htr)) ?_ ?_
  · rintro i x σ H2 hi ⟨u1, u2, vs, rfl, s2, h2, vl, hL⟩
    obtain ⟨r, hri, a, rt, cv, rfl, ha, hrt, hC⟩ := pget hP hi
    have hil := (List.getElem?_eq_some_iff.mp hri).1
    refine ⟨a, _, rfl, SqT.of (s2 _ _ ha), rfl, _, _, rfl, _, _, rfl, rfl, _, rfl, vs, h2, small1000 (by omega), _, _, vs ++ [cv], rfl, same_upd s2 hD _, upd_same, by rw [List.length_append, vl]; rfl, fun v hv => ?_⟩
    rcases List.mem_append.mp hv with hv | hv
    · exact hL v hv
    · have : v = cv := by simpa using hv
      exact this ▸ hC.keep s0
  rintro σ H2 ⟨u1, u2, vs, rfl, s2, h2, vl, hL⟩
  have hb2 := s2 _ _ hb
  refine ⟨_, rfl, b, BC, dx, fs, _, rfl, hb2, Z.cl, Z.nw, lw, small (by simp), fun L1 hL1 => ?_⟩
  have s3 := same_new hL1 (.lst [cw])
  have h3 := upd_same (H := H2) (a := L1) (o := .lst [cw])
  have h3D := s3 _ _ h2
  generalize upd H2 L1 (.lst [cw]) = H3 at s3 h3 h3D ⊢
  refine ⟨D, L1, vs, [cw], rfl, rfl, h3D, h3, small (by rw [List.length_singleton]; omega), fun L2 hL2 => ?_⟩
  have s4 := same_new hL2 (.lst (vs ++ [cw]))
  have h4 := upd_same (H := H3) (a := L2) (o := .lst (vs ++ [cw]))
  generalize upd H3 L2 (.lst (vs ++ [cw])) = H4 at s4 h4 ⊢
  have w4 : Same H H4 := s2.trans (s3.trans s4)
  refine ⟨L2, vs ++ [cw], rfl, h4, fun x hx => ?_, fun r H5 s5 hr4 h5 => ?_⟩
  · rcases List.mem_append.mp hx with hx | hx
    · exact (hL x hx).keep w4
    · have : x = cw := by simpa using hx
      exact this ▸ hW.keep w4
  have w5 := w4.trans s5
  have hb5 := w5 _ _ hb
  have htr5 := w5 _ _ htr
  have nrb : b ≠ r := fun e => by rw [e, h5] at hb5; cases hb5
  -- the cells of the rows
  refine ⟨_, rfl, b, BC, dx, fs, _, rfl, hb5, Z.cl, Z.nr, lr, tr, rfl, ⟨_, SqT.of htr5⟩, for_tup (K := K) (a := tr) (xs := xs) (fun i σ H6 => ∃ (u5 u6 : Option V) (ms : List Key), σ = [some (.ref b), v1, v2, v3, some (.ref r), u5, u6] ∧ (∀ x o, x ≠ r → H5 x = some o → H6 x = some o) ∧ H6 r = some (.lst (ms.map kV)) ∧ ms.length ≤ 10 * i ∧ ∀ k ∈ ms, k ∈ pool)
    ⟨none, none, [], rfl, fun x o _ h => h, h5, by simp, fun k h => (nomatch h)⟩ (fun i σ H6 _ ⟨_, _, _, _, z, _⟩ => SqT.of (z _ _ (fun e => by rw [e, h5] at htr5; cases htr5) htr5)) ?_ ?_⟩
  · rintro i x σ H6 hi ⟨u5, u6, ms, rfl, k6, h6, ml, mm⟩
    obtain ⟨r', hri, a, rt, cv, rfl, ha, hrt, hC⟩ := pget hP hi
    have hil := (List.getElem?_eq_some_iff.mp hri).1
    have ha5 := w5 _ _ ha
    have hrt5 := w5 _ _ hrt
    have ha6 := k6 _ _ (fun e => by rw [e, h5] at ha5; cases ha5) ha5
    have hrt6 := k6 _ _ (fun e => by rw [e, h5] at hrt5; cases hrt5) hrt5
    have r10 := rw10 r' (List.mem_of_getElem? hri)
    refine ⟨a, _, rfl, SqT.of ha6, rfl, _, _, rfl, _, _, rfl, rfl, ?_⟩
    refine ⟨_, rfl, .inl ⟨rfl, _, SqL.of h6⟩, _, rfl, r, rt, _, _, rfl, rfl, h6, SqT.of hrt6, small (by rw [List.length_map, List.length_map]; omega), ?_⟩
    refine ⟨_, _, ms ++ r', rfl, fun x o nx hx => by rw [upd_ne nx]; exact k6 x o nx hx, by rw [upd_same, List.map_append], by rw [List.length_append]; omega, fun k hk => ?_⟩
    rcases List.mem_append.mp hk with hk | hk
    · exact mm k hk
    · exact hpool r' (List.mem_of_getElem? hri) k hk
  rintro σ H6 ⟨u5, u6, ms, rfl, k6, h6, ml, mm⟩
  rw [len] at ml
  have s6 : Same H H6 := fun x o hx => k6 x o (fun e => by
    rw [e] at hx
    have := w4 _ _ hx
    rw [hr4] at this
    cases this) (w5 _ _ hx)
  have hb6 := s6 _ _ hb
  -- the gaps
  refine ⟨_, rfl, r, ms, rfl, SqL.of h6, by omega, fun l1 H7 s7 hl1 => ⟨l1, (strsIn ms).map Sum.inr, rfl, SqL.of (by rw [← map_kVs]; exact hl1), by rw [List.length_map]; exact Nat.le_trans (strsIn_len _) (by omega), fun l2 kz hl2 nd hm => ?_⟩⟩
  obtain ⟨gs0, rfl, gnd, gl, gm⟩ := strs_setP (Pd := fun k => k ∈ ms) nd hm (fun _ => Iff.rfl) mm (by omega)
  refine ⟨l2, gs0, rfl, upd_same, gl, fun l3 gs hl3 pg sg => ⟨l3, _, rfl, .inl ⟨SqL.of upd_same, fun tg htg => ?_⟩⟩⟩
  generalize SetO _ _ l2 (List.map Sum.inr gs0) = so at hl3 htg ⊢
  have s8 := s7.trans ((same_new hl2 so).trans ((same_new hl3 (.lst (gs.map V.str))).trans (same_new htg (.tup (gs.map V.str)))))
  have hg8 := upd_same (H := upd (upd H7 l2 so) l3 (.lst (gs.map V.str))) (a := tg) (o := .tup (gs.map V.str))
  generalize upd (upd (upd H7 l2 so) l3 (.lst (gs.map V.str))) tg (.tup (gs.map V.str)) = H8 at s8 hg8 ⊢
  have hb8 := s8 _ _ hb6
  refine ⟨_, rfl, b, BC, dx, fs, rfl, hb8, Z.cl, Z.ng, by omega, ?_⟩
  have kb9 : KeepB b H6 (upd H8 b (.ins BC dx (putF "kept_gaps" (.ref tg) fs))) := (KeepB.of s8).trans KeepB.upd
  have hb9 := upd_same (H := H8) (a := b) (o := .ins BC dx (putF "kept_gaps" (.ref tg) fs))
  generalize upd H8 b (.ins BC dx (putF "kept_gaps" (.ref tg) fs)) = H9 at kb9 hb9 ⊢
  have h9 := kb9 _ _ (Ne.symm nrb) h6
  -- the values
  refine ⟨_, rfl, r, ms, rfl, SqL.of h9, by omega, fun j1 J1 z1 hj1 => ⟨j1, (intsIn ms).map Sum.inl, rfl, SqL.of (by rw [← map_kVi]; exact hj1), by rw [List.length_map]; exact Nat.le_trans (intsIn_len _) (by omega), fun j2 kz hj2 nd' hm' => ?_⟩⟩
  obtain ⟨vs0, rfl, vnd, vl', vm⟩ := ints_setP (Pd := fun k => k ∈ ms) nd' hm' (fun _ => Iff.rfl) mm (by omega)
  refine ⟨j2, vs0, rfl, upd_same, vl', fun j3 vs hj3 pv' sv => ⟨j3, _, rfl, .inl ⟨SqL.of upd_same, fun tv htv => ?_⟩⟩⟩
  generalize SetO _ _ j2 (List.map Sum.inl vs0) = so' at hj3 htv ⊢
  have sA := z1.trans ((same_new hj2 so').trans ((same_new hj3 (.lst (vs.map V.int))).trans (same_new htv (.tup (vs.map V.int)))))
  generalize upd (upd (upd J1 j2 so') j3 (.lst (vs.map V.int))) tv (.tup (vs.map V.int)) = HA at sA ⊢
  have hbA := sA _ _ hb9
  have lf1 := length_putF "kept_gaps" (.ref tg) fs
  refine ⟨_, rfl, b, BC, dx, _, rfl, hbA, Z.cl, Z.nv, by omega, ?_⟩
  exact q _ tg tv ((KeepB.of s6).trans (kb9.trans ((KeepB.of sA).trans KeepB.upd))) upd_same
end
end K32
set_option maxHeartbeats 4000000
namespace K32
open PySem L2 CD
section
variable {P : Program} {w : World} {K : PySem.W.Frag} {mg : Str → Option Value} {base : Heap} {f : Addr} {fd : FuncData} {Tt CC BC CT CS : Addr}
theorem IsTr.keepB {H H' : Hp} {b dx : Addr} {fs : List (Str × V)} {v : V} (k : KeepB b H H') (hb : H b = some (.ins BC dx fs)) (ne : Tt ≠ BC) (h : IsTr Tt H v) : IsTr Tt H' v := by
  obtain ⟨a, dx', tg, tv, fs', e, h1, h2, h3, h4, h5⟩ := h
  exact ⟨a, dx', tg, tv, fs', e, k _ _ (fun e => by rw [e, hb] at h1; cases h1; exact ne rfl) h1, h2, k _ _ (fun e => by rw [e, hb] at h3; cases h3) h3, h4, k _ _ (fun e => by rw [e, hb] at h5; cases h5) h5⟩
theorem ok_binit (F : FunD K "__init__" "Table.__init__" sBInit f fd) (X : Txt mg) (Z : Bz K BC) (ne : Tt ≠ BC)
    (C1 : Cal P w K mg base "gaps_among" 1 ["cells"] (spGapsA K)) (C2 : Cal P w K mg base "values_among" 1 ["cells"] (spValsA K)) (C3 : Cal P w K mg base "cells_within" 1 ["parts"] (spCellsW Tt)) (C4 : CalE P w K mg base "check_columns" 3 ["columns"] (spCheckC CT)) (C5 : CalE P w K mg base "check_rows" 3 ["rows", "width"] (spCheckR CS))
    (M1 : MkC P w K mg base "Truth" Tt 3 ["self", "said"] (spTI Tt)) : FnOk P w K mg base (CXe P w) 5 f fd ["self", "columns", "rows", "whole"] (spBE Tt BC CT CS) := by
  refine FunD.okX F (k := 4) scBI (fun vs H Q E h => ?_) (fun cdv A outer s H vs Q E hr h => ?_)
  · obtain ⟨b, dx, ca, ra, cs, ys, rows, pool, H0, rfl, _⟩ := h
    rfl
  obtain ⟨b, dx, ca, ra, cs, xs, rows, pool, H0, rfl, hb, s0, h0b, hca, cl, hra, hP, rl, r10, pl40, hpool, qT, qS, q⟩ := h
  obtain ⟨tt, ht, q5⟩ := bi_tail (P := P) (w := w) (K := K) (mg := mg) (base := base) (f := f) (outer := outer) (H0' := H) (E := E) hr (by decide) X Z C1 C2 C3
  obtain ⟨g4, d4, G4, b4, k4, m4⟩ := C4
  obtain ⟨g5, d5, G5, b5, k5, m5⟩ := C5
  obtain ⟨f1, d1, mk1, G1, b1, m1⟩ := M1
  have hr3 : Room 3 _ := hr.mono (by decide)
  have len := plen hP
  refine ⟨_, pss_cons (PS.nox (ps_fld (pv 0) (pe_callTy call_tuple_of rfl X.tuple PyProof.Rows.boot_tuple (pa_cons (pv 1) pa_nil)) rfl))
    (pss_cons (PS.nox (ps_fld (pv 0) (pe_callTy call_tuple_of rfl X.tuple PyProof.Rows.boot_tuple (pa_cons
      (pe_lcG (caps := []) ["row", "cond"] rfl (pi_list (pv 2)) ⟨rfl, by decide +kernel, by decide +kernel, rfl, .nil, rfl, rfl, rfl⟩
        (fun s H ex => pg_tupK (K := K) (n := 2) rfl rfl (pgs_cons (pg_name (X := cxLG _ _ _ _ s H ex) (i := 0) ndRC rfl (Or.inl rfl) (.inr rfl)) (pgs_cons (pg_name (X := cxLG _ _ _ _ s H ex) (i := 1) ndRC rfl (Or.inl rfl) (.inr rfl)) pgs_nil))) (fun s H ex => pif_nil)
        (fun s H ex => pe_tup (pa_cons (pe_callTy (X := cxLG _ _ _ _ s H ex) (call_tuple_ofK (K := K) rfl) rfl X.tuple PyProof.Rows.boot_tuple (pa_cons (pe_var (X := cxLG _ _ _ _ s H ex) (i := 0) rfl (Or.inl rfl)) pa_nil)) (pa_cons (pe_var (X := cxLG _ _ _ _ s H ex) (i := 1) rfl (Or.inl rfl)) pa_nil)))) pa_nil)) rfl))
    (pss_cons (PS.nox (ps_fld (pv 0) (pe_ifExp (pt_cmpR op_isN (pv 3) pe_non (nomark _)) (pe_make mk1 G1 hr rfl m1 b1 .nil pass0 (pa_cons pe_bl pa_nil)) (pv 3)) rfl))
    (pss_cons (ps_expr (pe_call G4 hr3 rfl m4 k4 b4 .nil passesE (pa_cons (pe_fld (pv 0) rfl) pa_nil)))
    (pss_cons (ps_expr (pe_call G5 hr3 rfl m5 k5 b5 .nil passesE (pa_cons (pe_fld (pv 0) rfl) (pa_cons (pe_callB call_len_seq rfl X.len PySem.boot_len (pa_cons (pe_fld (pv 0) rfl) pa_nil)) pa_nil))))
    ht)))), ?_⟩
  -- the columns
  refine ⟨_, rfl, ca, _, rfl, .inl ⟨SqL.of (s0 _ _ hca), fun tc htc => ?_⟩⟩
  have s1 := same_new htc (.tup (cs.map V.str))
  have h1 := upd_same (H := H) (a := tc) (o := .tup (cs.map V.str))
  generalize upd H tc (.tup (cs.map V.str)) = H1 at s1 h1 ⊢
  have hb1 := s1 _ _ hb
  have ntb : tc ≠ b := fun e => by rw [e, hb1] at h1; cases h1
  refine ⟨_, rfl, b, BC, dx, [], rfl, hb1, Z.cl, Z.nc, by decide, ?_⟩
  have kb2 : KeepB b H (upd H1 b (.ins BC dx (putF "kept_columns" (.ref tc) []))) := (KeepB.of s1).trans KeepB.upd
  have hb2 := upd_same (H := H1) (a := b) (o := .ins BC dx (putF "kept_columns" (.ref tc) []))
  have htc2 : (upd H1 b (.ins BC dx (putF "kept_columns" (.ref tc) []))) tc = some (.tup (cs.map V.str)) := by rw [upd_ne ntb]; exact h1
  generalize upd H1 b (.ins BC dx (putF "kept_columns" (.ref tc) [])) = H2 at kb2 hb2 htc2 ⊢
  have s02 : Same H0 H2 := kb2.same s0 h0b
  -- the rows
  refine ⟨_, rfl, ra, rfl, ⟨_, SqL.of (s02 _ _ hra)⟩, fun D hD => ?_⟩
  refine lcg_listR (K := K) (a := ra) (xs := xs) (fun i σ H3 => ∃ (u1 u2 : Option V) (ys : List V), σ = [u1, u2] ∧ Same H2 H3 ∧ H3 D = some (.lst ys) ∧ Paired (RowX Tt H0 H3) ys (rows.take i))
    ⟨none, none, [], rfl, same_new hD _, upd_same, by rw [List.take_zero]; exact .nil⟩ (fun i σ H3 _ ⟨_, _, _, _, z, _⟩ => SqL.of ((s02.trans z) _ _ hra)) ?_ ?_
  · rintro i x σ H3 hi ⟨u1, u2, ys, rfl, s3, h3, hP3⟩
    obtain ⟨r, hri, a, rr, cv, rfl, ha, hrr, hC⟩ := pget hP hi
    have hil := (List.getElem?_eq_some_iff.mp hri).1
    have s03 := s02.trans s3
    have yl := plen hP3
    rw [List.length_take] at yl
    refine ⟨a, _, rfl, SqT.of (s03 _ _ ha), rfl, _, _, rfl, _, _, rfl, rfl, _, rfl, rr, r.map kV, rfl, ?_⟩
    refine .inl ⟨SqL.of (s03 _ _ hrr), fun rt hrt => ⟨_, rfl, small (by simp), fun t1 ht1 => ?_⟩⟩
    have s4 := same_new hrt (.tup (r.map kV))
    have hrt4 := upd_same (H := H3) (a := rt) (o := .tup (r.map kV))
    generalize upd H3 rt (.tup (r.map kV)) = H4 at s4 hrt4 ht1 ⊢
    have s5 := same_new ht1 (.tup [.ref rt, cv])
    have h5 := upd_same (H := H4) (a := t1) (o := .tup [.ref rt, cv])
    have h5D := s5 _ _ (s4 _ _ h3)
    have h5r := s5 _ _ hrt4
    generalize upd H4 t1 (.tup [.ref rt, cv]) = H5 at s5 h5 h5D h5r ⊢
    have kx : KT H5 (upd H5 D (.lst (ys ++ [.ref t1]))) := KT.updL h5D
    refine ⟨ys, h5D, small1000 (by omega), _, _, ys ++ [.ref t1], rfl, same_upd (s3.trans (s4.trans s5)) hD _, upd_same, ?_⟩
    rw [take_snoc hri]
    exact psnoc (rowx_kt kx (rowx_kt (KT.of (s4.trans s5)) hP3)) ⟨t1, rt, cv, rfl, kx _ _ h5, kx _ _ h5r, hC⟩
  rintro σ H3 ⟨u1, u2, ys, rfl, s3, h3, hP3⟩
  rw [len, List.take_length] at hP3
  refine ⟨D, _, rfl, .inl ⟨SqL.of h3, fun tr htr => ?_⟩⟩
  have s4 := same_new htr (.tup ys)
  have h4 := upd_same (H := H3) (a := tr) (o := .tup ys)
  generalize upd H3 tr (.tup ys) = H4 at s4 h4 ⊢
  have w4 := s3.trans s4
  have hb4 := w4 _ _ hb2
  have nrb : tr ≠ b := fun e => by rw [e, hb4] at h4; cases h4
  have lf1 := length_putF "kept_columns" (.ref tc) []
  refine ⟨_, rfl, b, BC, dx, _, rfl, hb4, Z.cl, Z.nr, Nat.lt_of_le_of_lt lf1 (by decide), ?_⟩
  have kb5 : KeepB b H2 (upd H4 b (.ins BC dx (putF "kept_rows" (.ref tr) (putF "kept_columns" (.ref tc) [])))) := (KeepB.of w4).trans KeepB.upd
  have hb5 := upd_same (H := H4) (a := b) (o := .ins BC dx (putF "kept_rows" (.ref tr) (putF "kept_columns" (.ref tc) [])))
  have kx5 : KT H3 (upd H4 b (.ins BC dx (putF "kept_rows" (.ref tr) (putF "kept_columns" (.ref tc) [])))) := KT.keepB ((KeepB.of s4).trans KeepB.upd) (s3 _ _ hb2)
  have htr5 : (upd H4 b (.ins BC dx (putF "kept_rows" (.ref tr) (putF "kept_columns" (.ref tc) [])))) tr = some (.tup ys) := by rw [upd_ne nrb]; exact h4
  generalize upd H4 b (.ins BC dx (putF "kept_rows" (.ref tr) (putF "kept_columns" (.ref tc) []))) = H5 at kb5 hb5 kx5 htr5 ⊢
  have htc5 := kx5 _ _ (s3 _ _ htc2)
  have hP5 := rowx_kt kx5 hP3
  have kb05 := kb2.trans kb5
  have s05 : Same H0 H5 := kb05.same s0 h0b
  have lf2 := length_putF "kept_rows" (.ref tr) (putF "kept_columns" (.ref tc) [])
  have l0 : ([] : List (Str × V)).length = 0 := rfl
  -- the whole
  refine ⟨_, rfl, rfl, _, rfl, iteT fun x dx' hx hdx ne' => ?_⟩
  have ms := mk_same (C := Tt) hx hdx
  refine ⟨x, dx', true, rfl, upd_same, fun H6 kb hC => ⟨rfl, ?_⟩⟩
  have s6 := kb.same ms hx
  have hb6 := s6 _ _ hb5
  refine ⟨_, rfl, b, BC, dx, _, rfl, hb6, Z.cl, Z.nw, by omega, ?_⟩
  have kb7 : KeepB b H5 (upd H6 b (.ins BC dx (putF "kept_whole" (.ref x) (putF "kept_rows" (.ref tr) (putF "kept_columns" (.ref tc) []))))) := (KeepB.of s6).trans KeepB.upd
  have hb7 := upd_same (H := H6) (a := b) (o := .ins BC dx (putF "kept_whole" (.ref x) (putF "kept_rows" (.ref tr) (putF "kept_columns" (.ref tc) []))))
  have kx7 : KT H5 (upd H6 b (.ins BC dx (putF "kept_whole" (.ref x) (putF "kept_rows" (.ref tr) (putF "kept_columns" (.ref tc) []))))) := KT.keepB kb7 hb5
  have hC7 : IsTr Tt (upd H6 b (.ins BC dx (putF "kept_whole" (.ref x) (putF "kept_rows" (.ref tr) (putF "kept_columns" (.ref tc) []))))) (.ref x) := hC.keepB KeepB.upd hb6 ne
  generalize upd H6 b (.ins BC dx (putF "kept_whole" (.ref x) (putF "kept_rows" (.ref tr) (putF "kept_columns" (.ref tc) [])))) = H7 at kb7 hb7 kx7 hC7 ⊢
  have lf3 := length_putF "kept_whole" (.ref x) (putF "kept_rows" (.ref tr) (putF "kept_columns" (.ref tc) []))
  have hbm := bm_put (y := .ref x) nb3 (bm_put (y := .ref tr) nb2 (bm_put (y := .ref tc) nb1 (fs := []) (fun m hm => rfl)))
  have lc : (putF "kept_whole" (.ref x) (putF "kept_rows" (.ref tr) (putF "kept_columns" (.ref tc) []))).lookup ("kept_columns" : Str) = some (.ref tc) := by rw [put_ne (by decide), put_ne (by decide), put_has]
  have lr : (putF "kept_whole" (.ref x) (putF "kept_rows" (.ref tr) (putF "kept_columns" (.ref tc) []))).lookup ("kept_rows" : Str) = some (.ref tr) := by rw [put_ne (by decide), put_has]
  have lw : (putF "kept_whole" (.ref x) (putF "kept_rows" (.ref tr) (putF "kept_columns" (.ref tc) []))).lookup ("kept_whole" : Str) = some (.ref x) := put_has
  generalize putF "kept_whole" (.ref x) (putF "kept_rows" (.ref tr) (putF "kept_columns" (.ref tc) [])) = fs at hb7 lf3 hbm lc lr lw
  have s07 : Same H0 H7 := (kb05.trans kb7).same s0 h0b
  have htc7 := kx7 _ _ htc5
  have htr7 := kx7 _ _ htr5
  have hP7 := rowx_kt kx7 hP5
  -- looked at
  refine ⟨_, rfl, b, BC, dx, fs, _, rfl, hb7, Z.cl, Z.nc, lc, tc, cs, rfl, htc7, by omega, fun hz H8 s8 => ?_, fun m H8 dx8 hm s8 hd8 => qT m H8 dx8 hm (s07.trans s8) hd8⟩
  have hb8 := s8 _ _ hb7
  refine ⟨_, rfl, b, BC, dx, fs, _, rfl, hb8, Z.cl, Z.nr, lr, _, rfl, b, BC, dx, fs, _, rfl, hb8, Z.cl, Z.nc, lc, tc, _, rfl, .inr (SqT.of (s8 _ _ htc7)), tr, ys, (cs.map V.str).length, rows.map List.length, rfl, s8 _ _ htr7, wid_of (rowx_kt (KT.of s8) hP7), fun hbd H9 s9 => ?_, fun i H9 dx9 hbd s9 hd9 => qS hz i H9 dx9 (by rw [List.length_map] at hbd; exact hbd) (s07.trans (s8.trans s9)) hd9⟩
  rw [List.length_map] at hbd
  have w9 := s8.trans s9
  have hb9 := w9 _ _ hb7
  refine q5 Q H0 H9 b dx tr _ _ _ fs ys rows (.ref x) pool hb9 (by omega) lr (w9 _ _ htr7) (rowx_kt (KT.of w9) hP7) lw (hC7.keep w9) (s07.trans w9) rl r10 pl40 hpool fun H' tg tv kb hb' => ?_
  have kt := KT.keepB kb hb9
  refine q hz hbd H' (kb.same (s07.trans w9) h0b) ⟨dx, tc, tr, _, ys, hb', bm_put nb5 (bm_put nb4 hbm), ?_, kt _ _ (w9 _ _ htc7), ?_, kt _ _ (w9 _ _ htr7), plen hP7⟩
  · rw [put_ne (by decide), put_ne (by decide)]; exact lc
  · rw [put_ne (by decide), put_ne (by decide)]; exact lr
end
end K32
set_option maxHeartbeats 4000000
namespace K32
open PySem L2 CD
/-! ### draws -/
/-- all but the state stays -/
structure KS (st : Addr) (H H' : Hp) : Prop where
  k : KeepB st H H'
  n : ∃ n : Int, H' st = some (.lst [.int n])
theorem KS.of {st : Addr} {H H' : Hp} {n : Int} (s : Same H H') (h : H st = some (.lst [.int n])) : KS st H H' := ⟨KeepB.of s, n, s _ _ h⟩
theorem KS.trans {st : Addr} {H H1 H2 : Hp} (a : KS st H H1) (b : KS st H1 H2) : KS st H H2 := ⟨a.k.trans b.k, b.n⟩
theorem KS.same {st : Addr} {H H1 H2 : Hp} (a : KS st H H1) (s : Same H1 H2) : KS st H H2 := by
  obtain ⟨n, h⟩ := a.n
  exact a.trans (KS.of s h)
def spSeed (K : PySem.W.Frag) : Sp := fun vs H Q _ => ∃ (a : Addr) (ns : List Int) (k : Nat), vs = [.ref a, .int k] ∧ SqL K H a (ns.map V.int) ∧ ∀ z : Int, Q (.int z) H
def spDraw : Sp := fun vs H Q _ => ∃ (st : Addr) (n many : Int), vs = [.ref st, .int many] ∧ 0 < many ∧ H st = some (.lst [.int n]) ∧ ∀ (z : Int) (H' : Hp), KS st H H' → 0 ≤ z → z < many → Q (.int z) H'
section
variable {P : Program} {w : World} {K : PySem.W.Frag} {mg : Str → Option Value} {base : Heap} {f : Addr} {fd : FuncData} {Tt CC BC : Addr}
theorem scSe : FnScope ["_law_script", "_law_k"] ["_law_script", "_law_k"] (defScope sSeed) := ⟨rfl, rfl, rfl, by decide +kernel, rfl, by decide +kernel, by decide +kernel⟩
theorem ok_seed (Fn : Fun K "_law_seed" "_law_seed" sSeed f fd) (X : Txt mg) : FnOk P w K mg base CX0 1 f fd ["_law_script", "_law_k"] (spSeed K) := by
  refine Fn.ok scSe (fun vs H Q E h => ?_) (fun cdv A outer s H vs Q E hr h => ?_)
  · obtain ⟨a, ns, k, rfl, _⟩ := h
    rfl
  obtain ⟨a, ns, k, rfl, hS, q⟩ := h
  refine ⟨_, pss_cons (ps_if (pt_cmpR op_lt (pv 1) (pe_callB call_len_seq rfl X.len PySem.boot_len (pa_cons (pv 0) pa_nil)) (nomark _)) (pss_one (ps_ret (pe_ix ix_list (pv 0) (pv 1) (fun _ _ => rfl)))) pss_nil)
    (pss_one (ps_ret (pe_op op_add (pe_op op_mul pe_int (pv 1)) pe_int))), ?_⟩
  refine ⟨_, rfl, _, rfl, a, _, rfl, .inl hS, _, _, rfl, rfl, _, rfl, ?_⟩
  refine ite2 (fun h1 => ?_) (fun _ => ?_)
  · have hk : k < ns.length := by
      have := of_decide_eq_true h1
      rw [List.length_map] at this
      omega
    refine ⟨_, rfl, _, rfl, a, _, _, _, rfl, rfl, hS, atI_nat (v := .int ns[k]) ?_, q _⟩
    rw [List.getElem?_map, List.getElem?_eq_getElem hk]
    rfl
  · exact ⟨_, rfl, _, _, rfl, rfl, .inl ⟨by decide, by decide⟩, _, _, rfl, rfl, q _⟩
theorem scDr : FnScope ["_law_state", "_law_many"] ["_law_state", "_law_many"] (defScope sDraw) := ⟨rfl, rfl, rfl, by decide +kernel, rfl, by decide +kernel, by decide +kernel⟩
theorem at0 {v : V} {xs : List V} : atI (v :: xs) 0 = some v := atI_nat (j := 0) rfl
theorem ok_draw (Fn : Fun K "_law_draw" "_law_draw" sDraw f fd) : FnOk P w K mg base CX0 1 f fd ["_law_state", "_law_many"] spDraw := by
  refine Fn.ok scDr (fun vs H Q E h => ?_) (fun cdv A outer s H vs Q E hr h => ?_)
  · obtain ⟨st, n, many, rfl, _⟩ := h
    rfl
  obtain ⟨st, n, many, rfl, hm, hst, q⟩ := h
  refine ⟨_, pss_cons (ps_asg (pe_op op_mod (pe_op op_add (pe_op op_mul (pe_ix ix_list (pv 0) pe_int (fun _ _ => rfl)) pe_int) pe_int) pe_int) (pg_sub (pv 0) pe_int set_list))
    (pss_one (ps_ret (pe_op op_mod (pe_op op_fdiv (pe_ix ix_list (pv 0) pe_int (fun _ _ => rfl)) pe_int) (pv 1)))), ?_⟩
  refine ⟨_, rfl, st, _, _, _, rfl, rfl, SqL.of hst, at0, _, _, rfl, rfl, .inr ⟨by decide, by decide⟩, _, _, rfl, rfl, _, _, rfl, rfl, (by show (0 : Int) < 2147483647; decide), ?_⟩
  refine ⟨_, rfl, st, _, 0, 0, rfl, rfl, hst, rfl, ?_⟩
  have h1 := upd_same (H := H) (a := st) (o := .lst [.int ((n * 48271 + 8191) % 2147483647)])
  have k1 : KeepB st H (upd H st (.lst [.int ((n * 48271 + 8191) % 2147483647)])) := KeepB.upd
  refine ⟨_, rfl, st, _, _, _, rfl, rfl, SqL.of h1, at0, _, _, rfl, rfl, ⟨by decide, by decide⟩, _, rfl, _, _, rfl, rfl, hm, ?_⟩
  exact q _ _ ⟨k1, _, h1⟩ (Int.emod_nonneg _ (by omega)) (Int.emod_lt_of_pos _ hm)
end
end K32
namespace L2
open PySem
theorem op_notIn_seqK {X : Cx} {K : PySem.W.Frag} (e : X.K = K) : OpR X (compareOp .NotIn) (rIn K true) := e ▸ op_notIn_seq
end L2
namespace K32
open PySem L2 CD
/-! ### words -/
abbrev lets : Str := "abcdefghijklmnopqrstuvwxyz"
theorem lets_len : lets.cps.toList.length = 26 := by decide +kernel
theorem lets_size : lets.cps.size = 26 := by decide +kernel
theorem lets_small : lets.length ≤ sizeLine := small (by decide +kernel)
theorem lets_ascii : (lets.cps.all fun x => decide (x < 128)) = true := by decide +kernel
theorem atL {z : Int} (h0 : 0 ≤ z) (h1 : z < 26) : ∃ c, atI lets.cps.toList z = some c := by
  obtain ⟨j, rfl⟩ := Int.eq_ofNat_of_zero_le h0
  have hj : j < lets.cps.toList.length := by rw [lets_len]; omega
  exact ⟨lets.cps.toList[j], atI_nat (List.getElem?_eq_getElem hj)⟩
theorem app_cps (x y : Str) : (x ++ y).cps.toList = x.cps.toList ++ y.cps.toList := Array.toList_append
theorem len_app (x y : Str) : (x ++ y).length = x.length + y.length := by
  show (x ++ y).cps.size = x.cps.size + y.cps.size
  rw [← Array.length_toList, app_cps, List.length_append, Array.length_toList, Array.length_toList]
theorem hu8_of {A : Around} {k : Nat} (hr : Room k A) : A.units + 8 < cLine := Nat.lt_of_le_of_lt (Nat.add_le_add_left (by decide : 8 ≤ 64) _) hr.units
theorem inV_strs (x : Str) (ws : List Str) : inV (.str x) (ws.map V.str) = decide (x ∈ ws) := by
  unfold inV
  rw [List.any_map, Bool.eq_iff_iff, List.any_eq_true, decide_eq_true_iff]
  constructor
  · rintro ⟨y, hy, e⟩
    have : (y == x) = true := e
    exact beq_iff_eq.mp this ▸ hy
  · intro h
    exact ⟨x, h, by show (x == x) = true; simp⟩
theorem at2 {z : Int} (h0 : 0 ≤ z) (h1 : z < 2) (x y : V) : atI [x, y] z = some x ∨ atI [x, y] z = some y := by
  have h : z = 0 ∨ z = 1 := by omega
  rcases h with rfl | rfl
  · exact .inl rfl
  · exact .inr rfl
def one (c : Nat) : Str := ⟨#[c]⟩
theorem one_inj {a b : Nat} (h : one a = one b) : a = b := by
  have : (one a).cps = (one b).cps := by rw [h]
  simpa [one] using this
theorem lets_nd : lets.cps.toList.Nodup := by decide +kernel
/-- a letter that is no word yet -/
theorem fresh_letter {ws : List Str} (h : ws.length ≤ 20) : (lets.cps.toList.filter fun c => decide (one c ∉ ws)) ≠ [] := by
  intro e
  have all : ∀ c ∈ lets.cps.toList, one c ∈ ws := fun c hc => Classical.byContradiction fun z => by
    have : c ∈ lets.cps.toList.filter fun c => decide (one c ∉ ws) := List.mem_filter.mpr ⟨hc, decide_eq_true z⟩
    rw [e] at this
    cases this
  have nd : (lets.cps.toList.map one).Nodup := by
    have := lets_nd
    exact (List.pairwise_map.mpr (this.imp fun h e => h (one_inj e)))
  have := nodup_sub (l := lets.cps.toList.map one) (m := ws) nd (fun x hx => by
    obtain ⟨c, hc, rfl⟩ := List.mem_map.mp hx
    exact all c hc)
  rw [List.length_map, lets_len] at this
  omega
def Wd (x : Str) : Prop := 1 ≤ x.length ∧ x.length ≤ 8
def spWord : Sp := fun vs H Q _ => ∃ (st oa : Addr) (n : Int) (ws : List Str), vs = [.ref st, .ref oa] ∧ H st = some (.lst [.int n]) ∧ H oa = some (.lst (ws.map V.str)) ∧ ws.length ≤ 20 ∧ (∀ x ∈ ws, Wd x) ∧ ∀ (x : Str) (H' : Hp), KS st H H' → x ∉ ws → Wd x → Q (.str x) H'
theorem ndW : (["_law_letter", "_law_others_here"] : List Str).Nodup := by decide +kernel
section
variable {P : Program} {w : World} {K : PySem.W.Frag} {mg : Str → Option Value} {base : Heap} {f : Addr} {fd : FuncData}
theorem scWd : FnScope ["_law_state", "_law_others_here", "_law_letters", "_law_word_here", "_law_at"] ["_law_state", "_law_others_here"] (defScope sWord) := ⟨rfl, rfl, rfl, by decide +kernel, rfl, by decide +kernel, by decide +kernel⟩
theorem wd_tail {cdv : Value} {A : Around} {outer : List Env} {s : Shared} {H0 : Hp} {E : XK} {n : Nat} (hr : Room n (A.deeper (PyProof.Rows.envOfC "_law_word" (defScope sWord) s.heap.objs.size f cdv))) (X : Txt mg) :
    ∃ t, PSs (cxOf CX0 P w K mg base ["_law_state", "_law_others_here", "_law_letters", "_law_word_here", "_law_at"] "_law_word" (defScope sWord) f cdv A outer s H0 E).nox ((defBody sWord).drop 3) t ∧
      ∀ (Q : VK) (H : Hp) (st oa : Addr) (u4 : Option V) (x : Str) (ws : List Str), H oa = some (.lst (ws.map V.str)) → ws.length ≤ 20 → 1 ≤ x.length → x.length ≤ 100 → (∀ (x : Str) (H' : Hp), Same H H' → x ∉ ws → Wd x → Q (.str x) H') →
        t { nx := fun _ H' => Q .non H', rt := Q } [some (.ref st), some (.ref oa), some (.str lets), some (.str x), u4] H := by
  refine ⟨_, pss_cons (ps_if (PW.pt (pw_or (pt_cmpR op_in_seq (pv 3) (pv 1) rfl) (pw_or1 (pt_cmpR op_gt (pe_callB call_len_str rfl X.len PySem.boot_len (pa_cons (pv 3) pa_nil)) pe_int (nomark _)))))
      (pss_one (ps_set (i := 3) scWd.nd rfl (Or.inl rfl) (pe_ix ix_list (pe_lcG (caps := [("_law_others_here", 1)]) ["_law_letter"] rfl (pi_ascii (pv 2)) ⟨rfl, by decide +kernel, by decide +kernel, rfl, .cons rfl (.inl rfl) rfl .nil, rfl, rfl, rfl⟩
        (fun s H ex => pg_name (X := cxLG _ _ _ _ s H ex) (i := 0) ndW rfl (Or.inl rfl) (.inr rfl))
        (fun s H ex => pif_one (pt_cmpR (op_notIn_seqK (K := K) rfl) (pe_var (X := cxLG _ _ _ _ s H ex) (i := 0) rfl (Or.inl rfl)) (pe_var (X := cxLG _ _ _ _ s H ex) (i := 1) rfl (Or.inr (Or.inl rfl))) rfl))
        (fun s H ex => pe_var (X := cxLG _ _ _ _ s H ex) (i := 0) rfl (Or.inl rfl))) pe_int (fun _ _ => rfl)))) pss_nil)
    (pss_one (ps_ret (pv 3))), ?_⟩
  intro Q H st oa u4 x ws hoa wl x1 x100 q
  have sf := str_flat ws
  -- a letter
  have letter : ∀ (Q' : V → Hp → Prop), (∀ y H', Same H H' → y ∉ ws → Wd y → Q' (.str y) H') → ∀ D, H D = none → ∃ W : Nat → Nat → St → Hp → Prop, (∃ m, W 0 m [none, some (.ref oa)] (upd H D (.lst []))) ∧ ∀ i m σ' H', W i m σ' H' →
      ((Itx lets).stop i H' ∧ ∃ (a : Addr) (xs : List V) (i : Int) (v : V), V.ref D = .ref a ∧ V.int 0 = .int i ∧ SqL K H' a xs ∧ atI xs i = some v ∧ Q' v H') ∨ ((Itx lets).go i H' ∧ ∃ N : St → Hp → Prop, (∀ σ2 H2, N σ2 H2 → ∃ m', m' < m ∧ W (i + 1) m' σ2 H2) ∧
        ∀ x H2, (Itx lets).yld i H' x H2 → (gName 0) x σ' H2 fun σ3 H3 => (tTest (tOp (rIn K true) (tVar 0) (tVar 1))) σ3 H3 fun b H4 => if b = true then (tVar 0) σ3 H4 fun y H5 => ∃ zs, H5 D = some (.lst zs) ∧ zs.length < sizeLine ∧ N σ3 (upd H5 D (.lst (zs ++ [y]))) else N σ3 H4) := by
    intro Q' q' D hD
    refine lcg_asciiR (z := lets) (fun i σ H2 => ∃ (u : Option V), σ = [u, some (.ref oa)] ∧ Same H H2 ∧ H2 D = some (.lst ((((lets.cps.toList.take i).filter fun c => decide (one c ∉ ws)).map one).map V.str)))
      ⟨none, rfl, same_new hD _, upd_same⟩ ?_ ?_
    · rintro i c σ H2 hc ⟨u, rfl, s2, h2⟩
      have hc' : lets.cps.toList[i]? = some c := by rw [Array.getElem?_toList]; exact hc
      refine ⟨_, rfl, _, rfl, oa, _, rfl, .inl (SqL.of (s2 _ _ hoa)), rfl, sf, _, rfl, ?_⟩
      rw [if_pos rfl, take_snoc hc', List.filter_append]
      have e1 : inV (.str ⟨#[c]⟩) (ws.map V.str) = decide (one c ∈ ws) := inV_strs (one c) ws
      rw [e1]
      by_cases hm : one c ∈ ws
      · rw [decide_eq_true hm]
        refine iteF ⟨_, rfl, s2, ?_⟩
        have : [c].filter (fun c => decide (one c ∉ ws)) = [] := by simp [hm]
        rw [this, List.append_nil]
        exact h2
      · rw [decide_eq_false hm]
        have : [c].filter (fun c => decide (one c ∉ ws)) = [c] := by simp [hm]
        rw [this]
        refine iteT ⟨_, rfl, _, h2, ?_, _, rfl, same_upd s2 hD _, ?_⟩
        · rw [List.length_map, List.length_map]
          have := List.length_filter_le (fun c => decide (one c ∉ ws)) (lets.cps.toList.take i)
          rw [List.length_take, lets_len] at this
          exact small1000 (by omega)
        · rw [upd_same, List.map_append, List.map_append]
          rfl
    · rintro σ H2 ⟨u, rfl, s2, h2⟩
      rw [lets_size, List.take_of_length_le (by rw [lets_len]; exact Nat.le_refl _)] at h2
      have fr := fresh_letter wl
      have mem : ∀ c ∈ lets.cps.toList.filter fun c => decide (one c ∉ ws), one c ∉ ws := fun c hc => of_decide_eq_true (List.mem_filter.mp hc).2
      generalize (lets.cps.toList.filter fun c => decide (one c ∉ ws)) = ys at h2 fr mem
      cases ys with
      | nil => exact absurd rfl fr
      | cons c r =>
        exact ⟨D, _, 0, .str (one c), rfl, rfl, SqL.of h2, at0, q' _ H2 s2 (mem c List.mem_cons_self) ⟨Nat.le_refl 1, (by decide : 1 ≤ 8)⟩⟩
  refine ⟨_, rfl, _, rfl, oa, _, rfl, .inl (SqL.of hoa), rfl, sf, _, rfl, ?_⟩
  rw [if_neg Bool.false_ne_true, inV_strs]
  by_cases c1 : x ∈ ws
  · rw [decide_eq_true c1]
    refine iteT (iteT ⟨_, rfl, lets, rfl, lets_ascii, fun D hD => ?_⟩)
    exact letter _ (fun y H' s' ny wy => ⟨_, rfl, q y H' s' ny wy⟩) D hD
  rw [decide_eq_false c1]
  refine iteF ⟨_, rfl, _, rfl, small (by omega), _, _, rfl, rfl, _, rfl, ?_⟩
  refine ite2 (fun c2 => ?_) (fun c2 => ?_)
  · refine ⟨_, rfl, lets, rfl, lets_ascii, fun D hD => ?_⟩
    exact letter _ (fun y H' s' ny wy => ⟨_, rfl, q y H' s' ny wy⟩) D hD
  · have : ¬ (8 : Int) < (x.length : Int) := fun z => c2 (decide_eq_true z)
    exact ⟨_, rfl, q x H (Same.refl _) c1 ⟨x1, by omega⟩⟩
end
end K32
set_option maxHeartbeats 4000000
namespace K32
open PySem L2 CD
theorem st_ne {H : Hp} {st oa : Addr} {n : Int} {ws : List Str} (h1 : H st = some (.lst [.int n])) (h2 : H oa = some (.lst (ws.map V.str))) : oa ≠ st := fun e => by
  rw [e, h1] at h2
  have h3 : [V.int n] = ws.map V.str := HO.lst.inj (Option.some.inj h2)
  cases ws with
  | nil => cases h3
  | cons x r => cases h3
theorem atN {α : Type} {ss : List α} {z : Int} (h0 : 0 ≤ z) (h1 : z < (ss.length : Nat)) : ∃ x, x ∈ ss ∧ atI ss z = some x := by
  obtain ⟨j, rfl⟩ := Int.eq_ofNat_of_zero_le h0
  have hj : j < ss.length := by omega
  exact ⟨ss[j], List.getElem_mem hj, atI_nat (List.getElem?_eq_getElem hj)⟩
section
variable {P : Program} {w : World} {K : PySem.W.Frag} {mg : Str → Option Value} {base : Heap} {f : Addr} {fd : FuncData}
theorem ok_word (Fn : Fun K "_law_word" "_law_word" sWord f fd) (X : Txt mg) (C0 : Cal P w K mg base "_law_draw" 1 ["_law_state", "_law_many"] spDraw) : FnOk P w K mg base CX0 2 f fd ["_law_state", "_law_others_here"] spWord := by
  obtain ⟨f0, d0, G0, b0, k0, m0⟩ := C0
  refine Fn.ok (k := 1) scWd (fun vs H Q E h => ?_) (fun cdv A outer s H vs Q E hr h => ?_)
  · obtain ⟨st, oa, n, ws, rfl, _⟩ := h
    rfl
  obtain ⟨st, oa, n, ws, rfl, hst, hoa, wl, wd, q⟩ := h
  obtain ⟨tt, ht, q3⟩ := wd_tail (P := P) (w := w) (K := K) (mg := mg) (base := base) (f := f) (outer := outer) (H0 := H) (E := E) hr X
  have hu8 := hu8_of hr
  have ne := st_ne hst hoa
  refine ⟨_, pss_cons (ps_set (i := 2) scWd.nd rfl (Or.inl rfl) pe_str)
    (pss_cons (ps_set (i := 3) scWd.nd rfl (Or.inl rfl) (pe_ix ix_str (pv 2) (pe_call G0 hr rfl m0 k0 b0 .nil pass0 (pa_cons (pv 0) (pa_cons pe_int pa_nil))) (fun _ _ => rfl)))
    (pss_cons (ps_if (PW.pt (pw_and (pt_cmpR (op_ne_nil hu8) (pv 1) (pe_lst pa_nil) (nomark _)) (pw_and1 (pt_cmpR op_eq (pe_call G0 hr rfl m0 k0 b0 .nil pass0 (pa_cons (pv 0) (pa_cons pe_int pa_nil))) pe_int (nomark _)))))
      (pss_cons (ps_set (i := 3) scWd.nd rfl (Or.inl rfl) (pe_ix ix_list (pv 1) (pe_call G0 hr rfl m0 k0 b0 .nil pass0 (pa_cons (pv 0) (pa_cons (pe_callB call_len_seq rfl X.len PySem.boot_len (pa_cons (pv 1) pa_nil)) pa_nil))) (fun _ _ => rfl)))
      (pss_cons (ps_set (i := 4) scWd.nd rfl (Or.inl rfl) (pe_call G0 hr rfl m0 k0 b0 .nil pass0 (pa_cons (pv 0) (pa_cons (pe_callB call_len_str rfl X.len PySem.boot_len (pa_cons (pv 3) pa_nil)) pa_nil))))
      (pss_one (ps_set (i := 3) scWd.nd rfl (Or.inl rfl) (pe_ix ix_list (pe_lst (pa_cons (pe_op op_add_str (pv 3) (pe_ix ix_str (pv 2) (pv 4) (fun _ _ => rfl)))
        (pa_cons (pe_op op_add_str (pe_op op_add_str (pe_slice sl_str (pv 3) po_none (po_some (pv 4))) (pe_ix ix_str (pv 2) (pe_call G0 hr rfl m0 k0 b0 .nil pass0 (pa_cons (pv 0) (pa_cons pe_int pa_nil))) (fun _ _ => rfl))) (pe_slice sl_str (pv 3) (po_some (pe_op op_add (pv 4) pe_int)) po_none)) pa_nil)))
        (pe_call G0 hr rfl m0 k0 b0 .nil pass0 (pa_cons (pv 0) (pa_cons pe_int pa_nil))) (fun _ _ => rfl)))))) pss_nil)
    ht)), ?_⟩
  refine ⟨_, rfl, _, rfl, st, n, 26, rfl, by decide, hst, fun z1 H1 s1 a1 a2 => ?_⟩
  obtain ⟨c1, hc1⟩ := atL a1 a2
  refine ⟨_, _, _, rfl, rfl, lets_small, hc1, ?_⟩
  have hoa1 := s1.k _ _ ne hoa
  refine ⟨_, rfl, small (by simp), fun e0 he0 => ?_⟩
  have s2 := same_new he0 (.lst [])
  have h2 := upd_same (H := H1) (a := e0) (o := .lst [])
  generalize upd H1 e0 (.lst []) = H2 at s2 h2 ⊢
  have t2 := s1.same s2
  have hoa2 := s2 _ _ hoa1
  refine ⟨oa, e0, _, rfl, rfl, SqL.of hoa2, SqL.of h2, _, rfl, ?_⟩
  have rest : ∀ (x : Str) (u4 : Option V) (H' : Hp), KS st H H' → 1 ≤ x.length → x.length ≤ 100 → tt { nx := fun _ H' => Q .non H', rt := Q } [some (.ref st), some (.ref oa), some (.str lets), some (.str x), u4] H' := fun x u4 H' t' x1 x2 =>
    q3 Q H' st oa u4 x ws (t'.k _ _ ne hoa) wl x1 x2 (fun y H'' s'' ny wy => q y H'' (t'.same s'') ny wy)
  cases hem : (ws.map V.str).isEmpty with
  | true => exact iteF (iteF (rest _ _ H2 t2 (Nat.le_refl 1) (by show 1 ≤ 100; decide)))
  | false =>
  have wpos : 0 < ws.length := by
    cases ws with
    | nil => cases hem
    | cons _ _ => exact Nat.succ_pos _
  obtain ⟨n2, hn2⟩ := t2.n
  refine iteT ⟨_, rfl, st, n2, 2, rfl, by decide, hn2, fun z2 H3 s3 b1' b2' => ?_⟩
  have t3 := t2.trans s3
  refine ⟨rfl, _, rfl, ite2 (fun _ => ?_) (fun _ => rest _ _ H3 t3 (Nat.le_refl 1) (by show 1 ≤ 100; decide))⟩
  have hoa3 := t3.k _ _ ne hoa
  obtain ⟨n3, hn3⟩ := t3.n
  have lpos : (0 : Int) < ((ws.map V.str).length : Nat) := by rw [List.length_map]; omega
  refine ⟨_, rfl, _, rfl, _, rfl, oa, _, rfl, .inl (SqL.of hoa3), st, n3, _, rfl, lpos, hn3, fun z3 H4 s4 d1' d2' => ?_⟩
  obtain ⟨v, hv, ev⟩ := atN (ss := ws.map V.str) d1' d2'
  obtain ⟨x, hx, rfl⟩ := List.mem_map.mp hv
  obtain ⟨x1, x8⟩ := wd x hx
  have t4 := t3.trans s4
  have hoa4 := t4.k _ _ ne hoa
  refine ⟨oa, _, _, _, rfl, rfl, SqL.of hoa4, ev, ?_⟩
  obtain ⟨n4, hn4⟩ := t4.n
  refine ⟨_, rfl, _, rfl, _, rfl, small (by omega), st, n4, _, rfl, (by show (0 : Int) < (x.length : Int); omega), hn4, fun z4 H5 s5 g1 g2 => ?_⟩
  have t5 := t4.trans s5
  obtain ⟨c5, hc5⟩ := atL g1 (by omega)
  obtain ⟨n5, hn5⟩ := t5.n
  refine ⟨_, rfl, _, rfl, _, rfl, _, _, _, rfl, rfl, lets_small, hc5, _, _, rfl, rfl, (by show x.length + 1 ≤ sizeLine; exact small (by omega)), ?_⟩
  refine ⟨_, rfl, _, rfl, _, rfl, _, rfl, small (by omega), _, rfl, _, rfl, st, n5, 26, rfl, by decide, hn5, fun z5 H6 s6 i1 i2 => ?_⟩
  obtain ⟨c6, hc6⟩ := atL i1 i2
  have t6 := t5.trans s6
  have sl1 : (Txt.slice x none (some z4)).length ≤ 8 := Nat.le_trans (Txt.slice_le _ _ _) x8
  have sl2 : (Txt.slice x (some (z4 + 1)) none).length ≤ 8 := Nat.le_trans (Txt.slice_le _ _ _) x8
  refine ⟨_, _, _, rfl, rfl, lets_small, hc6, _, _, rfl, rfl, (by show _ + 1 ≤ sizeLine; exact small (by omega)), ?_⟩
  refine ⟨_, rfl, _, rfl, _, _, rfl, rfl, _, rfl, _, rfl, small (by omega), _, _, rfl, rfl, ?_, small (by simp), fun L hL => ?_⟩
  · rw [len_app]
    show _ + 1 + _ ≤ sizeLine
    exact small (by omega)
  have s7 := same_new hL (.lst [.str (x ++ ⟨#[c5]⟩), .str (Txt.slice x none (some z4) ++ ⟨#[c6]⟩ ++ Txt.slice x (some (z4 + 1)) none)])
  have h7 := upd_same (H := H6) (a := L) (o := .lst [.str (x ++ ⟨#[c5]⟩), .str (Txt.slice x none (some z4) ++ ⟨#[c6]⟩ ++ Txt.slice x (some (z4 + 1)) none)])
  generalize upd H6 L (.lst [.str (x ++ ⟨#[c5]⟩), .str (Txt.slice x none (some z4) ++ ⟨#[c6]⟩ ++ Txt.slice x (some (z4 + 1)) none)]) = H7 at s7 h7 ⊢
  have t7 := t6.same s7
  obtain ⟨n7, hn7⟩ := t7.n
  refine ⟨_, rfl, st, n7, 2, rfl, by decide, hn7, fun z6 H8 s8 j1 j2 => ?_⟩
  have t8 := t7.trans s8
  have nL : L ≠ st := fun e => by
    rw [e, hn7] at h7
    have h9 := HO.lst.inj (Option.some.inj h7)
    cases h9
  have h8 := s8.k _ _ nL h7
  have l1 : (x ++ (⟨#[c5]⟩ : Str)).length = x.length + 1 := len_app _ _
  have l2 : (Txt.slice x none (some z4) ++ (⟨#[c6]⟩ : Str) ++ Txt.slice x (some (z4 + 1)) none).length = (Txt.slice x none (some z4)).length + 1 + (Txt.slice x (some (z4 + 1)) none).length := by
    rw [len_app, len_app]
    rfl
  rcases at2 j1 j2 (.str (x ++ ⟨#[c5]⟩)) (.str (Txt.slice x none (some z4) ++ ⟨#[c6]⟩ ++ Txt.slice x (some (z4 + 1)) none)) with e | e
  · exact ⟨L, _, _, _, rfl, rfl, SqL.of h8, e, rest _ _ H8 t8 (by rw [l1]; omega) (by rw [l1]; omega)⟩
  · exact ⟨L, _, _, _, rfl, rfl, SqL.of h8, e, rest _ _ H8 t8 (by rw [l2]; omega) (by rw [l2]; omega)⟩
end
end K32
set_option maxHeartbeats 4000000
namespace K32
open PySem L2 CD
theorem KS.out {st : Addr} {H H1 H2 : Hp} (k : KS st H1 H2) (s : Same H H1) (h : H st = none) : Same H H2 := fun b o hb => k.k _ _ (fun e => by rw [e, h] at hb; cases hb) (s _ _ hb)
def spColumns (K : PySem.W.Frag) : Sp := fun args H Q _ => ∃ (sa : Addr) (ns : List Int), args = [.ref sa] ∧ SqL K H sa (ns.map V.int) ∧ ∀ (l : Addr) (cs : List Str) (H' : Hp), Same H H' → H l = none → H' l = some (.lst (cs.map V.str)) → cs.length ≤ 6 → Q (.ref l) H'
theorem ins_map (ws : List Str) (i : Nat) (x : Str) : (ws.map V.str).take i ++ V.str x :: (ws.map V.str).drop i = (ws.take i ++ x :: ws.drop i).map V.str := by
  rw [List.map_append, List.map_cons, List.map_take, List.map_drop]
section
variable {P : Program} {w : World} {K : PySem.W.Frag} {mg : Str → Option Value} {base : Heap} {f : Addr} {fd : FuncData} {Tt CC BC : Addr}
theorem scCo : FnScope ["_law_script", "_law_state", "_law_found", "_law_k"] ["_law_script"] (defScope sColumns) := ⟨rfl, rfl, rfl, by decide +kernel, rfl, by decide +kernel, by decide +kernel⟩
theorem ok_columns (Fn : Fun K "_law_columns" "_law_columns" sColumns f fd) (X : Txt mg) (C0 : Cal P w K mg base "_law_draw" 1 ["_law_state", "_law_many"] spDraw) (C1 : Cal P w K mg base "_law_seed" 1 ["_law_script", "_law_k"] (spSeed K)) (C2 : Cal P w K mg base "_law_word" 2 ["_law_state", "_law_others_here"] spWord) : FnOk P w K mg base CX0 3 f fd ["_law_script"] (spColumns K) := by
  obtain ⟨f0, d0, G0, b0, k0, m0⟩ := C0
  obtain ⟨f1, d1, G1, b1, k1, m1⟩ := C1
  obtain ⟨f2, d2, G2, b2, k2, m2⟩ := C2
  refine Fn.ok (k := 2) scCo (fun vs H Q E h => ?_) (fun cdv A outer s H vs Q E hr h => ?_)
  · obtain ⟨sa, ns, rfl, _⟩ := h
    rfl
  obtain ⟨sa, ns, rfl, hS, q⟩ := h
  have hu8 := hu8_of hr
  have hr1 : Room 1 _ := hr.mono (by decide)
  refine ⟨_, pss_cons (ps_set (i := 1) scCo.nd rfl (Or.inl rfl) (pe_lst (pa_cons (pe_op op_mod (pe_call G1 hr1 rfl m1 k1 b1 .nil pass0 (pa_cons (pv 0) (pa_cons pe_int pa_nil))) pe_int) pa_nil)))
    (pss_cons (ps_set (i := 2) scCo.nd rfl (Or.inl rfl) (pe_lst pa_nil))
    (pss_cons (ps_for PassesOwn.never rfl (pi_range1 rfl X.range (pa_cons (pe_call G0 hr1 rfl m0 k0 b0 .nil pass0 (pa_cons (pv 1) (pa_cons pe_int pa_nil))) pa_nil)) (pg_name (i := 3) scCo.nd rfl (Or.inl rfl))
      (pss_one (ps_expr (pe_bm PySem.F.plainAttrs_list PySem.F.slot_list_append PySem.F.type_list_append mt_append (pv 2) (pa_cons (pe_call G2 hr rfl m2 k2 b2 .nil pass0 (pa_cons (pv 1) (pa_cons (pv 2) pa_nil))) pa_nil)))))
    (pss_cons (ps_if (pt_cmpR op_eq (pe_call G0 hr1 rfl m0 k0 b0 .nil pass0 (pa_cons (pv 1) (pa_cons pe_int pa_nil))) pe_int (nomark _))
      (pss_one (ps_for PassesOwn.never rfl (pi_range1 rfl X.range (pa_cons (pe_op op_add pe_int (pe_call G0 hr1 rfl m0 k0 b0 .nil pass0 (pa_cons (pv 1) (pa_cons pe_int pa_nil)))) pa_nil)) (pg_name (i := 3) scCo.nd rfl (Or.inl rfl))
        (pss_one (ps_if (PW.pt (pw_and (pt_cmpR (op_ne_nil hu8) (pv 2) (pe_lst pa_nil) (nomark _)) (pw_and1 (pt_cmpR op_lt (pe_callB call_len_seq rfl X.len PySem.boot_len (pa_cons (pv 2) pa_nil)) pe_int (nomark _)))))
          (pss_one (ps_expr (pe_bm PySem.F.plainAttrs_list PySem.F.slot_list_insert PySem.F.type_list_insert mt_insert (pv 2) (pa_cons (pe_call G0 hr1 rfl m0 k0 b0 .nil pass0 (pa_cons (pv 1) (pa_cons (pe_op op_add (pe_callB call_len_seq rfl X.len PySem.boot_len (pa_cons (pv 2) pa_nil)) pe_int) pa_nil)))
            (pa_cons (pe_ix ix_list (pv 2) (pe_call G0 hr1 rfl m0 k0 b0 .nil pass0 (pa_cons (pv 1) (pa_cons (pe_callB call_len_seq rfl X.len PySem.boot_len (pa_cons (pv 2) pa_nil)) pa_nil))) (fun _ _ => rfl)) pa_nil))))) pss_nil)))) pss_nil)
    (pss_one (ps_ret (pv 2)))))), ?_⟩
  refine ⟨_, rfl, sa, ns, 0, rfl, hS, fun z0 => ⟨_, _, rfl, rfl, (by show (0 : Int) < 2147483647; decide), small (by simp), fun st hst => ?_⟩⟩
  have s1 := same_new hst (.lst [(fun i j : Int => V.int (i % j)) z0 2147483647])
  have h1 := upd_same (H := H) (a := st) (o := .lst [(fun i j : Int => V.int (i % j)) z0 2147483647])
  generalize upd H st (.lst [(fun i j : Int => V.int (i % j)) z0 2147483647]) = H1 at s1 h1 ⊢
  obtain ⟨n1, h1⟩ : ∃ n1 : Int, H1 st = some (.lst [.int n1]) := ⟨_, h1⟩
  refine ⟨small (by simp), fun D hD => ?_⟩
  have s2 := same_new hD (.lst [])
  have h2 := upd_same (H := H1) (a := D) (o := .lst [])
  have nD : D ≠ st := fun e => by rw [e, h1] at hD; cases hD
  have hD0 := same_back s1 hD
  generalize upd H1 D (.lst []) = H2 at s2 h2 ⊢
  have w2 := s1.trans s2
  -- what is drawn keeps this
  have inv : ∀ (H3 H4 : Hp) (ws : List Str), Same H H3 → KS st H3 H4 → H3 D = some (.lst (ws.map V.str)) → Same H H4 ∧ H4 D = some (.lst (ws.map V.str)) := fun H3 H4 ws s3 k h => ⟨k.out s3 hst, k.k _ _ nD h⟩
  refine ⟨_, rfl, st, n1, 7, rfl, by decide, s2 _ _ h1, fun m H3 t3 m0' m7 => ?_⟩
  obtain ⟨mm, rfl⟩ := Int.eq_ofNat_of_zero_le m0'
  obtain ⟨s3, h3⟩ := inv H2 H3 [] w2 t3 h2
  obtain ⟨n3, hn3⟩ := t3.n
  refine ⟨_, rfl, by omega, by omega, for_range (lo := 0) (n := (mm : Int).toNat) (fun i σ H4 => ∃ (u3 : Option V) (ws : List Str) (n4 : Int), σ = [some (.ref sa), some (.ref st), some (.ref D), u3] ∧ Same H H4 ∧ H4 st = some (.lst [.int n4]) ∧ H4 D = some (.lst (ws.map V.str)) ∧ ws.length = i ∧ ∀ x ∈ ws, Wd x)
    ⟨none, [], n3, rfl, s3, hn3, h3, rfl, fun x h => (nomatch h)⟩ ?_ ?_⟩
  · rintro i σ H4 hi ⟨u3, ws, n4, rfl, s4, h4s, h4D, wl, wd⟩
    refine ⟨_, rfl, .inl ⟨rfl, _, SqL.of h4D⟩, _, rfl, _, rfl, st, D, n4, ws, rfl, h4s, h4D, by omega, wd, fun x H5 t5 nx wx => ?_⟩
    obtain ⟨s5, h5D⟩ := inv H4 H5 ws s4 t5 h4D
    obtain ⟨n5, hn5⟩ := t5.n
    refine ⟨D, _, _, rfl, rfl, h5D, small1000 (by rw [List.length_map]; omega), _, ws ++ [x], n5, rfl, same_upd s5 hD0 _, by rw [upd_ne (Ne.symm nD)]; exact hn5, by rw [upd_same, List.map_append]; rfl, by rw [List.length_append, wl]; rfl, fun y hy => ?_⟩
    rcases List.mem_append.mp hy with hy | hy
    · exact wd y hy
    · have : y = x := by simpa using hy
      exact this ▸ wx
  · rintro σ H4 ⟨u3, ws, n4, rfl, s4, h4s, h4D, wl, wd⟩
    have wl6 : ws.length ≤ 6 := by omega
    refine ⟨_, rfl, st, n4, 2, rfl, by decide, h4s, fun z H5 t5 z1 z2 => ⟨rfl, _, rfl, ?_⟩⟩
    obtain ⟨s5, h5D⟩ := inv H4 H5 ws s4 t5 h4D
    obtain ⟨n5, hn5⟩ := t5.n
    refine ite2 (fun _ => ?_) (fun _ => ⟨_, rfl, q D ws H5 s5 hD0 h5D wl6⟩)
    refine ⟨_, rfl, st, n5, 2, rfl, by decide, hn5, fun z' H6 t6 y1 y2 => ?_⟩
    obtain ⟨s6, h6D⟩ := inv H5 H6 ws s5 t6 h5D
    obtain ⟨n6, hn6⟩ := t6.n
    refine ⟨_, _, rfl, rfl, _, rfl, by omega, by omega, for_range (lo := 0) (n := (1 + z').toNat) (fun i σ H7 => ∃ (u3 : Option V) (ws : List Str) (n7 : Int), σ = [some (.ref sa), some (.ref st), some (.ref D), u3] ∧ Same H H7 ∧ H7 st = some (.lst [.int n7]) ∧ H7 D = some (.lst (ws.map V.str)) ∧ ws.length ≤ 6)
      ⟨_, ws, n6, rfl, s6, hn6, h6D, wl6⟩ ?_ ?_⟩
    · rintro i σ H7 hi ⟨u3', ws', n7, rfl, s7, h7s, h7D, wl'⟩
      refine ⟨_, rfl, small (by simp), fun e1 he1 => ?_⟩
      have s8 := same_new he1 (.lst [])
      have h8 := upd_same (H := H7) (a := e1) (o := .lst [])
      generalize upd H7 e1 (.lst []) = H8 at s8 h8 ⊢
      have w8 := s7.trans s8
      have h8D := s8 _ _ h7D
      have h8s := s8 _ _ h7s
      refine ⟨D, e1, _, rfl, rfl, SqL.of h8D, SqL.of h8, _, rfl, ite2 (fun hne => ?_) (fun _ => iteF ⟨_, ws', n7, rfl, w8, h8s, h8D, wl'⟩)⟩
      have w0 : 0 < ws'.length := by
        cases ws' with
        | nil => simp at hne
        | cons a r => simp
      refine ⟨_, rfl, D, _, rfl, .inl (SqL.of h8D), _, _, rfl, rfl, _, rfl, ite2 (fun hlt => ?_) (fun _ => ⟨_, ws', n7, rfl, w8, h8s, h8D, wl'⟩)⟩
      have hlt' : ws'.length < 6 := by
        have := of_decide_eq_true hlt
        rw [List.length_map] at this
        omega
      refine ⟨_, rfl, .inl ⟨rfl, _, SqL.of h8D⟩, _, rfl, _, rfl, D, _, rfl, .inl (SqL.of h8D), _, _, rfl, rfl, st, n7, _, rfl, (by rw [List.length_map]; omega), h8s, fun zi H9 t9 i0 i1 => ?_⟩
      obtain ⟨s9, h9D⟩ := inv H8 H9 ws' w8 t9 h8D
      obtain ⟨n9, hn9⟩ := t9.n
      obtain ⟨ni, rfl⟩ := Int.eq_ofNat_of_zero_le i0
      refine ⟨_, rfl, _, rfl, _, rfl, D, _, rfl, .inl (SqL.of h9D), st, n9, _, rfl, (by rw [List.length_map]; omega), hn9, fun zj HA tA j0 j1 => ?_⟩
      obtain ⟨sA, hAD⟩ := inv H9 HA ws' s9 tA h9D
      obtain ⟨nA, hnA⟩ := tA.n
      obtain ⟨v, hv, ev⟩ := atN (ss := ws'.map V.str) j0 j1
      obtain ⟨y, hy, rfl⟩ := List.mem_map.mp hv
      rw [List.length_map] at i1
      refine ⟨D, _, _, _, rfl, rfl, SqL.of hAD, ev, D, _, ni, .str y, rfl, rfl, hAD, by rw [List.length_map]; omega, by rw [List.length_map]; omega, ?_⟩
      rw [ins_map]
      refine ⟨_, ws'.take ni ++ y :: ws'.drop ni, nA, rfl, same_upd sA hD0 _, by rw [upd_ne (Ne.symm nD)]; exact hnA, upd_same, ?_⟩
      rw [List.length_append, List.length_cons, List.length_take, List.length_drop]
      omega
    · rintro σ H7 ⟨u3', ws', n7, rfl, s7, h7s, h7D, wl'⟩
      exact ⟨_, rfl, q D ws' H7 s7 hD0 h7D wl'⟩
end
end K32
set_option maxHeartbeats 4000000
namespace K32
open PySem L2 CD
theorem big60 : (0 : Int) < 2 * 10 ^ (60 : Int).toNat - 1 := by decide +kernel
theorem cut_ints (ns : List Int) : ∃ ms : List Int, cutV (ns.map V.int) (some 2) (some 14) = ms.map V.int ∧ ms.length ≤ 12 := by
  refine ⟨(ns.drop (min 2 ns.length)).take (min 14 ns.length - min 2 ns.length), ?_, ?_⟩
  · unfold cutV
    have e1 := HT.sIx_nat (ns.map V.int).length 0 2
    have e2 := HT.sIx_nat (ns.map V.int).length (ns.map V.int).length 14
    rw [show (some (2 : Int)) = some ((2 : Nat) : Int) from rfl, show (some (14 : Int)) = some ((14 : Nat) : Int) from rfl, e1, e2, List.length_map, ← List.map_drop, ← List.map_take]
  · rw [List.length_take]
    omega
theorem of_int {ns : List Int} {i : Nat} {x : V} (hi : (ns.map V.int)[i]? = some x) : ∃ n, ns[i]? = some n ∧ n ∈ ns ∧ x = V.int n := by
  rw [List.getElem?_map] at hi
  cases z : ns[i]? with
  | none => rw [z] at hi; cases hi
  | some v => rw [z] at hi; exact ⟨v, rfl, List.mem_of_getElem? z, (Option.some.inj hi).symm⟩
/-- a drawn row; its list is not D -/
def RowD (D : Addr) (H : Hp) (v : V) (r : List Key × Bool) : Prop := ∃ a rl : Addr, v = .ref a ∧ H a = some (.tup [.ref rl, .bl r.2]) ∧ rl ≠ D ∧ H rl = some (.lst (r.1.map kV))
theorem rowd_keep {H H' : Hp} {D : Addr} {ys : List V} (hD : H D = some (.lst ys)) (k : ∀ a o, a ≠ D → H a = some o → H' a = some o) : ∀ {zs : List V} {rows : List (List Key × Bool)}, Paired (RowD D H) zs rows → Paired (RowD D H') zs rows
  | _, _, .nil => .nil
  | _, _, .cons ⟨a, rl, e, h1, n, h2⟩ t => .cons ⟨a, rl, e, k _ _ (fun e => by rw [e, hD] at h1; cases h1) h1, n, k _ _ n h2⟩ (rowd_keep hD k t)
def pool3 (fars : List Int) : List Key := ([Sum.inr "x", Sum.inl 0, Sum.inr "yy"] : List Key) ++ fars.map Sum.inl
def spRows (K : PySem.W.Frag) : Sp := fun args H Q _ => ∃ (sa : Addr) (ns : List Int) (m : Nat), args = [.ref sa, .int m] ∧ SqL K H sa (ns.map V.int) ∧ m ≤ 8 ∧ ∀ (l : Addr) (xs : List V) (rows : List (List Key × Bool)) (pool : List Key) (H' : Hp), Same H H' → H l = none → H' l = some (.lst xs) → Paired (RowD l H') xs rows → rows.length ≤ 12 → (∀ r ∈ rows, r.1.length ≤ 8) → pool.length ≤ 20 → (∀ r ∈ rows, ∀ k ∈ r.1, k ∈ pool) → Q (.ref l) H'
theorem ndK : (["_law_k", "_law_cell", "_law_state"] : List Str).Nodup := by decide +kernel
theorem at4 {z : Int} (h0 : 0 ≤ z) (h1 : z < 4) (a b c d : Key) : ∃ k, (k = a ∨ k = b ∨ k = c ∨ k = d) ∧ atI [kV a, kV b, kV c, kV d] z = some (kV k) := by
  obtain ⟨n, rfl⟩ := Int.eq_ofNat_of_zero_le h0
  have hn : n < 4 := by omega
  match n, hn with
  | 0, _ => exact ⟨a, .inl rfl, atI_nat (j := 0) rfl⟩
  | 1, _ => exact ⟨b, .inr (.inl rfl), atI_nat (j := 1) rfl⟩
  | 2, _ => exact ⟨c, .inr (.inr (.inl rfl)), atI_nat (j := 2) rfl⟩
  | 3, _ => exact ⟨d, .inr (.inr (.inr rfl)), atI_nat (j := 3) rfl⟩
section
variable {P : Program} {w : World} {K : PySem.W.Frag} {mg : Str → Option Value} {base : Heap} {f : Addr} {fd : FuncData} {Tt CC BC : Addr}
theorem scRo : FnScope ["_law_script", "_law_many", "_law_found", "_law_cell", "_law_state", "_law_size", "_law_cells"] ["_law_script", "_law_many"] (defScope sRows) := ⟨rfl, rfl, rfl, by decide +kernel, rfl, by decide +kernel, by decide +kernel⟩
theorem ok_rows (Fn : Fun K "_law_rows" "_law_rows" sRows f fd) (X : Txt mg) (C0 : Cal P w K mg base "_law_draw" 1 ["_law_state", "_law_many"] spDraw) : FnOk P w K mg base CX0 2 f fd ["_law_script", "_law_many"] (spRows K) := by
  obtain ⟨f0, d0, G0, b0, k0, m0⟩ := C0
  refine Fn.ok (k := 1) scRo (fun vs H Q E h => ?_) (fun cdv A outer s H vs Q E hr h => ?_)
  · obtain ⟨sa, ns, m, rfl, _⟩ := h
    rfl
  obtain ⟨sa, ns, m, rfl, hS, m8, q⟩ := h
  refine ⟨_, pss_cons (ps_set (i := 2) scRo.nd rfl (Or.inl rfl) (pe_lst pa_nil))
    (pss_cons (ps_for PassesOwn.never rfl (pi_list (pe_slice sl_list (pv 0) (po_some pe_int) (po_some pe_int))) (pg_name (i := 3) scRo.nd rfl (Or.inr rfl))
      (pss_cons (ps_set (i := 4) scRo.nd rfl (Or.inr rfl) (pe_lst (pa_cons (pe_op op_mod (pv 3) pe_int) pa_nil)))
      (pss_cons (ps_set (i := 5) scRo.nd rfl (Or.inl rfl) (pv 1))
      (pss_cons (ps_if (pt_cmpR op_eq (pe_call G0 hr rfl m0 k0 b0 .nil pass0 (pa_cons (pv 4) (pa_cons pe_int pa_nil))) pe_int (nomark _)) (pss_one (ps_set (i := 5) scRo.nd rfl (Or.inl rfl) (pe_call G0 hr rfl m0 k0 b0 .nil pass0 (pa_cons (pv 4) (pa_cons pe_int pa_nil))))) pss_nil)
      (pss_cons (ps_setLC (i := 6) ["_law_k"] (caps := [("_law_cell", 3), ("_law_state", 4)]) rfl scRo.nd rfl rfl (pi_range1 rfl X.range (pa_cons (pv 5) pa_nil)) ⟨rfl, by decide +kernel, by decide +kernel, rfl, .cons rfl (.inl rfl) rfl (.cons rfl (.inl rfl) rfl .nil), rfl, rfl, rfl⟩
          (fun s H ex => pg_name (X := cxLG _ _ _ _ s H ex) (i := 0) ndK rfl (Or.inl rfl) (.inr rfl)) (fun s H ex => pif_nil)
          (fun s H ex => pe_ix (ix_listK (K := K) rfl) (pe_lst (pa_cons (pe_op op_sub (pe_op op_mod (pe_var (X := cxLG _ _ _ _ s H ex) (i := 1) rfl (Or.inr (Or.inl rfl))) (pe_op op_sub (pe_op op_mul pe_int (pe_op op_pow pe_int pe_int)) pe_int)) (pe_op op_sub (pe_op op_pow pe_int pe_int) pe_int)) (pa_cons pe_str (pa_cons pe_int (pa_cons pe_str pa_nil)))))
            (pe_call (X := cxLG _ _ _ _ s H ex) G0 hr rfl m0 k0 b0 .nil pass0 (pa_cons (pe_var (X := cxLG _ _ _ _ s H ex) (i := 2) rfl (Or.inr (Or.inl rfl))) (pa_cons pe_int pa_nil))) (fun _ _ => rfl)) rfl)
      (pss_one (ps_expr (pe_bm PySem.F.plainAttrs_list PySem.F.slot_list_append PySem.F.type_list_append mt_append (pv 2) (pa_cons (pe_tup (pa_cons (pv 6) (pa_cons (pe_cmpR op_eq (pe_call G0 hr rfl m0 k0 b0 .nil pass0 (pa_cons (pv 4) (pa_cons pe_int pa_nil))) pe_int (nomark _)) pa_nil))) pa_nil)))))))))
    (pss_one (ps_ret (pv 2)))), ?_⟩
  refine ⟨small (by simp), fun D hD => ?_⟩
  have s1 := same_new hD (.lst [])
  have h1 := upd_same (H := H) (a := D) (o := .lst [])
  generalize upd H D (.lst []) = H1 at s1 h1 ⊢
  refine ⟨_, rfl, _, rfl, _, rfl, sa, _, rfl, s1.seq hS, fun ia hia => ?_⟩
  obtain ⟨ms, ems, msl⟩ := cut_ints ns
  rw [ems]
  have s2 := same_new hia (.lst (ms.map V.int))
  have h2i := upd_same (H := H1) (a := ia) (o := .lst (ms.map V.int))
  have niD : ia ≠ D := fun e => by rw [e, h1] at hia; cases hia
  have h2D := s2 _ _ h1
  generalize upd H1 ia (.lst (ms.map V.int)) = H2 at s2 h2i h2D ⊢
  have w2 := s1.trans s2
  refine ⟨ia, rfl, ⟨_, SqL.of h2i⟩, for_list (K := K) (a := ia) (xs := ms.map V.int) (fun i σ H3 => ∃ (u3 u4 u5 u6 : Option V) (xs : List V) (rows : List (List Key × Bool)) (fars : List Int), σ = [some (.ref sa), some (.int m), some (.ref D), u3, u4, u5, u6] ∧ (∀ b o, b ≠ D → H2 b = some o → H3 b = some o) ∧ H3 D = some (.lst xs) ∧ Paired (RowD D H3) xs rows ∧ rows.length = i ∧ fars.length = i ∧ (∀ r ∈ rows, r.1.length ≤ 8) ∧ ∀ r ∈ rows, ∀ k ∈ r.1, k ∈ pool3 fars)
    ⟨none, none, none, none, [], [], [], rfl, fun b o _ h => h, h2D, .nil, rfl, rfl, fun r h => (nomatch h), fun r h => (nomatch h)⟩ (fun i σ H3 _ ⟨_, _, _, _, _, _, _, _, z, _⟩ => SqL.of (z _ _ niD h2i)) ?_ ?_⟩
  · rintro i x σ H3 hi ⟨u3, u4, u5, u6, xs, rows, fars, rfl, k3, h3D, hP, rl, fl, r8, rp⟩
    obtain ⟨c, hci, hcm, rfl⟩ := of_int hi
    have hil := (List.getElem?_eq_some_iff.mp hci).1
    refine ⟨_, rfl, _, _, rfl, rfl, (by show (0 : Int) < 2147483647; decide), small (by simp), fun st hst => ?_⟩
    have s4 := same_new hst (.lst [(fun i j : Int => V.int (i % j)) c 2147483647])
    have h4 := upd_same (H := H3) (a := st) (o := .lst [(fun i j : Int => V.int (i % j)) c 2147483647])
    generalize upd H3 st (.lst [(fun i j : Int => V.int (i % j)) c 2147483647]) = H4 at s4 h4 ⊢
    obtain ⟨n4, h4⟩ : ∃ n4 : Int, H4 st = some (.lst [.int n4]) := ⟨_, h4⟩
    have nsD : D ≠ st := fun e => by rw [e, ] at h3D; rw [h3D] at hst; cases hst
    refine ⟨_, rfl, ?_⟩
    refine ⟨_, rfl, st, n4, 8, rfl, by decide, h4, fun z H5 t5 z0 z8 => ⟨rfl, _, rfl, ?_⟩⟩
    have s5 : Same H3 H5 := t5.out s4 hst
    obtain ⟨n5, hn5⟩ := t5.n
    refine ite2 (fun _ => ?a) (fun _ => ?b)
    case' a =>
      refine ⟨_, rfl, st, n5, 9, rfl, by decide, hn5, fun z' H6 t6 y0 y9 => ?_⟩
      obtain ⟨sz, rfl⟩ := Int.eq_ofNat_of_zero_le y0
      have szl : sz ≤ 8 := by omega
      have s6 : Same H3 H6 := t6.out s5 hst
      obtain ⟨n6, hn6⟩ := t6.n
    case' b =>
      have szl : m ≤ 8 := m8
      have s6 : Same H3 H5 := s5
      obtain ⟨n6, hn6⟩ : ∃ n : Int, H5 st = some (.lst [.int n]) := ⟨n5, hn5⟩
      generalize m = sz at szl
      generalize H5 = H6 at s6 hn6
    all_goals
      refine ⟨_, rfl, _, rfl, by omega, by omega, fun R hR => ?_⟩
      have hR3 := same_back s6 hR
      have nRs : R ≠ st := fun e => by rw [e, hn6] at hR; cases hR
      have s7 := same_new hR (.lst [])
      refine lcg_rangeR (lo := 0) (n := ((sz : Nat) : Int).toNat) (fun j σ H7 => ∃ (u : Option V) (ks : List Key) (n7 : Int), σ = [u, some (.int c), some (.ref st)] ∧ Same H3 H7 ∧ H7 st = some (.lst [.int n7]) ∧ H7 R = some (.lst (ks.map kV)) ∧ ks.length = j ∧ ∀ k ∈ ks, k ∈ pool3 (fars ++ [c % (2 * 10 ^ (60 : Int).toNat - 1) - (10 ^ (60 : Int).toNat - 1)]))
        ⟨none, [], n6, rfl, s6.trans s7, s7 _ _ hn6, upd_same, rfl, fun k h => (nomatch h)⟩ ?_ ?_
      · rintro j σ H7 hj ⟨u, ks, n7, rfl, s7', h7s, h7R, kl, kp⟩
        refine ⟨_, rfl, _, _, rfl, rfl, ⟨by decide, by decide, by decide⟩, _, _, rfl, rfl, .inl ⟨by decide, by decide⟩, _, _, rfl, rfl, _, _, rfl, rfl, big60, _, _, rfl, rfl, ⟨by decide, by decide, by decide⟩, _, _, rfl, rfl, _, _, rfl, rfl, small (by simp), fun L hL => ?_⟩
        have nLs : L ≠ st := fun e => by rw [e, h7s] at hL; cases hL
        have s8 := same_new hL (.lst [kV (Sum.inl (c % (2 * 10 ^ (60 : Int).toNat - 1) - (10 ^ (60 : Int).toNat - 1))), kV (Sum.inr "x"), kV (Sum.inl 0), kV (Sum.inr "yy")])
        have h8 := upd_same (H := H7) (a := L) (o := .lst [kV (Sum.inl (c % (2 * 10 ^ (60 : Int).toNat - 1) - (10 ^ (60 : Int).toNat - 1))), kV (Sum.inr "x"), kV (Sum.inl 0), kV (Sum.inr "yy")])
        refine ⟨_, rfl, st, n7, 4, rfl, by decide, s8 _ _ h7s, fun zi H9 t9 i0 i4 => ?_⟩
        obtain ⟨n9, hn9⟩ := t9.n
        have h9L := t9.k _ _ nLs h8
        have h9R := t9.k _ _ nRs (s8 _ _ h7R)
        have s9 : Same H3 H9 := t9.out (s7'.trans s8) hst
        obtain ⟨k, hk, ek⟩ := at4 i0 i4 (Sum.inl (c % (2 * 10 ^ (60 : Int).toNat - 1) - (10 ^ (60 : Int).toNat - 1))) (Sum.inr "x") (Sum.inl 0) (Sum.inr "yy")
        refine ⟨L, _, _, _, rfl, rfl, SqL.of h9L, ek, _, h9R, small1000 (by rw [List.length_map]; omega), _, ks ++ [k], n9, rfl, same_upd s9 hR3 _, by rw [upd_ne (Ne.symm nRs)]; exact hn9, by rw [upd_same, List.map_append]; rfl, by rw [List.length_append, kl]; rfl, fun k' hk' => ?_⟩
        rcases List.mem_append.mp hk' with h | h
        · exact kp k' h
        · rw [show k' = k from by simpa using h]
          unfold pool3
          rcases hk with rfl | rfl | rfl | rfl <;> simp
      rintro σ H7 ⟨u, ks, n7, rfl, s7', h7s, h7R, kl, kp⟩
      have kl8 : ks.length ≤ 8 := by omega
      have h7D := s7' _ _ h3D
      refine ⟨_, rfl, .inl ⟨rfl, _, SqL.of h7D⟩, _, rfl, _, rfl, st, n7, 2, rfl, by decide, h7s, fun zz H8 t8 q0 q2 => ⟨rfl, small (by simp), fun a ha => ?_⟩⟩
      have s8 : Same H3 H8 := t8.out s7' hst
      have h8R := t8.k _ _ nRs h7R
      have ha3 := same_back s8 ha
      have nRD : R ≠ D := fun e => by rw [e, h3D] at hR3; cases hR3
      have naD : a ≠ D := fun e => by rw [e, h3D] at ha3; cases ha3
      generalize decide (V.int zz = V.int 0) = bb
      have s9 := same_new ha (.tup [.ref R, .bl bb])
      have h9 := upd_same (H := H8) (a := a) (o := .tup [.ref R, .bl bb])
      generalize upd H8 a (.tup [.ref R, .bl bb]) = H9 at s9 h9 ⊢
      have w9 := s8.trans s9
      have h9D := w9 _ _ h3D
      refine ⟨D, _, _, rfl, rfl, h9D, small1000 (by rw [plen hP]; omega), _, _, _, _, xs ++ [.ref a], rows ++ [(ks, bb)], fars ++ [c % (2 * 10 ^ (60 : Int).toNat - 1) - (10 ^ (60 : Int).toNat - 1)], rfl, fun b o nb hb => by rw [upd_ne nb]; exact w9 _ _ (k3 b o nb hb), upd_same, ?_, by rw [List.length_append, rl]; rfl, by rw [List.length_append, fl]; rfl, fun r hr' => ?_, fun r hr' k hk => ?_⟩
      · refine psnoc (rowd_keep h3D (fun b o nb hb => by rw [upd_ne nb]; exact w9 _ _ hb) hP) ⟨a, R, rfl, by rw [upd_ne naD]; exact h9, nRD, by rw [upd_ne nRD]; exact s9 _ _ h8R⟩
      · rcases List.mem_append.mp hr' with h | h
        · exact r8 r h
        · rw [show r = (ks, bb) from by simpa using h]
          exact kl8
      · rcases List.mem_append.mp hr' with h | h
        · have := rp r h k hk
          unfold pool3 at this ⊢
          rw [List.map_append, ← List.append_assoc]
          exact List.mem_append_left _ this
        · rw [show r = (ks, bb) from by simpa using h] at hk
          exact kp k hk
  · rintro σ H3 ⟨u3, u4, u5, u6, xs, rows, fars, rfl, k3, h3D, hP, rl, fl, r8, rp⟩
    rw [List.length_map] at rl fl
    refine ⟨_, rfl, q D xs rows (pool3 fars) H3 (fun b o hb => k3 b o (fun e => by rw [e, hD] at hb; cases hb) (w2 _ _ hb)) hD h3D hP (by omega) r8 ?_ rp⟩
    unfold pool3
    rw [List.length_append, List.length_map]
    show 3 + fars.length ≤ 20
    omega
end
end K32
set_option maxHeartbeats 4000000
namespace K32
open PySem L2 CD
def leS (a b : Str) : Prop := a.cps.toList ≤ b.cps.toList
theorem leS_anti (a b : Str) (h1 : leS a b) (h2 : leS b a) : a = b := by
  have e := List.le_antisymm h1 h2
  cases a
  cases b
  simp at e
  rw [e]
theorem rising_pw : ∀ {p : Str} {l : List Str}, PyProof.Rows.risingS p l = true → (p :: l).Pairwise leS
  | p, [], _ => by simp
  | p, x :: r, h => by
    have h' : (!PySem.Spec.ltCps x.cps.toList p.cps.toList && PyProof.Rows.risingS x r) = true := h
    rw [Bool.and_eq_true] at h'
    have ih := rising_pw h'.2
    have hx : leS p x := by
      have := h'.1
      rw [PyProof.Rows.ltCps_eq] at this
      have n : ¬ x.cps.toList < p.cps.toList := by simpa using this
      exact n
    refine List.pairwise_cons.mpr ⟨fun y hy => ?_, ih⟩
    rcases List.mem_cons.mp hy with rfl | hy
    · exact hx
    · exact List.le_trans hx ((List.pairwise_cons.mp ih).1 y hy)
theorem sorted_pw : ∀ {l : List Str}, PyProof.Rows.sortedS l = true → l.Pairwise leS
  | [], _ => by simp
  | x :: r, h => rising_pw h
theorem kit_ib (K : PySem.W.Frag) : PySem.W.kitOne K (.type "int") (.type "bool") = some false := by kernel_rfl
theorem kit_sb (K : PySem.W.Frag) : PySem.W.kitOne K (.type "str") (.type "bool") = some false := by kernel_rfl
theorem least_head {l l' : List Str} {h : Str} {t : List Str} (p : l'.Perm l) (s : PyProof.Rows.sortedS l' = true) (e : l' = h :: t) : Least l h := by
  subst e
  have pw := List.pairwise_cons.mp (sorted_pw s)
  refine ⟨p.mem_iff.mp List.mem_cons_self, fun x hx => ?_⟩
  rcases List.mem_cons.mp (p.mem_iff.mpr hx) with rfl | hx
  · exact List.le_refl _
  · exact pw.1 x hx
theorem least_uniq {l : List Str} {a b : Str} (h1 : Least l a) (h2 : Least l b) : a = b := leS_anti a b (h1.2 b h2.1) (h2.2 a h1.1)
def spDue : Sp := fun args H Q _ => ∃ (ca ra l : Addr) (cs : List Str) (xs : List V) (rows : List (List Key × Bool)), args = [.ref ca, .ref ra] ∧ H ca = some (.lst (cs.map V.str)) ∧ cs.length ≤ 10 ∧ H ra = some (.lst xs) ∧ Paired (RowD l H) xs rows ∧ rows.length ≤ 12 ∧
  (∀ m a H', Least (reps cs) m → Same H H' → H' a = some (.tup [.str "twice", .str m]) → Q (.ref a) H') ∧ (reps cs = [] → ∀ i a H', bad cs.length 0 ((rows.map (·.1)).map List.length) = some i → Same H H' → H' a = some (.tup [.str "short", .int i]) → Q (.ref a) H') ∧
  (reps cs = [] → bad cs.length 0 ((rows.map (·.1)).map List.length) = none → ∀ a H', Same H H' → H' a = some (.tup [.str "made", .int rows.length]) → Q (.ref a) H')
theorem ndN : (["_law_name", "_law_columns_here"] : List Str).Nodup := by decide +kernel
/-- what isinstance says of a refusal -/
structure Isx (K : PySem.W.Frag) (C a1 a2 a3 a4 a5 a6 a7 : Addr) : Prop where
  cl : ClsE K C
  n1 : PySem.W.kitOne K (.ref C) (.ref a1) = some false
  n2 : PySem.W.kitOne K (.ref C) (.ref a2) = some false
  n3 : PySem.W.kitOne K (.ref C) (.ref a3) = some false
  n4 : PySem.W.kitOne K (.ref C) (.ref a4) = some false
  n5 : PySem.W.kitOne K (.ref C) (.ref a5) = some false
  n6 : PySem.W.kitOne K (.ref C) (.ref a6) = some false
  n7 : PySem.W.kitOne K (.ref C) (.ref a7) = some false
  ve : PySem.W.kitOne K (.ref C) (.type "ValueError") = some true
def spOthers (K : PySem.W.Frag) (a1 a2 a3 a4 a5 a6 a7 : Addr) : Sp := fun args H Q _ => ∃ (e C : Addr) (dp : Option Addr), args = [.ref e] ∧ H e = some (ExcO e C dp) ∧ Isx K C a1 a2 a3 a4 a5 a6 a7 ∧ ∀ r H', Same H H' → H' r = some (.lst ((List.replicate 8 false).map V.bl)) → Q (.ref r) H'
theorem boot_ValueError : bootBuiltins "ValueError" = some (.type "ValueError") := by decide +kernel
def spBCols (BC : Addr) : Sp := fun vs H Q _ => ∃ (b : Addr) (cs : List Str) (n : Nat), vs = [.ref b] ∧ IsB BC H b cs n ∧ ∀ l, H l = none → Q (.ref l) (upd H l (.lst (cs.map V.str)))
def spBRows (BC : Addr) : Sp := fun vs H Q _ => ∃ (b : Addr) (cs : List Str) (n : Nat), vs = [.ref b] ∧ IsB BC H b cs n ∧ ∀ l (xs : List V), H l = none → xs.length = n → Q (.ref l) (upd H l (.lst xs))
section
variable {P : Program} {w : World} {K : PySem.W.Frag} {mg : Str → Option Value} {base : Heap} {f : Addr} {fd : FuncData} {Tt CC BC : Addr}
theorem scB1 : FnScope ["self"] ["self"] (defScope sBCols) := ⟨rfl, rfl, rfl, by decide +kernel, rfl, by decide +kernel, by decide +kernel⟩
theorem ok_bcols (F : Fun K "columns" "Table.columns" sBCols f fd) (X : Txt mg) (Z : Bz K BC) : FnOk P w K mg base CX0 1 f fd ["self"] (spBCols BC) := by
  refine F.ok scB1 (fun vs H Q E h => ?_) (fun cdv A outer s H vs Q E hr h => ?_)
  · obtain ⟨b, cs, n, rfl, _⟩ := h
    rfl
  obtain ⟨b, cs, n, rfl, ⟨dx, tc, tr, fs, xs, hb, hm, l1, h1, _⟩, q⟩ := h
  refine ⟨_, pss_one (ps_ret (pe_callTy call_list_of rfl X.list PyProof.Rows.boot_list (pa_cons (pe_fld (pv 0) rfl) pa_nil))), ?_⟩
  exact ⟨_, rfl, b, BC, dx, fs, _, rfl, hb, Z.cl, Z.nc, l1, tc, _, rfl, .inr (SqT.of h1), fun l hl => q l hl⟩
theorem scB2 : FnScope ["self"] ["self"] (defScope sBRows) := ⟨rfl, rfl, rfl, by decide +kernel, rfl, by decide +kernel, by decide +kernel⟩
theorem ok_brows (F : Fun K "rows" "Table.rows" sBRows f fd) (X : Txt mg) (Z : Bz K BC) : FnOk P w K mg base CX0 1 f fd ["self"] (spBRows BC) := by
  refine F.ok scB2 (fun vs H Q E h => ?_) (fun cdv A outer s H vs Q E hr h => ?_)
  · obtain ⟨b, cs, n, rfl, _⟩ := h
    rfl
  obtain ⟨b, cs, n, rfl, ⟨dx, tc, tr, fs, xs, hb, hm, l1, h1, l2, h2, hn⟩, q⟩ := h
  refine ⟨_, pss_one (ps_ret (pe_callTy call_list_of rfl X.list PyProof.Rows.boot_list (pa_cons (pe_fld (pv 0) rfl) pa_nil))), ?_⟩
  exact ⟨_, rfl, b, BC, dx, fs, _, rfl, hb, Z.cl, Z.nr, l2, tr, _, rfl, .inr (SqT.of h2), fun l hl => q l xs hl hn⟩
theorem scDu : FnScope ["_law_columns_here", "_law_rows_here", "_law_double", "_law_k"] ["_law_columns_here", "_law_rows_here"] (defScope sDue) := ⟨rfl, rfl, rfl, by decide +kernel, rfl, by decide +kernel, by decide +kernel⟩
theorem ok_due (Fn : Fun K "_law_due" "_law_due" sDue f fd) (X : Txt mg) : FnOk P w K mg base CX0 1 f fd ["_law_columns_here", "_law_rows_here"] spDue := by
  refine Fn.ok scDu (fun vs H Q E h => ?_) (fun cdv A outer s H vs Q E hr h => ?_)
  · obtain ⟨ca, ra, l, cs, xs, rows, rfl, _⟩ := h
    rfl
  obtain ⟨ca, ra, l, cs, xs, rows, rfl, hca, cl, hra, hP, rl, q1, q2, q3⟩ := h
  have hu8 := hu8_of hr
  refine ⟨_, pss_cons (ps_set (i := 2) scDu.nd rfl (Or.inl rfl) (pe_callB call_sorted_strs rfl X.sorted PyProof.Rows.boot_sorted (pa_cons
      (pe_lcG (caps := [("_law_columns_here", 0)]) ["_law_name"] rfl (pi_list (pv 0)) ⟨rfl, by decide +kernel, by decide +kernel, rfl, .cons rfl (.inl rfl) rfl .nil, rfl, rfl, rfl⟩
        (fun s H ex => pg_name (X := cxLG _ _ _ _ s H ex) (i := 0) ndN rfl (Or.inl rfl) (.inr rfl))
        (fun s H ex => pif_one (pt_cmpR op_gt (tBM_K (K := K) rfl (pe_bm PySem.F.plainAttrs_list PySem.F.slot_list_count PySem.F.type_list_count mt_countL (pe_var (X := cxLG _ _ _ _ s H ex) (i := 1) rfl (Or.inr (Or.inl rfl))) (pa_cons (pe_var (X := cxLG _ _ _ _ s H ex) (i := 0) rfl (Or.inl rfl)) pa_nil))) pe_int (nomark _)))
        (fun s H ex => pe_var (X := cxLG _ _ _ _ s H ex) (i := 0) rfl (Or.inl rfl))) pa_nil)))
    (pss_cons (ps_if (pt_cmpR (op_ne_nil hu8) (pv 2) (pe_lst pa_nil) (nomark _)) (pss_one (ps_ret (pe_tup (pa_cons pe_str (pa_cons (pe_ix ix_list (pv 2) pe_int (fun _ _ => rfl)) pa_nil))))) pss_nil)
    (pss_cons (ps_for PassesOwn.never rfl (pi_range1 rfl X.range (pa_cons (pe_callB call_len_seq rfl X.len PySem.boot_len (pa_cons (pv 1) pa_nil)) pa_nil)) (pg_name (i := 3) scDu.nd rfl (Or.inl rfl))
      (pss_one (ps_if (pt_cmpR op_ne (pe_callB call_len_seq rfl X.len PySem.boot_len (pa_cons (pe_ix ix_tup (pe_ix ix_list (pv 1) (pv 3) (fun _ _ => rfl)) pe_int (fun _ _ => rfl)) pa_nil)) (pe_callB call_len_seq rfl X.len PySem.boot_len (pa_cons (pv 0) pa_nil)) (nomark _))
        (pss_one (ps_ret (pe_tup (pa_cons pe_str (pa_cons (pv 3) pa_nil))))) pss_nil)))
    (pss_one (ps_ret (pe_tup (pa_cons pe_str (pa_cons (pe_callB call_len_seq rfl X.len PySem.boot_len (pa_cons (pv 1) pa_nil)) pa_nil))))))), ?_⟩
  refine ⟨_, rfl, ca, rfl, ⟨_, SqL.of hca⟩, fun D hD => ?_⟩
  refine lcg_listR (K := K) (a := ca) (xs := cs.map V.str) (fun i σ H2 => ∃ (u : Option V), σ = [u, some (.ref ca)] ∧ Same H H2 ∧ H2 D = some (.lst (((cs.take i).filter (twice cs)).map V.str)))
    ⟨none, rfl, same_new hD _, upd_same⟩ (fun i σ H2 _ ⟨_, _, z, _⟩ => SqL.of (z _ _ hca)) ?_ ?_
  · rintro i v σ H2 hi ⟨u, rfl, s2, h2⟩
    obtain ⟨x, hxi, hxm, rfl⟩ := of_str hi
    have hil := (List.getElem?_eq_some_iff.mp hxi).1
    refine ⟨_, rfl, .inl ⟨rfl, _, SqL.of (s2 _ _ hca)⟩, _, rfl, ca, _, _, rfl, rfl, s2 _ _ hca, rfl, str_flat cs, _, _, rfl, rfl, _, rfl, ?_⟩
    have e : decide ((((cs.map V.str).countP fun z => eqV z (.str x) : Nat) : Int) > 1) = twice cs x := by
      unfold twice
      rw [Bool.eq_iff_iff, decide_eq_true_iff, decide_eq_true_iff]
      omega
    rw [e]
    rw [take_snoc hxi, List.filter_append]
    cases hv : twice cs x with
    | false =>
      refine iteF ⟨_, rfl, s2, ?_⟩
      rw [List.filter_cons_of_neg (by rw [hv]; decide), List.filter_nil, List.append_nil]
      exact h2
    | true =>
      refine iteT ⟨_, rfl, _, h2, ?_, _, rfl, same_upd s2 hD _, ?_⟩
      · rw [List.length_map]
        have := List.length_filter_le (twice cs) (cs.take i)
        rw [List.length_take] at this
        exact small1000 (by omega)
      · rw [upd_same, List.filter_cons_of_pos hv, List.filter_nil, List.map_append]; rfl
  rintro σ H2 ⟨u, rfl, s2, h2⟩
  rw [List.length_map, List.take_length] at h2
  have h2' : H2 D = some (.lst ((reps cs).map V.str)) := h2
  have rpl : (reps cs).length ≤ cs.length := List.length_filter_le _ _
  refine ⟨D, reps cs, rfl, SqL.of h2', by omega, fun L ds hL pd sd => ?_⟩
  have s3 := same_new hL (.lst (ds.map V.str))
  have h3 := upd_same (H := H2) (a := L) (o := .lst (ds.map V.str))
  generalize upd H2 L (.lst (ds.map V.str)) = H3 at s3 h3 ⊢
  refine ⟨_, rfl, small (by simp), fun e1 he1 => ?_⟩
  have s4 := same_new he1 (.lst [])
  have h4 := upd_same (H := H3) (a := e1) (o := .lst [])
  generalize upd H3 e1 (.lst []) = H4 at s4 h4 ⊢
  have w4 := s2.trans (s3.trans s4)
  have h4L := s4 _ _ h3
  refine ⟨L, e1, _, rfl, rfl, SqL.of h4L, SqL.of h4, _, rfl, ?_⟩
  cases hd : ds with
  | cons y r =>
    rw [hd] at h4L
    refine iteT ⟨_, rfl, L, _, _, _, rfl, rfl, SqL.of h4L, at0, small (by simp), fun a ha => ?_⟩
    exact q1 y a _ (least_head pd sd hd) (w4.trans (same_new ha _)) upd_same
  | nil =>
    have hz : reps cs = [] := by
      rw [hd] at pd
      exact pd.symm.eq_nil
    have len := plen hP
    refine iteF ?_
    refine ⟨_, rfl, ra, _, rfl, .inl (SqL.of (w4 _ _ hra)), _, rfl, by omega, by omega, for_range (lo := 0) (n := ((xs.length : Nat) : Int).toNat) (fun i σ H5 => ∃ (u : Option V), σ = [some (.ref ca), some (.ref ra), some (.ref L), u] ∧ Same H H5 ∧ bad cs.length 0 ((rows.map (·.1)).map List.length) = bad cs.length i (((rows.map (·.1)).map List.length).drop i))
      ⟨none, rfl, w4, rfl⟩ ?_ ?_⟩
    · rintro i σ H5 hi ⟨u, rfl, s5, hb⟩
      have hix : i < xs.length := by omega
      obtain ⟨r, hri, a, rl', ex, ha, nl, hrl⟩ := pget hP (List.getElem?_eq_getElem hix)
      have hir := (List.getElem?_eq_some_iff.mp hri).1
      have e0 : (0 : Int) + (i : Nat) = (i : Nat) := Int.zero_add _
      have hat : atI xs (0 + (i : Nat)) = some (.ref a) := by rw [e0, ← ex]; exact atI_nat (List.getElem?_eq_getElem hix)
      have hm : ((rows.map (·.1)).map List.length)[i]? = some r.1.length := by rw [List.getElem?_map, List.getElem?_map, hri]; rfl
      obtain ⟨hlt, hge⟩ := List.getElem?_eq_some_iff.mp hm
      rw [List.drop_eq_getElem_cons hlt, hge] at hb
      refine ⟨_, rfl, _, rfl, ra, xs, _, _, rfl, rfl, SqL.of (s5 _ _ hra), hat, a, _, _, _, rfl, rfl, SqT.of (s5 _ _ ha), rfl, rl', _, rfl, .inl (SqL.of (s5 _ _ hrl)), _, rfl, ca, _, rfl, .inl (SqL.of (s5 _ _ hca)), rfl, _, rfl, ?_⟩
      by_cases e : r.1.length = cs.length
      · refine iteFd ?_ ⟨_, rfl, s5, ?_⟩
        · rw [dec_int, List.length_map, List.length_map, e]
          simp
        · rw [hb]
          show (if r.1.length = cs.length then bad cs.length (i + 1) _ else some i) = _
          rw [if_pos e]
      · refine iteTd ?_ ⟨_, rfl, small (by simp), fun t ht => ?_⟩
        · rw [dec_int, List.length_map, List.length_map]
          simp
          omega
        · rw [e0]
          exact q2 hz i t _ (by rw [hb]; show (if r.1.length = cs.length then bad cs.length (i + 1) _ else some i) = some i; rw [if_neg e]) (s5.trans (same_new ht _)) upd_same
    · rintro σ H5 ⟨u, rfl, s5, hb⟩
      refine ⟨_, rfl, ra, _, rfl, .inl (SqL.of (s5 _ _ hra)), small (by simp), fun t ht => ?_⟩
      rw [len]
      refine q3 hz ?_ t _ (s5.trans (same_new ht _)) upd_same
      rw [hb]
      have : ((xs.length : Nat) : Int).toNat = ((rows.map (·.1)).map List.length).length := by rw [List.length_map, List.length_map, ← len]; omega
      rw [this, List.drop_length]
      rfl
theorem scOt : FnScope ["_law_error", "_law_some"] ["_law_error"] (defScope sOthers) := ⟨rfl, rfl, rfl, by decide +kernel, rfl, by decide +kernel, by decide +kernel⟩
theorem ok_others {a1 a2 a3 a4 a5 a6 a7 : Addr} (Fn : Fun K "_law_others" "_law_others" sOthers f fd) (X : Txt mg) (n1 : mg "NoColumn" = some (.ref a1)) (n2 : mg "NoFilling" = some (.ref a2)) (n3 : mg "NoName" = some (.ref a3)) (n4 : mg "NoText" = some (.ref a4)) (n5 : mg "TooFew" = some (.ref a5)) (n6 : mg "TooMany" = some (.ref a6)) (n7 : mg "Unlike" = some (.ref a7)) : FnH P w K mg base CX0 1 f fd ["_law_error"] (spOthers K a1 a2 a3 a4 a5 a6 a7) := by
  refine Fun.okH Fn scOt (fun vs H Q E h => ?_) (fun cdv A outer s H vs Q E hr h => ?_)
  · obtain ⟨e, C, dp, rfl, _⟩ := h
    rfl
  obtain ⟨e, C, dp, rfl, he, Z, q⟩ := h
  refine ⟨_, pss_cons (ps_set (i := 1) scOt.nd rfl (Or.inl rfl) (pe_lst (pa_cons (pe_callB (call_isE (K := K) rfl) rfl X.isi PyProof.Rows.boot_isinstance (pa_cons (pv 0) (pa_cons (pe_glob (v := .ref a1) rfl n1 rfl) pa_nil))) (pa_cons (pe_callB (call_isE (K := K) rfl) rfl X.isi PyProof.Rows.boot_isinstance (pa_cons (pv 0) (pa_cons (pe_glob (v := .ref a2) rfl n2 rfl) pa_nil))) (pa_cons (pe_callB (call_isE (K := K) rfl) rfl X.isi PyProof.Rows.boot_isinstance (pa_cons (pv 0) (pa_cons (pe_glob (v := .ref a3) rfl n3 rfl) pa_nil))) pa_nil)))))
    (pss_cons (ps_set (i := 1) scOt.nd rfl (Or.inl rfl) (pe_op op_cat (pv 1) (pe_lst (pa_cons (pe_callB (call_isE (K := K) rfl) rfl X.isi PyProof.Rows.boot_isinstance (pa_cons (pv 0) (pa_cons (pe_glob (v := .ref a4) rfl n4 rfl) pa_nil))) (pa_cons (pe_callB (call_isE (K := K) rfl) rfl X.isi PyProof.Rows.boot_isinstance (pa_cons (pv 0) (pa_cons (pe_glob (v := .ref a5) rfl n5 rfl) pa_nil))) (pa_cons (pe_callB (call_isE (K := K) rfl) rfl X.isi PyProof.Rows.boot_isinstance (pa_cons (pv 0) (pa_cons (pe_glob (v := .ref a6) rfl n6 rfl) pa_nil))) pa_nil))))))
    (pss_one (ps_ret (pe_op op_cat (pv 1) (pe_lst (pa_cons (pe_callB (call_isE (K := K) rfl) rfl X.isi PyProof.Rows.boot_isinstance (pa_cons (pv 0) (pa_cons (pe_glob (v := .ref a7) rfl n7 rfl) pa_nil))) (pa_cons (pe_not (pe_callB (call_isE (K := K) rfl) rfl X.isi PyProof.Rows.boot_isinstance (pa_cons (pv 0) (pa_cons (pe_bltn (v := .ty "ValueError") rfl X.ve boot_ValueError rfl) pa_nil)))) pa_nil))))))), ?_⟩
  have rr : ∀ a : Addr, ∀ u, RelV (.ref a) u → u = .ref a := fun a u r => r
  refine ⟨_, rfl, e, C, dp, _, _, _, rfl, rr a1, he, Z.cl, Z.n1, _, rfl, e, C, dp, _, _, _, rfl, rr a2, he, Z.cl, Z.n2, _, rfl, e, C, dp, _, _, _, rfl, rr a3, he, Z.cl, Z.n3, small (by simp), fun L hL => ?_⟩
  have s1 := same_new hL (.lst [.bl false, .bl false, .bl false])
  have h1 := upd_same (H := H) (a := L) (o := .lst [.bl false, .bl false, .bl false])
  generalize upd H L (.lst [.bl false, .bl false, .bl false]) = H1 at s1 h1 ⊢
  have he1 := s1 _ _ he
  refine ⟨_, rfl, _, rfl, e, C, dp, _, _, _, rfl, rr a4, he1, Z.cl, Z.n4, _, rfl, e, C, dp, _, _, _, rfl, rr a5, he1, Z.cl, Z.n5, _, rfl, e, C, dp, _, _, _, rfl, rr a6, he1, Z.cl, Z.n6, small (by simp), fun L2 hL2 => ?_⟩
  have s2 := same_new hL2 (.lst [.bl false, .bl false, .bl false])
  have h2 := upd_same (H := H1) (a := L2) (o := .lst [.bl false, .bl false, .bl false])
  generalize upd H1 L2 (.lst [.bl false, .bl false, .bl false]) = H2 at s2 h2 ⊢
  refine ⟨L, L2, _, _, rfl, rfl, s2 _ _ h1, h2, small (by simp), fun L3 hL3 => ?_⟩
  have s3 := same_new hL3 (.lst ([V.bl false, .bl false, .bl false] ++ [.bl false, .bl false, .bl false]))
  have h3 := upd_same (H := H2) (a := L3) (o := .lst ([V.bl false, .bl false, .bl false] ++ [.bl false, .bl false, .bl false]))
  generalize upd H2 L3 (.lst ([V.bl false, .bl false, .bl false] ++ [.bl false, .bl false, .bl false])) = H3 at s3 h3 ⊢
  have w3 := s1.trans (s2.trans s3)
  have he3 := w3 _ _ he
  refine ⟨_, rfl, _, rfl, e, C, dp, _, _, _, rfl, rr a7, he3, Z.cl, Z.n7, _, rfl, e, C, dp, _, _, _, rfl, rel_ty, he3, Z.cl, Z.ve, _, rfl, small (by simp), fun L4 hL4 => ?_⟩
  have s4 := same_new hL4 (.lst [.bl false, .bl false])
  have h4 := upd_same (H := H3) (a := L4) (o := .lst [.bl false, .bl false])
  refine ⟨L3, L4, _, _, rfl, rfl, s4 _ _ h3, h4, small (by simp), fun L5 hL5 => ?_⟩
  exact q L5 _ (w3.trans (s4.trans (same_new hL5 _))) upd_same
end
end K32
set_option maxHeartbeats 4000000
namespace L2
open PySem PySem.Spec PyProof.Rows
theorem op_in_seqK {X : Cx} {K : PySem.W.Frag} (e : X.K = K) : OpR X (compareOp .In) (rIn K false) := e ▸ op_in_seq
end L2
namespace K32
open PySem L2 CD
/-- the two refusals -/
structure Two (K : PySem.W.Frag) (CT CS a1 a2 a3 a4 a5 a6 a7 : Addr) : Prop where
  xt : Isx K CT a1 a2 a3 a4 a5 a6 a7
  xs : Isx K CS a1 a2 a3 a4 a5 a6 a7
  tt : PySem.W.kitOne K (.ref CT) (.ref CT) = some true
  ts : PySem.W.kitOne K (.ref CT) (.ref CS) = some false
  st : PySem.W.kitOne K (.ref CS) (.ref CT) = some false
  ss : PySem.W.kitOne K (.ref CS) (.ref CS) = some true
  ht : PySem.W.hasDictIn K CT = true
  hs : PySem.W.hasDictIn K CS = true
  nt : PySem.W.findIn K (.ref CT) "name" = some none
  ns : PySem.W.findIn K (.ref CS) "row" = some none
def spTold (Tt BC : Addr) : Sp := fun args H Q _ => ∃ (ca ra : Addr) (cs : List Str) (ys : List V) (rows : List Row) (pool : List Key), args = [.ref ca, .ref ra] ∧ H ca = some (.lst (cs.map V.str)) ∧ cs.length ≤ 10 ∧ H ra = some (.lst ys) ∧ Paired (RowI Tt H) ys rows ∧ rows.length ≤ 20 ∧ (∀ r ∈ rows, r.length ≤ 10) ∧ pool.length ≤ 40 ∧ (∀ r ∈ rows, ∀ k ∈ r, k ∈ pool) ∧
  (∀ m t H', Least (reps cs) m → Same H H' → H' t = some (.tup [.str "twice", .str m]) → Q (.ref t) H') ∧ (reps cs = [] → ∀ i t H', bad cs.length 0 (rows.map List.length) = some i → Same H H' → H' t = some (.tup [.str "short", .int i]) → Q (.ref t) H') ∧
  (reps cs = [] → bad cs.length 0 (rows.map List.length) = none → ∀ b t H', Same H H' → IsB BC H' b cs rows.length → H' t = some (.tup [.str "made", .ref b]) → Q (.ref t) H')
theorem rowi_keep {Tt : Addr} {H H' : Hp} (s : Same H H') : ∀ {xs : List V} {rows : List Row}, Paired (RowI Tt H) xs rows → Paired (RowI Tt H') xs rows
  | _, _, .nil => .nil
  | _, _, .cons ⟨a, rr, cv, e, h1, h2, h3⟩ r => .cons ⟨a, rr, cv, e, s _ _ h1, s _ _ h2, h3.keep s⟩ (rowi_keep s r)
theorem IsB.keep {BC : Addr} {H H' : Hp} {b : Addr} {cs : List Str} {n : Nat} (s : Same H H') (h : IsB BC H b cs n) : IsB BC H' b cs n := by
  obtain ⟨dx, tc, tr, fs, xs, h1, h2, h3, h4, h5, h6, h7⟩ := h
  exact ⟨dx, tc, tr, fs, xs, s _ _ h1, h2, h3, s _ _ h4, h5, s _ _ h6, h7⟩
theorem bl_flat (bs : List Bool) : (bs.map V.bl).all flatV = true := by
  rw [List.all_eq_true]
  intro x hx
  obtain ⟨o, _, rfl⟩ := List.mem_map.mp hx
  rfl
abbrev nmT : List Str := ["_law_columns_here", "_law_rows_here", "_law_told_here", "_law_table", "_law_error"]
section
variable {P : Program} {w : World} {K : PySem.W.Frag} {mg : Str → Option Value} {base : Heap} {f : Addr} {fd : FuncData} {Tt CC BC CT CS MM a1 a2 a3 a4 a5 a6 a7 : Addr}
theorem scTo : FnScope nmT ["_law_columns_here", "_law_rows_here"] (defScope sTold) := ⟨rfl, rfl, rfl, by decide +kernel, rfl, by decide +kernel, by decide +kernel⟩
theorem ok_told {bm : List Value} {newId initId Bn : String} (Fn : Fun K "_law_told" "_law_told" sTold f fd) (X : Txt mg) (O : OwnB "MaybeError" MM bm newId mg base) (FB : ExcBaseFacts Bn newId initId bm) (sT : SubE CT MM base) (sS : SubE CS MM base) (W : Two K CT CS a1 a2 a3 a4 a5 a6 a7) (mT : mg "Twice" = some (.ref CT)) (mS : mg "Short" = some (.ref CS))
    (MB : ∃ f fd, Mk K BC f ∧ FnOk P w K mg base (CXe P w) 5 f fd ["self", "columns", "rows", "whole"] (spBE Tt BC CT CS) ∧ Binds K fd ["self", "columns", "rows", "whole"] [.none] ∧ mg "Table" = some (.ref BC))
    (C1 : ∃ f fd, FnH P w K mg base CX0 1 f fd ["_law_error"] (spOthers K a1 a2 a3 a4 a5 a6 a7) ∧ Binds K fd ["_law_error"] [] ∧ PySem.W.keepIn K (.ref f) = true ∧ mg "_law_others" = some (.ref f)) : FnOk P w K mg base CX0 7 f fd ["_law_columns_here", "_law_rows_here"] (spTold Tt BC) := by
  obtain ⟨f0, d0, mk0, G0, bb0, m0⟩ := MB
  obtain ⟨f1, d1, G1, b1, k1, m1⟩ := C1
  refine Fn.ok (k := 6) scTo (fun vs H Q E h => ?_) (fun cdv A outer s H vs Q E hr h => ?_)
  · obtain ⟨ca, ra, cs, ys, rows, pool, rfl, _⟩ := h
    rfl
  obtain ⟨ca, ra, cs, ys, rows, pool, rfl, hca, cl, hra, hP, rl, r10, pl, hpool, q1, q2, q3⟩ := h
  have hr1 : Room 1 _ := hr.mono (by decide)
  refine ⟨_, pss_cons (ps_set (i := 2) scTo.nd rfl (Or.inl rfl) (pe_tup (pa_cons pe_str (pa_cons pe_int pa_nil))))
    (pss_cons (ps_tryG (i := 4) (M := MM) (sub := fun C => C = CT ∨ C = CS)
        (tb := fun E => tSeq (tAsg (tAt fun σ => tMake BC (spBE Tt BC CT CS) [.non] (E σ) (tCons (tVar 0) (tCons (tVar 1) tNil))) (gName 3)) (tSeq (tAsg (tTup (tCons (tC (.str "made")) (tCons (tVar 3) tNil))) (gName 2)) tNext)) rfl rfl rfl
        (fun xe E pins hx => pssa_cons (psa_set (X := cxT _ xe) (i := 3) scTo.nd rfl (Or.inl rfl) (fun σ => pe_makeA (X := cxT _ xe) mk0 G0 hr rfl m0 bb0 (.cons (show RelV .non .none from rfl) .nil) (hx σ) (pa_cons (pe_var (X := cxT _ xe) (i := 0) rfl (Or.inl rfl)) (pa_cons (pe_var (X := cxT _ xe) (i := 1) rfl (Or.inl rfl)) pa_nil))))
          (pssa_of (pss_one (ps_set (X := cxT _ xe) (i := 2) scTo.nd rfl (Or.inl rfl) (pe_tup (pa_cons pe_str (pa_cons (pe_var (X := cxT _ xe) (i := 3) rfl (Or.inl rfl)) pa_nil)))))))
        O FB (fun C hC => hC.elim (fun e => e ▸ sT) (fun e => e ▸ sS)) rfl scTo.nd rfl rfl
        (fun e => pss_one (ps_if (X := cxH _ e) (pt_not (pt_cmpR (op_in_seqK (K := K) rfl) pe_bl (pe_callH (X := cxH _ e) (K := K) (mg := mg) rfl rfl G1 (RoomH.mark hr1) rfl m1 k1 b1 (pa_cons (pe_var (X := cxH _ e) (i := 4) rfl (Or.inl rfl)) pa_nil)) rfl))
          (pss_cons (ps_if (X := cxH _ e) (PW.pt (pw_and (pt_val (pe_callB (call_isE (K := K) rfl) rfl X.isi PyProof.Rows.boot_isinstance (pa_cons (pe_var (X := cxH _ e) (i := 4) rfl (Or.inl rfl)) (pa_cons (pe_glob (v := .ref CT) rfl mT rfl) pa_nil)))) (pw_and1 (pt_not (pt_val (pe_callB (call_isE (K := K) rfl) rfl X.isi PyProof.Rows.boot_isinstance (pa_cons (pe_var (X := cxH _ e) (i := 4) rfl (Or.inl rfl)) (pa_cons (pe_glob (v := .ref CS) rfl mS rfl) pa_nil))))))))
            (pss_one (ps_set (X := cxH _ e) (i := 2) scTo.nd rfl (Or.inl rfl) (pe_tup (pa_cons pe_str (pa_cons (pe_fldE (K := K) rfl (pe_var (X := cxH _ e) (i := 4) rfl (Or.inl rfl))) pa_nil))))) pss_nil)
          (pss_one (ps_if (X := cxH _ e) (PW.pt (pw_and (pt_val (pe_callB (call_isE (K := K) rfl) rfl X.isi PyProof.Rows.boot_isinstance (pa_cons (pe_var (X := cxH _ e) (i := 4) rfl (Or.inl rfl)) (pa_cons (pe_glob (v := .ref CS) rfl mS rfl) pa_nil)))) (pw_and1 (pt_not (pt_val (pe_callB (call_isE (K := K) rfl) rfl X.isi PyProof.Rows.boot_isinstance (pa_cons (pe_var (X := cxH _ e) (i := 4) rfl (Or.inl rfl)) (pa_cons (pe_glob (v := .ref CT) rfl mT rfl) pa_nil))))))))
            (pss_one (ps_set (X := cxH _ e) (i := 2) scTo.nd rfl (Or.inl rfl) (pe_tup (pa_cons pe_str (pa_cons (pe_fldE (K := K) rfl (pe_var (X := cxH _ e) (i := 4) rfl (Or.inl rfl))) pa_nil))))) pss_nil))) pss_nil))
        pss_nil)
    (pss_one (ps_ret (pv 2)))), ?_⟩
  have rr : ∀ a : Addr, ∀ u, RelV (.ref a) u → u = .ref a := fun a u r => r
  have nof : decide (true ∈ List.replicate 8 false) = false := by decide
  refine ⟨small (by simp), fun t0 ht0 => ?_⟩
  have s1 := same_new ht0 (.tup [.str "other", .int 0])
  generalize upd H t0 (.tup [.str "other", .int 0]) = H1 at s1 ⊢
  refine ⟨_, rfl, _, rfl, fun x dx hx hdx ne => ?_⟩
  refine ⟨x, dx, ca, ra, cs, ys, rows, pool, H1, rfl, upd_same, mk_same hx hdx, hx, s1 _ _ hca, cl, s1 _ _ hra, rowi_keep s1 hP, rl, r10, pl, hpool, fun m H2 dp hm s2 hdp => ?_, fun hz i H2 dp hb s2 hdp => ?_, fun hz hb H2 s2 hB => ⟨rfl, ?_⟩⟩
  · refine ⟨CT, rfl, .inl rfl, fun e he => ?_⟩
    have w2 := s1.trans s2
    have s3 := same_new hdp (.xd [("name", .str m)])
    have h3 := upd_same (H := H2) (a := dp) (o := .xd [("name", .str m)])
    generalize upd H2 dp (.xd [("name", .str m)]) = H3 at s3 h3 he ⊢
    have s4 := same_new he (ExcO e CT (some dp))
    have h4 := upd_same (H := H3) (a := e) (o := ExcO e CT (some dp))
    generalize upd H3 e (ExcO e CT (some dp)) = H4 at s4 h4 ⊢
    have w4 := w2.trans (s3.trans s4)
    refine ⟨_, rfl, e, CT, _, rfl, h4, W.xt, fun r H5 s5 hr5 => ?_⟩
    have h5 := s5 _ _ h4
    have h5d := s5 _ _ (s4 _ _ h3)
    have w5 := w4.trans s5
    refine ⟨r, _, rfl, .inl (SqL.of hr5), rfl, bl_flat _, _, rfl, iteTd (by decide) ?_⟩
    refine ⟨_, rfl, e, CT, _, _, _, _, rfl, rr CT, h5, W.xt.cl, W.tt, _, rfl, iteT ?_⟩
    refine ⟨_, rfl, e, CT, _, _, _, _, rfl, rr CS, h5, W.xt.cl, W.ts, _, rfl, iteT ?_⟩
    refine ⟨_, rfl, e, CT, dp, _, .str m, rfl, h5, h5d, W.xt.cl, W.ht, W.nt, rfl, small (by simp), fun t ht => ?_⟩
    have s6 := same_new ht (.tup [.str "twice", .str m])
    have h6 := upd_same (H := H5) (a := t) (o := .tup [.str "twice", .str m])
    generalize upd H5 t (.tup [.str "twice", .str m]) = H6 at s6 h6 ⊢
    refine ⟨_, rfl, e, CT, _, _, _, _, rfl, rr CS, s6 _ _ h5, W.xt.cl, W.ts, _, rfl, iteF (iteF ?_)⟩
    exact ⟨_, rfl, q1 m t H6 hm (w5.trans s6) h6⟩
  · refine ⟨CS, rfl, .inr rfl, fun e he => ?_⟩
    have w2 := s1.trans s2
    have s3 := same_new hdp (.xd [("row", .int i)])
    have h3 := upd_same (H := H2) (a := dp) (o := .xd [("row", .int i)])
    generalize upd H2 dp (.xd [("row", .int i)]) = H3 at s3 h3 he ⊢
    have s4 := same_new he (ExcO e CS (some dp))
    have h4 := upd_same (H := H3) (a := e) (o := ExcO e CS (some dp))
    generalize upd H3 e (ExcO e CS (some dp)) = H4 at s4 h4 ⊢
    have w4 := w2.trans (s3.trans s4)
    refine ⟨_, rfl, e, CS, _, rfl, h4, W.xs, fun r H5 s5 hr5 => ?_⟩
    have h5 := s5 _ _ h4
    have h5d := s5 _ _ (s4 _ _ h3)
    have w5 := w4.trans s5
    refine ⟨r, _, rfl, .inl (SqL.of hr5), rfl, bl_flat _, _, rfl, iteTd (by decide) ?_⟩
    refine ⟨_, rfl, e, CS, _, _, _, _, rfl, rr CT, h5, W.xs.cl, W.st, _, rfl, iteF (iteF ?_)⟩
    refine ⟨_, rfl, e, CS, _, _, _, _, rfl, rr CS, h5, W.xs.cl, W.ss, _, rfl, iteT ?_⟩
    refine ⟨_, rfl, e, CS, _, _, _, _, rfl, rr CT, h5, W.xs.cl, W.st, _, rfl, iteT ?_⟩
    refine ⟨_, rfl, e, CS, dp, _, .int i, rfl, h5, h5d, W.xs.cl, W.hs, W.ns, rfl, small (by simp), fun t ht => ?_⟩
    have s6 := same_new ht (.tup [.str "short", .int i])
    have h6 := upd_same (H := H5) (a := t) (o := .tup [.str "short", .int i])
    generalize upd H5 t (.tup [.str "short", .int i]) = H6 at s6 h6 ⊢
    exact ⟨_, rfl, q2 hz i t H6 hb (w5.trans s6) h6⟩
  · refine ⟨_, rfl, small (by simp), fun t ht => ?_⟩
    have s3 := same_new ht (.tup [.str "made", .ref x])
    have h3 := upd_same (H := H2) (a := t) (o := .tup [.str "made", .ref x])
    exact ⟨_, rfl, q3 hz hb x t _ (s1.trans (s2.trans s3)) (hB.keep s3) h3⟩
end
end K32
set_option maxHeartbeats 4000000
namespace L2
open PySem PySem.Spec PyProof.Rows
/-! ### xs == ys, which hold the same -/
inductive EqL (K : PySem.W.Frag) (H : Hp) : V → V → Prop
  | flat {x : V} : flatV x = true → EqL K H x x
  | lst {a b : Addr} {xs : List V} : SqL K H a xs → SqL K H b xs → (∀ x ∈ xs, flatV x = true) → EqL K H (.ref a) (.ref b)
section
variable {X : Cx} {pins : List (Addr × Obj)} {σ : St} {H : Hp} {s : Shared} {A : Around}
theorem eqL_at {x y : V} {u v : Value} (I : Inv X pins σ H s) (e : EqL X.K H x y) (ru : RelV x u) (rv : RelV y v) (hu : A.units + 4 < cLine) : SeqAt.EqAt A s u v true := by
  cases e with
  | flat f =>
    have z := eqAt_V (A := A) (s := s) ru rv f f
    rw [eqV_self f] at z
    exact z
  | @lst a b xs h1 h2 hf =>
    cases ru
    cases rv
    by_cases hab : a = b
    · subst hab
      exact SeqAt.EqAt.same _
    · obtain ⟨i1, r1, p1, z1⟩ := I.list h1
      obtain ⟨i2, r2, p2, z2⟩ := I.list h2
      have l1 := r1.length
      have l2 := r2.length
      have q := SeqAt.RcAt.lists (A := A) (e := fun _ => true) p1.isList p2.isList (by simp; omega) (by omega) (fun j j1 j2 => by
        have j1' : j < i1.length := by simpa using j1
        have j2' : j < i2.length := by simpa using j2
        have jx : j < xs.length := by omega
        obtain ⟨u1, e1, w1⟩ := r1.get (i := j) (x := xs[j]) (List.getElem?_eq_getElem jx)
        obtain ⟨u2, e2, w2⟩ := r2.get (i := j) (x := xs[j]) (List.getElem?_eq_getElem jx)
        rw [List.getElem?_eq_getElem j1'] at e1
        rw [List.getElem?_eq_getElem j2'] at e2
        have f := hf _ (List.getElem_mem jx)
        have z := eqAt_V (A := A.in1) (s := s) w1 w2 f f
        rw [eqV_self f] at z
        have g1 : i1.toArray[j] = u1 := by simpa using Option.some.inj e1
        have g2 : i2.toArray[j] = u2 := by simpa using Option.some.inj e2
        rw [g1, g2]
        exact z)
      have qt : ((List.range i1.toArray.size).all fun _ => true) = true := by simp
      rw [qt] at q
      exact SeqAt.EqAt.of_refs hab q
theorem op_eq_deep (hu : X.A.units + 8 < cLine) : OpR X (compareOp .Eq) (fun x y H Q => ∃ a b xs ys, x = .ref a ∧ y = .ref b ∧ SqL X.K H a xs ∧ SqL X.K H b ys ∧ Paired (EqL X.K H) xs ys ∧ Q (.bl true) H) := by
  intro pins s σ H x y v u Q I r1 r2 h
  obtain ⟨a, b, xs, ys, rfl, rfl, h1, h2, hp, q⟩ := h
  cases r1
  cases r2
  obtain ⟨i1, w1, p1, z1⟩ := I.list h1
  obtain ⟨i2, w2, p2, z2⟩ := I.list h2
  have l1 := w1.length
  have l2 := w2.length
  have l3 := Paired.length hp
  have pg : ∀ {xs ys : List V}, Paired (EqL X.K H) xs ys → ∀ (j : Nat) (x y : V), xs[j]? = some x → ys[j]? = some y → EqL X.K H x y := by
    intro xs ys h
    induction h with
    | nil => intro j x y e; simp at e
    | cons r _ ih =>
      intro j x y e e'
      cases j with
      | zero => simp at e e'; subst e; subst e'; exact r
      | succ j => exact ih j x y (by simpa using e) (by simpa using e')
  have qt : ((List.range i1.toArray.size).all fun _ => true) = true := by simp
  refine SeqAt.RcAt.lists (A := X.A) (e := fun _ => true) p1.isList p2.isList (by simp; omega) (by omega) (fun j j1 j2 => ?_) _ _ _ _ (by rw [qt]; exact ⟨.bl true, H, I, rfl, q⟩)
  have j1' : j < i1.length := by simpa using j1
  have j2' : j < i2.length := by simpa using j2
  have jx : j < xs.length := by omega
  have jy : j < ys.length := by omega
  obtain ⟨u1, q1, t1⟩ := w1.get (i := j) (x := xs[j]) (List.getElem?_eq_getElem jx)
  obtain ⟨u2, q2, t2⟩ := w2.get (i := j) (x := ys[j]) (List.getElem?_eq_getElem jy)
  rw [List.getElem?_eq_getElem j1'] at q1
  rw [List.getElem?_eq_getElem j2'] at q2
  have g1 : i1.toArray[j] = u1 := by simpa using Option.some.inj q1
  have g2 : i2.toArray[j] = u2 := by simpa using Option.some.inj q2
  rw [g1, g2]
  exact eqL_at I (pg hp j _ _ (List.getElem?_eq_getElem jx) (List.getElem?_eq_getElem jy)) t1 t2 (by show X.A.units + 1 + 4 < cLine; omega)
end
end L2
set_option maxHeartbeats 4000000
namespace L2
open PySem PySem.Spec PyProof.Rows
section
variable {X : Cx}
def rListOf (K : PySem.W.Frag) : List V → Hp → VK → Prop := fun xs H Q => ∃ p ys, xs = [.ref p] ∧ (SqL K H p ys ∨ SqT K H p ys) ∧ ∀ l, H l = none → Q (.ref l) (upd H l (.lst ys))
theorem call_list_ofK {K : PySem.W.Frag} (hK : X.K = K) : CallR X (.type "list") (rListOf K) := by
  subst hK; exact call_list_of
end
end L2
namespace K32
open PySem L2 CD
def spLaw (K : PySem.W.Frag) : Sp := fun args H Q _ => ∃ (a : Addr) (ns : List Int), args = [.ref a] ∧ SqL K H a (ns.map V.int) ∧ ns.length ≤ 63 ∧ ∀ H', Q (.bl true) H'
theorem paired_selfT {K : PySem.W.Frag} {H : Hp} : ∀ (cs : List Str), Paired (EqT K H) (cs.map V.str) (cs.map V.str)
  | [] => .nil
  | x :: r => .cons (.flat rfl) (paired_selfT r)
theorem paired_selfL {K : PySem.W.Frag} {H : Hp} : ∀ (cs : List Str), Paired (EqL K H) (cs.map V.str) (cs.map V.str)
  | [] => .nil
  | x :: r => .cons (.flat rfl) (paired_selfL r)
theorem key_flat (ks : List Key) : ∀ x ∈ ks.map kV, flatV x = true := fun x hx => by
  obtain ⟨o, _, rfl⟩ := List.mem_map.mp hx
  cases o <;> rfl
/-- lists of cells, one for each row -/
def CelL (H : Hp) (D : Addr) (v : V) (r : Row) : Prop := ∃ L : Addr, v = .ref L ∧ L ≠ D ∧ H L = some (.lst (r.map kV))
theorem celL_keep {H H' : Hp} {D : Addr} (k : ∀ a o, a ≠ D → H a = some o → H' a = some o) : ∀ {zs : List V} {rows : List Row}, Paired (CelL H D) zs rows → Paired (CelL H' D) zs rows
  | _, _, .nil => .nil
  | _, _, .cons ⟨L, e, n, h⟩ t => .cons ⟨L, e, n, k _ _ n h⟩ (celL_keep k t)
theorem celL_eq {K : PySem.W.Frag} {H : Hp} {D D' : Addr} : ∀ {zs ws : List V} {rows : List Row}, Paired (CelL H D) zs rows → Paired (CelL H D') ws rows → Paired (EqT K H) zs ws
  | _, _, _, .nil, .nil => .nil
  | _, _, _, .cons ⟨L, e, _, h⟩ t, .cons ⟨L', e', _, h'⟩ t' => by
    subst e e'
    exact .cons (.lst (SqL.of h) (SqL.of h') (key_flat _)) (celL_eq t t')
/-- a line handed on; its list is not D -/
def LnD (D Tt : Addr) (H : Hp) (v : V) (r : Row) : Prop := ∃ (a rr : Addr) (cv : V), v = .ref a ∧ H a = some (.tup [.ref rr, cv]) ∧ rr ≠ D ∧ H rr = some (.lst (r.map kV)) ∧ IsTr Tt H cv
theorem lnd_keep {Tt : Addr} {H H' : Hp} {D : Addr} {ys : List V} (hD : H D = some (.lst ys)) (k : ∀ a o, a ≠ D → H a = some o → H' a = some o) : ∀ {zs : List V} {rows : List Row}, Paired (LnD D Tt H) zs rows → Paired (LnD D Tt H') zs rows
  | _, _, .nil => .nil
  | _, _, .cons ⟨a, rl, cv, e, h1, n, h2, ⟨c, dx, tg, tv, fs, e2, g1, g2, g3, g4, g5⟩⟩ t => .cons ⟨a, rl, cv, e, k _ _ (fun e => by rw [e, hD] at h1; cases h1) h1, n, k _ _ n h2, ⟨c, dx, tg, tv, fs, e2, k _ _ (fun e => by rw [e, hD] at g1; cases g1) g1, g2, k _ _ (fun e => by rw [e, hD] at g3; cases g3) g3, g4, k _ _ (fun e => by rw [e, hD] at g5; cases g5) g5⟩⟩ (lnd_keep hD k t)
theorem lnd_row {Tt : Addr} {H : Hp} {D : Addr} : ∀ {zs : List V} {rows : List Row}, Paired (LnD D Tt H) zs rows → Paired (RowI Tt H) zs rows
  | _, _, .nil => .nil
  | _, _, .cons ⟨a, rl, cv, e, h1, n, h2, h3⟩ t => .cons ⟨a, rl, cv, e, h1, h2, h3⟩ (lnd_row t)
abbrev nmL : List Str := ["_law_script", "_law_columns_here", "_law_rows_here", "_law_handed", "_law_lines", "_law_told_here", "_law_due_here"]
theorem ndCS : (["_law_cells", "_law_said"] : List Str).Nodup := by decide +kernel
theorem bmc : ("columns" : Str) ∈ bmeths := by unfold bmeths; simp
theorem bmr : ("rows" : Str) ∈ bmeths := by unfold bmeths; simp
section
variable {P : Program} {w : World} {K : PySem.W.Frag} {mg : Str → Option Value} {base : Heap} {f : Addr} {fd : FuncData} {Tt CC BC : Addr}
theorem scLw : FnScope nmL ["_law_script"] (defScope sLaw) := ⟨rfl, rfl, rfl, by decide +kernel, rfl, by decide +kernel, by decide +kernel⟩
/-- what is told, held against what is due -/
theorem lw_tail {cdv : Value} {A : Around} {outer : List Env} {s : Shared} {H0' : Hp} {E : XK} (hr : Room 7 (A.deeper (PyProof.Rows.envOfC "law" (defScope sLaw) s.heap.objs.size f cdv))) (X : Txt mg)
    (FC : Fam P w K mg base CX0 1 (· = BC) "columns" ["self"] (fun _ => spBCols BC)) (FR : Fam P w K mg base CX0 1 (· = BC) "rows" ["self"] (fun _ => spBRows BC)) :
    ∃ t, PSs (cxOf CX0 P w K mg base nmL "law" (defScope sLaw) f cdv A outer s H0' E).nox ((defBody sLaw).drop 6) t ∧
      ∀ (Q : VK) (H : Hp) (v0 : Option V) (ca ra ha la tt dt l : Addr) (cs : List Str) (xs ys : List V) (rows : List (List Key × Bool)) (tag : Str) (tv dv : V), H ca = some (.lst (cs.map V.str)) → H ha = some (.lst (cs.map V.str)) → H ra = some (.lst xs) → Paired (RowD l H) xs rows → H la = some (.lst ys) → Paired (RowI Tt H) ys (rows.map (·.1)) → rows.length ≤ 12 → H tt = some (.tup [.str tag, tv]) → H dt = some (.tup [.str tag, dv]) →
        ((tag ≠ "made" ∧ tv = dv ∧ ((∃ i, tv = .int i) ∨ ∃ x, tv = .str x)) ∨ (tag = "made" ∧ ∃ b, tv = .ref b ∧ IsB BC H b cs rows.length ∧ dv = .int rows.length)) → (∀ H', Q (.bl true) H') →
        t { nx := fun _ H' => Q .non H', rt := Q } [v0, some (.ref ca), some (.ref ra), some (.ref ha), some (.ref la), some (.ref tt), some (.ref dt)] H := by
  have hu8 := hu8_of hr
  have hr1 : Room 1 _ := hr.mono (by decide)
  refine ⟨_, pss_cons (ps_if (PW.pt (pw_or (pt_cmpR op_ne (pe_ix ix_tup (pv 5) pe_int (fun _ _ => rfl)) (pe_ix ix_tup (pv 6) pe_int (fun _ _ => rfl)) (nomark _)) (pw_or (pt_cmpR (op_ne_deep hu8) (pv 3) (pv 1) (nomark _))
      (pw_or1 (pt_cmpR (op_ne_deep hu8)
        (pe_lcG (caps := []) ["_law_line"] rfl (pi_list (pv 4)) ⟨rfl, by decide +kernel, by decide +kernel, rfl, .nil, rfl, rfl, rfl⟩
          (fun s H ex => pg_name (X := cxLG _ _ _ _ s H ex) (i := 0) (nd1 _) rfl (Or.inl rfl) (.inr rfl)) (fun s H ex => pif_nil)
          (fun s H ex => pe_ix (ix_tupK (K := K) rfl) (pe_var (X := cxLG _ _ _ _ s H ex) (i := 0) rfl (Or.inl rfl)) pe_int (fun _ _ => rfl)))
        (pe_lcG (caps := []) ["_law_row"] rfl (pi_list (pv 2)) ⟨rfl, by decide +kernel, by decide +kernel, rfl, .nil, rfl, rfl, rfl⟩
          (fun s H ex => pg_name (X := cxLG _ _ _ _ s H ex) (i := 0) (nd1 _) rfl (Or.inl rfl) (.inr rfl)) (fun s H ex => pif_nil)
          (fun s H ex => pe_ix (ix_tupK (K := K) rfl) (pe_var (X := cxLG _ _ _ _ s H ex) (i := 0) rfl (Or.inl rfl)) pe_int (fun _ _ => rfl))) (nomark _)))))) pss_never pss_nil)
    (pss_cons (ps_if (pt_cmpR op_ne (pe_ix ix_tup (pv 6) pe_int (fun _ _ => rfl)) pe_str (nomark _))
      (pss_one (ps_ret (pe_and (pe_cmpR op_eq (pe_ix ix_tup (pv 5) pe_int (fun _ _ => rfl)) (pe_ix ix_tup (pv 6) pe_int (fun _ _ => rfl)) (nomark _)) (pe_one (pe_not (pe_callB call_isi rfl X.isi PyProof.Rows.boot_isinstance (pa_cons (pe_ix ix_tup (pv 5) pe_int (fun _ _ => rfl)) (pa_cons (pe_bltn (v := .ty "bool") rfl X.bool PyProof.Rows.boot_bool rfl) pa_nil)))))))) pss_nil)
    (pss_one (ps_ret (pe_and (pe_cmpR (op_eq_deep hu8) (pe_methF0 (pe_ix ix_tup (pv 5) pe_int (fun _ _ => rfl)) FC hr1 pass0) (pv 1) (nomark _)) (pe_one (pe_cmpR op_eq (pe_callB call_len_seq rfl X.len PySem.boot_len (pa_cons (pe_methF0 (pe_ix ix_tup (pv 5) pe_int (fun _ _ => rfl)) FR hr1 pass0) pa_nil)) (pe_ix ix_tup (pv 6) pe_int (fun _ _ => rfl)) (nomark _))))))), ?_⟩
  intro Q H v0 ca ra ha la tt dt l cs xs ys rows tag tv dv hca hha hra hP hla hL rl htt hdt hc q
  have lenx := plen hP
  have leny := plen hL
  rw [List.length_map] at leny
  refine ⟨_, rfl, tt, _, _, _, rfl, rfl, SqT.of htt, rfl, _, rfl, dt, _, _, _, rfl, rfl, SqT.of hdt, rfl, rfl, _, rfl, iteFd (by simp) ?_⟩
  refine ⟨_, rfl, _, rfl, ha, ca, _, _, rfl, rfl, SqL.of hha, SqL.of hca, paired_selfT cs, _, rfl, iteF ?_⟩
  -- the cells handed in
  refine ⟨_, rfl, la, rfl, ⟨_, SqL.of hla⟩, fun D hD => ?_⟩
  refine lcg_listR (K := K) (a := la) (xs := ys) (fun i σ H2 => ∃ (u : Option V) (zs : List V), σ = [u] ∧ Same H H2 ∧ H2 D = some (.lst zs) ∧ Paired (CelL H2 D) zs ((rows.map (·.1)).take i))
    ⟨none, [], rfl, same_new hD _, upd_same, by rw [List.take_zero]; exact .nil⟩ (fun i σ H2 _ ⟨_, _, _, s2, _⟩ => SqL.of (s2 _ _ hla)) ?_ ?_
  · rintro i x σ H2 hi ⟨u, zs, rfl, s2, h2, hZ⟩
    obtain ⟨r, hri, a, rr, cv, rfl, h3, h4, h5⟩ := pget hL hi
    have zl := plen hZ
    have hil := (List.getElem?_eq_some_iff.mp hri).1
    rw [List.length_map] at hil
    rw [List.length_take, List.length_map] at zl
    have nD : rr ≠ D := fun e => by rw [e, hD] at h4; cases h4
    refine ⟨_, rfl, a, _, _, _, rfl, rfl, SqT.of (s2 _ _ h3), rfl, zs, h2, small1000 (by omega), _, zs ++ [.ref rr], rfl, same_upd s2 hD _, upd_same, ?_⟩
    rw [take_snoc hri]
    exact psnoc (celL_keep (fun a o n h => by rw [upd_ne n]; exact h) hZ) ⟨rr, rfl, nD, by rw [upd_ne nD]; exact s2 _ _ h4⟩
  rintro σ H2 ⟨u, zs, rfl, s2, h2, hZ⟩
  rw [leny, show rows.length = (rows.map (·.1)).length by rw [List.length_map], List.take_length] at hZ
  refine ⟨_, rfl, ra, rfl, ⟨_, SqL.of (s2 _ _ hra)⟩, fun D2 hD2 => ?_⟩
  refine lcg_listR (K := K) (a := ra) (xs := xs) (fun i σ H3 => ∃ (u : Option V) (ws : List V), σ = [u] ∧ Same H2 H3 ∧ H3 D2 = some (.lst ws) ∧ Paired (CelL H3 D2) ws ((rows.map (·.1)).take i))
    ⟨none, [], rfl, same_new hD2 _, upd_same, by rw [List.take_zero]; exact .nil⟩ (fun i σ H3 _ ⟨_, _, _, s3, _⟩ => SqL.of (s3 _ _ (s2 _ _ hra))) ?_ ?_
  · rintro i x σ H3 hi ⟨u, ws, rfl, s3, h3, hW⟩
    obtain ⟨r, hri, a, rl', rfl, h4, nl, h5⟩ := pget hP hi
    have wl := plen hW
    have hil := (List.getElem?_eq_some_iff.mp hri).1
    rw [List.length_take, List.length_map] at wl
    have w3 := s2.trans s3
    have nD2 : rl' ≠ D2 := fun e => by rw [e] at h5; rw [s2 _ _ h5] at hD2; cases hD2
    have hri' : (rows.map (·.1))[i]? = some r.1 := by rw [List.getElem?_map, hri]; rfl
    refine ⟨_, rfl, a, _, _, _, rfl, rfl, SqT.of (w3 _ _ h4), rfl, ws, h3, small1000 (by omega), _, ws ++ [.ref rl'], rfl, same_upd s3 hD2 _, upd_same, ?_⟩
    rw [take_snoc hri']
    exact psnoc (celL_keep (fun a o n h => by rw [upd_ne n]; exact h) hW) ⟨rl', rfl, nD2, by rw [upd_ne nD2]; exact w3 _ _ h5⟩
  rintro σ H3 ⟨u, ws, rfl, s3, h3, hW⟩
  rw [lenx, show rows.length = (rows.map (·.1)).length by rw [List.length_map], List.take_length] at hW
  refine ⟨D, D2, _, _, rfl, rfl, SqL.of (s3 _ _ h2), SqL.of h3, celL_eq (celL_keep (fun a o _ h => s3 _ _ h) hZ) hW, _, rfl, iteF ?_⟩
  have w3 := s2.trans s3
  have htt3 := SqT.of (K := K) (w3 _ _ htt)
  have hdt3 := SqT.of (K := K) (w3 _ _ hdt)
  refine ⟨_, rfl, dt, _, _, _, rfl, rfl, hdt3, rfl, rfl, _, rfl, ?_⟩
  rcases hc with ⟨hne, rfl, hv⟩ | ⟨rfl, b, rfl, hB, rfl⟩
  · refine iteTd ?_ ?_
    · have : ¬ (V.str tag = V.str "made") := fun e => hne (V.str.inj e)
      simp [this]
    · rcases hv with ⟨i, rfl⟩ | ⟨x, rfl⟩
      · refine ⟨_, rfl, tt, _, _, _, rfl, rfl, htt3, rfl, _, rfl, dt, _, _, _, rfl, rfl, hdt3, rfl, rfl, _, rfl, iteTd (by simp) ?_⟩
        exact ⟨_, rfl, tt, _, _, _, rfl, rfl, htt3, rfl, _, _, _, _, _, rfl, rel_ty, .int _, kit_ib K, _, rfl, q _⟩
      · refine ⟨_, rfl, tt, _, _, _, rfl, rfl, htt3, rfl, _, rfl, dt, _, _, _, rfl, rfl, hdt3, rfl, rfl, _, rfl, iteTd (by simp) ?_⟩
        exact ⟨_, rfl, tt, _, _, _, rfl, rfl, htt3, rfl, _, _, _, _, _, rfl, rel_ty, .str _, kit_sb K, _, rfl, q _⟩
  · refine iteFd (by simp) ?_
    have hB3 := hB.keep w3
    obtain ⟨dx, tc, tr, fs, zs', hb, hm, _⟩ := id hB3
    refine ⟨_, rfl, tt, _, _, _, rfl, rfl, htt3, rfl, b, BC, dx, fs, rfl, hb, rfl, hm _ bmc, b, cs, rows.length, rfl, hB3, fun L hL' => ?_⟩
    have s4 := same_new hL' (.lst (cs.map V.str))
    have h4 := upd_same (H := H3) (a := L) (o := .lst (cs.map V.str))
    generalize upd H3 L (.lst (cs.map V.str)) = H4 at s4 h4 ⊢
    have w4 := w3.trans s4
    refine ⟨_, rfl, L, ca, _, _, rfl, rfl, SqL.of h4, SqL.of (w4 _ _ hca), paired_selfL cs, _, rfl, iteT ?_⟩
    refine ⟨_, rfl, tt, _, _, _, rfl, rfl, SqT.of (w4 _ _ htt), rfl, b, BC, dx, fs, rfl, s4 _ _ hb, rfl, hm _ bmr, b, cs, rows.length, rfl, hB3.keep s4, fun L2 ls hL2 ln => ?_⟩
    have s5 := same_new hL2 (.lst ls)
    refine ⟨L2, _, rfl, .inl (SqL.of upd_same), _, rfl, dt, _, _, _, rfl, rfl, SqT.of (s5 _ _ (w4 _ _ hdt)), rfl, rfl, ?_⟩
    rw [dec_int, ln]
    simpa using q _
theorem ok_law (Fn : Fun K "law" "law" sLaw f fd) (X : Txt mg)
    (FC : Fam P w K mg base CX0 1 (· = BC) "columns" ["self"] (fun _ => spBCols BC)) (FR : Fam P w K mg base CX0 1 (· = BC) "rows" ["self"] (fun _ => spBRows BC))
    (C1 : Cal P w K mg base "_law_columns" 3 ["_law_script"] (spColumns K)) (C2 : Cal P w K mg base "_law_rows" 2 ["_law_script", "_law_many"] (spRows K)) (C3 : Cal P w K mg base "_law_told" 7 ["_law_columns_here", "_law_rows_here"] (spTold Tt BC)) (C4 : Cal P w K mg base "_law_due" 1 ["_law_columns_here", "_law_rows_here"] spDue)
    (M1 : MkC P w K mg base "Truth" Tt 3 ["self", "said"] (spTI Tt)) : FnOk P w K mg base CX0 8 f fd ["_law_script"] (spLaw K) := by
  refine Fn.ok (k := 7) scLw (fun vs H Q E h => ?_) (fun cdv A outer s H vs Q E hr h => ?_)
  · obtain ⟨a, ns, rfl, _⟩ := h
    rfl
  obtain ⟨sa, ns, rfl, hS, nl, q⟩ := h
  obtain ⟨tt, ht, q6⟩ := lw_tail (P := P) (w := w) (K := K) (mg := mg) (base := base) (f := f) (outer := outer) (H0' := H) (E := E) (Tt := Tt) hr X FC FR
  obtain ⟨g1, e1, J1, c1, l1, n1⟩ := C1
  obtain ⟨g2, e2, J2, c2, l2, n2⟩ := C2
  obtain ⟨g3, e3, J3, c3, l3, n3⟩ := C3
  obtain ⟨g4, e4, J4, c4, l4, n4⟩ := C4
  obtain ⟨f5, d5, mk5, G5, b5, m5⟩ := M1
  have hr1 : Room 1 _ := hr.mono (by decide)
  have hr2 : Room 2 _ := hr.mono (by decide)
  have hr3 : Room 3 _ := hr.mono (by decide)
  have hr4 : Room 4 _ := hr.mono (by decide)
  refine ⟨_, pss_cons (ps_set (i := 1) scLw.nd rfl (Or.inl rfl) (pe_call J1 hr3 rfl n1 l1 c1 .nil pass0 (pa_cons (pv 0) pa_nil)))
    (pss_cons (ps_set (i := 2) scLw.nd rfl (Or.inl rfl) (pe_call J2 hr2 rfl n2 l2 c2 .nil pass0 (pa_cons (pv 0) (pa_cons (pe_callB call_len_seq rfl X.len PySem.boot_len (pa_cons (pv 1) pa_nil)) pa_nil))))
    (pss_cons (ps_set (i := 3) scLw.nd rfl (Or.inl rfl) (pe_callTy call_list_of rfl X.list PyProof.Rows.boot_list (pa_cons (pv 1) pa_nil)))
    (pss_cons (ps_setLC (i := 4) ["_law_cells", "_law_said"] (caps := []) rfl scLw.nd rfl rfl (pi_list (pv 2)) ⟨rfl, by decide +kernel, by decide +kernel, rfl, .nil, rfl, rfl, rfl⟩
        (fun s H ex => pg_tupK (K := K) (n := 2) rfl rfl (pgs_cons (pg_name (X := cxLG _ _ _ _ s H ex) (i := 0) ndCS rfl (Or.inl rfl) (.inr rfl)) (pgs_cons (pg_name (X := cxLG _ _ _ _ s H ex) (i := 1) ndCS rfl (Or.inl rfl) (.inr rfl)) pgs_nil))) (fun s H ex => pif_nil)
        (fun s H ex => pe_tup (pa_cons (pe_callTy (X := cxLG _ _ _ _ s H ex) (call_list_ofK (K := K) rfl) rfl X.list PyProof.Rows.boot_list (pa_cons (pe_var (X := cxLG _ _ _ _ s H ex) (i := 0) rfl (Or.inl rfl)) pa_nil)) (pa_cons (pe_make (X := cxLG _ _ _ _ s H ex) mk5 G5 hr4 rfl m5 b5 .nil pass0 (pa_cons (pe_var (X := cxLG _ _ _ _ s H ex) (i := 1) rfl (Or.inl rfl)) pa_nil)) pa_nil))) rfl)
    (pss_cons (ps_set (i := 5) scLw.nd rfl (Or.inl rfl) (pe_call J3 hr rfl n3 l3 c3 .nil pass0 (pa_cons (pv 3) (pa_cons (pv 4) pa_nil))))
    (pss_cons (ps_set (i := 6) scLw.nd rfl (Or.inl rfl) (pe_call J4 hr1 rfl n4 l4 c4 .nil pass0 (pa_cons (pv 1) (pa_cons (pv 2) pa_nil)))) ht))))), ?_⟩
  refine ⟨_, rfl, sa, ns, rfl, hS, fun ca cs H1 s1 hca0 hca cl => ?_⟩
  refine ⟨_, rfl, _, rfl, ca, _, rfl, .inl (SqL.of hca), sa, ns, (cs.map V.str).length, rfl, s1.seq hS, by rw [List.length_map]; omega, fun ra xs rows pool H2 s2 hra0 hra hP rl r8 pl hpool => ?_⟩
  have hca2 := s2 _ _ hca
  refine ⟨_, rfl, ca, _, rfl, .inl (SqL.of hca2), fun ha hha0 => ?_⟩
  have s3 := same_new hha0 (.lst (cs.map V.str))
  have h3 := upd_same (H := H2) (a := ha) (o := .lst (cs.map V.str))
  generalize upd H2 ha (.lst (cs.map V.str)) = H3 at s3 h3 ⊢
  have hra3 := s3 _ _ hra
  have hP3 : Paired (RowD ra H3) xs rows := rowd_keep hra (fun a o _ h => s3 _ _ h) hP
  have lenx := plen hP
  refine ⟨_, rfl, ra, rfl, ⟨_, SqL.of hra3⟩, fun D hD => ?_⟩
  refine lcg_listR (K := K) (a := ra) (xs := xs) (fun i σ H4 => ∃ (u1 u2 : Option V) (ys : List V), σ = [u1, u2] ∧ Same H3 H4 ∧ H4 D = some (.lst ys) ∧ Paired (LnD D Tt H4) ys ((rows.map (·.1)).take i))
    ⟨none, none, [], rfl, same_new hD _, upd_same, by rw [List.take_zero]; exact .nil⟩ (fun i σ H4 _ ⟨_, _, _, _, z, _⟩ => SqL.of (z _ _ hra3)) ?_ ?_
  · rintro i x σ H4 hi ⟨u1, u2, ys, rfl, s4, h4, hL⟩
    obtain ⟨r, hri, a, rl', rfl, g4, nl', g5⟩ := pget hP3 hi
    have yl := plen hL
    have hil := (List.getElem?_eq_some_iff.mp hri).1
    rw [List.length_take, List.length_map] at yl
    have hri' : (rows.map (·.1))[i]? = some r.1 := by rw [List.getElem?_map, hri]; rfl
    refine ⟨a, _, rfl, SqT.of (s4 _ _ g4), rfl, _, _, rfl, _, _, rfl, rfl, _, rfl, rl', r.1.map kV, rfl, .inl (SqL.of (s4 _ _ g5)), fun L hL' => ?_⟩
    have nLD : L ≠ D := fun e => by rw [e, h4] at hL'; cases hL'
    have s5 := same_new hL' (.lst (r.1.map kV))
    have h5 := upd_same (H := H4) (a := L) (o := .lst (r.1.map kV))
    generalize upd H4 L (.lst (r.1.map kV)) = H5 at s5 h5 ⊢
    refine ⟨_, rfl, fun y dy hy hdy ney => ?_⟩
    have ms := mk_same (C := Tt) hy hdy
    refine ⟨y, dy, r.2, rfl, upd_same, fun H6 kb hC => ⟨rfl, small (by simp), fun t1 ht1 => ?_⟩⟩
    have s6 := kb.same ms hy
    have s7 := same_new ht1 (.tup [.ref L, .ref y])
    have h7 := upd_same (H := H6) (a := t1) (o := .tup [.ref L, .ref y])
    have n1D : t1 ≠ D := fun e => by rw [e, s6 _ _ (s5 _ _ h4)] at ht1; cases ht1
    generalize upd H6 t1 (.tup [.ref L, .ref y]) = H7 at s7 h7 ⊢
    have w7 := s5.trans (s6.trans s7)
    have h7D := w7 _ _ h4
    refine ⟨ys, h7D, small1000 (by omega), _, _, ys ++ [.ref t1], rfl, same_upd (s4.trans w7) hD _, upd_same, ?_⟩
    rw [take_snoc hri']
    have nw := lnd_keep (Tt := Tt) (zs := [V.ref t1]) (rows := [r.1]) (H' := upd H7 D (.lst (ys ++ [.ref t1]))) h7D (fun a o n h => by rw [upd_ne n]; exact h) (.cons ⟨t1, L, .ref y, rfl, h7, nLD, s7 _ _ (s6 _ _ h5), hC.keep s7⟩ .nil)
    cases nw with
    | cons nw _ => exact psnoc (lnd_keep h4 (fun a o n h => by rw [upd_ne n]; exact w7 _ _ h) hL) nw
  rintro σ H4 ⟨u1, u2, ys, rfl, s4, h4, hL⟩
  rw [lenx, show rows.length = (rows.map (·.1)).length by rw [List.length_map], List.take_length] at hL
  have hI := lnd_row hL
  have hca4 := s4 _ _ (s3 _ _ hca2)
  have hra4 := s4 _ _ hra3
  have hP4 : Paired (RowD ra H4) xs rows := rowd_keep hra3 (fun a o _ h => s4 _ _ h) hP3
  have fin : ∀ (tag : Str) (tv dv : V) (t d : Addr) (H5 H6 : Hp), Same H4 H5 → H5 t = some (.tup [.str tag, tv]) → Same H5 H6 → H6 d = some (.tup [.str tag, dv]) → ((tag ≠ "made" ∧ tv = dv ∧ ((∃ i, tv = .int i) ∨ ∃ x, tv = .str x)) ∨ (tag = "made" ∧ ∃ b, tv = .ref b ∧ IsB BC H6 b cs rows.length ∧ dv = .int rows.length)) →
      tt { nx := fun _ H' => Q .non H', rt := Q } [some (.ref sa), some (.ref ca), some (.ref ra), some (.ref ha), some (.ref D), some (.ref t), some (.ref d)] H6 := fun tag tv dv t d H5 H6 s5 h5 s6 h6 hc => by
    have w6 := s5.trans s6
    exact q6 Q H6 _ ca ra ha D t d ra cs xs ys rows tag tv dv (w6 _ _ hca4) (w6 _ _ (s4 _ _ h3)) (w6 _ _ hra4) (rowd_keep hra4 (fun a o _ h => w6 _ _ h) hP4) (w6 _ _ h4) (rowi_keep w6 hI) rl (s6 _ _ h5) h6 hc q
  refine ⟨_, rfl, _, rfl, ha, D, cs, ys, rows.map (·.1), pool, rfl, s4 _ _ h3, by omega, h4, hI, by rw [List.length_map]; omega, fun r hr' => ?_, by omega, fun r hr' k hk => ?_, fun m t H5 hm s5 h5 => ?_, fun hz i t H5 hb s5 h5 => ?_, fun hz hb b t H5 s5 hB h5 => ?_⟩
  · obtain ⟨r', hr'', rfl⟩ := List.mem_map.mp hr'
    have := r8 r' hr''
    omega
  · obtain ⟨r', hr'', rfl⟩ := List.mem_map.mp hr'
    exact hpool r' hr'' k hk
  · refine ⟨_, rfl, _, rfl, ca, ra, ra, cs, xs, rows, rfl, s5 _ _ hca4, by omega, s5 _ _ hra4, rowd_keep hra4 (fun a o _ h => s5 _ _ h) hP4, rl, fun m' d H6 hm' s6 h6 => ?_, fun hz => ?_, fun hz => ?_⟩
    · obtain rfl := least_uniq hm hm'
      exact fin "twice" _ _ t d H5 H6 s5 h5 s6 h6 (.inl ⟨by decide, rfl, .inr ⟨_, rfl⟩⟩)
    · have := hm.1
      rw [hz] at this
      cases this
    · have := hm.1
      rw [hz] at this
      cases this
  · refine ⟨_, rfl, _, rfl, ca, ra, ra, cs, xs, rows, rfl, s5 _ _ hca4, by omega, s5 _ _ hra4, rowd_keep hra4 (fun a o _ h => s5 _ _ h) hP4, rl, fun m' d H6 hm' s6 h6 => ?_, fun _ i' d H6 hb' s6 h6 => ?_, fun _ hb' => ?_⟩
    · have := hm'.1
      rw [hz] at this
      cases this
    · rw [hb] at hb'
      cases hb'
      exact fin "short" _ _ t d H5 H6 s5 h5 s6 h6 (.inl ⟨by decide, rfl, .inl ⟨_, rfl⟩⟩)
    · rw [hb] at hb'
      cases hb'
  · refine ⟨_, rfl, _, rfl, ca, ra, ra, cs, xs, rows, rfl, s5 _ _ hca4, by omega, s5 _ _ hra4, rowd_keep hra4 (fun a o _ h => s5 _ _ h) hP4, rl, fun m' d H6 hm' s6 h6 => ?_, fun _ i' d H6 hb' s6 h6 => ?_, fun _ _ d H6 s6 h6 => ?_⟩
    · have := hm'.1
      rw [hz] at this
      cases this
    · rw [hb] at hb'
      cases hb'
    · rw [List.length_map] at hB
      exact fin "made" _ _ t d H5 H6 s5 h5 s6 h6 (.inr ⟨rfl, b, rfl, hB.keep s6, rfl⟩)
end
end K32
set_option maxHeartbeats 4000000
namespace K32
open PySem L2 CD
theorem ns_has {K : PySem.W.Frag} {h : Heap} {N : Addr} {m : Str → Option Value} {x : Str} {v : Value} (I : K.In h) (J : h.Ns N m) (e : PySem.W.nsIn K N x = some (some v)) : m x = some v := by
  obtain ⟨ob, en, np, g1, g2, _, g3⟩ := J
  unfold PySem.W.nsIn at e
  split at e
  · rename_i q
    have z := I _ _ q
    rw [g1] at z
    cases z
    cases g2
    split at e
    · rename_i y hy
      cases e
      rw [← g3]
      unfold nsFind findBy
      rw [← Array.find?_toList, hy]
      rfl
    · split at e <;> cases e
  · cases e
/-- a class of exceptions whose __init__ is a def of the text -/
def xcI (K : PySem.W.Frag) (C fI : Addr) (bB : List Value) (nw : String) : Bool :=
  match K.lookup C with
  | some ⟨.type "type", _, .cls k, sl⟩ =>
    (match k.mro, sl.toList with
    | .ref D :: bm, [_, _, _, _, some (.builtin n), _] => (D == C && n == nw) && (!k.hasDel && (PySem.W.tailIn K bB bm && (PySem.W.nsOkIn K k.ns && PySem.W.nsIn K k.ns "__init__" == some (some (.ref fI)))))
    | _, _ => false)
  | _ => false
theorem own_inI {K : PySem.W.Frag} {h : Heap} {mg : Str → Option Value} {x : Str} {C fI : Addr} {bB : List Value} {nw : String} (I : K.In h) (J : h.Ns mainGlobals mg) (e : PySem.W.nsIn K mainGlobals x = some (some (.ref C))) (q : xcI K C fI bB nw = true) (hf : PySem.W.isFn K (.ref fI) = true) : OwnI x C bB nw fI mg h := by
  refine ⟨PySem.W.mg_of I J e, ?_, ?_⟩
  · unfold xcI at q
    split at q
    · rename_i dd k sl g1
      split at q
      · rename_i D bm j0 j1 j2 j3 n j5 g2 g3
        simp only [Bool.and_eq_true, beq_iff_eq, Bool.not_eq_true'] at q
        obtain ⟨⟨rfl, rfl⟩, g4, g5, g6, g7⟩ := q
        obtain ⟨c1, c2, c3, c4, c5, c6, c7, c8, c9, c10, c11⟩ := k
        dsimp only at g2 g4 g6 g7
        subst g2 g4
        obtain ⟨sl⟩ := sl
        dsimp only at g3
        subst g3
        exact ⟨bm, c4, c1, c5, c2, c6, c7, c8, c9, c10, dd, j0, j1, j2, j3, j5, _, I _ _ g1, .of_isNs (PySem.W.isNs_of_in I g6), ns_has I (.of_isNs (PySem.W.isNs_of_in I g6)) g7, PySem.W.tail_of_in I g5⟩
      · cases q
    · cases q
  · have z : (K.lookup fI).map (·.cls) = some (.type "function") := by
      have := hf
      unfold PySem.W.isFn at this
      exact beq_iff_eq.mp this
    obtain ⟨ob, g1, g2⟩ := Option.map_eq_some_iff.mp z
    exact ⟨ob, I _ _ g1, g2⟩
/-- a class of exceptions -/
def xcB (K : PySem.W.Frag) (C : Addr) (bB : List Value) (nw : String) : Bool :=
  match K.lookup C with
  | some ⟨.type "type", _, .cls k, sl⟩ =>
    (match k.mro, sl.toList with
    | .ref D :: bm, [_, _, _, _, some (.builtin n), _] => (D == C && n == nw) && (!k.hasDel && PySem.W.tailIn K bB bm)
    | _, _ => false)
  | _ => false
theorem own_inB {K : PySem.W.Frag} {h : Heap} {mg : Str → Option Value} {x : Str} {C : Addr} {bB : List Value} {nw : String} (I : K.In h) (J : h.Ns mainGlobals mg) (e : PySem.W.nsIn K mainGlobals x = some (some (.ref C))) (q : xcB K C bB nw = true) : OwnB x C bB nw mg h := by
  refine ⟨PySem.W.mg_of I J e, ?_⟩
  unfold xcB at q
  split at q
  · rename_i dd k sl g1
    split at q
    · rename_i D bm j0 j1 j2 j3 n j5 g2 g3
      simp only [Bool.and_eq_true, beq_iff_eq, Bool.not_eq_true'] at q
      obtain ⟨⟨rfl, rfl⟩, g4, g5⟩ := q
      obtain ⟨c1, c2, c3, c4, c5, c6, c7, c8, c9, c10, c11⟩ := k
      dsimp only at g2 g4
      subst g2 g4
      obtain ⟨sl⟩ := sl
      dsimp only at g3
      subst g3
      exact ⟨bm, c4, c1, c5, c2, c6, c7, c8, c9, c10, dd, j0, j1, j2, j3, j5, I _ _ g1, PySem.W.tail_of_in I g5⟩
    · cases q
  · cases q
/-- a class of exceptions under another one -/
def xcS (K : PySem.W.Frag) (C M : Addr) : Bool :=
  match K.lookup C with
  | some ⟨.type "type", _, .cls k, sl⟩ =>
    (match k.mro, sl.toList with
    | .ref D :: bm, [_, _, _, _, some (.builtin n), _] => (D == C) && (!k.hasDel && (Value.ref C :: bm).contains (.ref M))
    | _, _ => false)
  | _ => false
theorem sub_in {K : PySem.W.Frag} {h : Heap} {C M : Addr} (I : K.In h) (q : xcS K C M = true) : SubE C M h := by
  unfold xcS at q
  split at q
  · rename_i dd k sl g1
    split at q
    · rename_i D bm j0 j1 j2 j3 n j5 g2 g3
      simp only [Bool.and_eq_true, beq_iff_eq, Bool.not_eq_true'] at q
      obtain ⟨rfl, g4, g5⟩ := q
      obtain ⟨c1, c2, c3, c4, c5, c6, c7, c8, c9, c10, c11⟩ := k
      dsimp only at g2 g4
      subst g2 g4
      obtain ⟨sl⟩ := sl
      dsimp only at g3
      subst g3
      exact ⟨bm, c4, c1, c5, c2, c6, c7, c8, c9, c10, dd, j0, j1, j2, j3, j5, _, I _ _ g1, g5⟩
    · cases q
  · cases q
theorem all_mk {l : PySem.W.OpenLaw} {w : World} {K : PySem.W.Frag} {h : Heap} {mg : Str → Option Value} {fa DT CC Tt BC E_MaybeError E_NoFilling E_TooMany E_Twice E_Short E_NoColumn E_Unlike E_TooFew E_NoText E_NoName f_d0 f_d1 f_d2 f_d3 f_d4 f_d5 f_d6 f_d7 f_d8 f_d9 f_d10 f_d11 f_d12 f_d13 f_i0 f_i1 f_w1 f_i6 f_c6 f_r6 f_x7 f_x8 : Addr} {oDT : Option Addr} {cDT : Value} {sDT : Array (Option Value)} {nDT : Nat} (X : K.In h) (G : h.Ns mainGlobals mg) (hfa : mg "law" = some (.ref fa))
    {od_d0 an_d0 od_d1 an_d1 od_d2 an_d2 od_d3 an_d3 od_d4 an_d4 od_d5 an_d5 od_d6 an_d6 od_d7 an_d7 od_d8 an_d8 od_d9 an_d9 od_d10 an_d10 od_d11 an_d11 od_d12 an_d12 od_d13 an_d13 od_i0 an_i0 od_i1 an_i1 od_w1 an_w1 od_i6 an_i6 od_c6 an_c6 od_r6 an_r6 od_x7 an_x7 od_x8 an_x8 : Option Addr} {sl_d0 sl_d1 sl_d2 sl_d3 sl_d4 sl_d5 sl_d6 sl_d7 sl_d8 sl_d9 sl_d10 sl_d11 sl_d12 sl_d13 sl_i0 sl_i1 sl_w1 sl_i6 sl_c6 sl_r6 sl_x7 sl_x8 : Array (Option Value)} {oc_d0 kV_d0 dc_d0 pm_d0 cd_d0 ct_d0 oc_d1 kV_d1 dc_d1 pm_d1 cd_d1 ct_d1 oc_d2 kV_d2 dc_d2 pm_d2 cd_d2 ct_d2 oc_d3 kV_d3 dc_d3 pm_d3 cd_d3 ct_d3 oc_d4 kV_d4 dc_d4 pm_d4 cd_d4 ct_d4 oc_d5 kV_d5 dc_d5 pm_d5 cd_d5 ct_d5 oc_d6 kV_d6 dc_d6 pm_d6 cd_d6 ct_d6 oc_d7 kV_d7 dc_d7 pm_d7 cd_d7 ct_d7 oc_d8 kV_d8 dc_d8 pm_d8 cd_d8 ct_d8 oc_d9 kV_d9 dc_d9 pm_d9 cd_d9 ct_d9 oc_d10 kV_d10 dc_d10 pm_d10 cd_d10 ct_d10 oc_d11 kV_d11 dc_d11 pm_d11 cd_d11 ct_d11 oc_d12 kV_d12 dc_d12 pm_d12 cd_d12 ct_d12 oc_d13 kV_d13 dc_d13 pm_d13 cd_d13 ct_d13 oc_i0 kV_i0 dc_i0 pm_i0 cd_i0 ct_i0 oc_i1 kV_i1 dc_i1 pm_i1 cd_i1 ct_i1 oc_w1 kV_w1 dc_w1 pm_w1 cd_w1 ct_w1 oc_i6 kV_i6 dc_i6 pm_i6 cd_i6 ct_i6 oc_c6 kV_c6 dc_c6 pm_c6 cd_c6 ct_c6 oc_r6 kV_r6 dc_r6 pm_r6 cd_r6 ct_r6 oc_x7 kV_x7 dc_x7 pm_x7 cd_x7 ct_x7 oc_x8 kV_x8 dc_x8 pm_x8 cd_x8 ct_x8 : Value}
    (n_CC : PySem.W.nsIn K mainGlobals "Cond" = some (some (.ref CC)))
    (n_Tt : PySem.W.nsIn K mainGlobals "Truth" = some (some (.ref Tt)))
    (n_BC : PySem.W.nsIn K mainGlobals "Table" = some (some (.ref BC)))
    (n_E_MaybeError : PySem.W.nsIn K mainGlobals "MaybeError" = some (some (.ref E_MaybeError)))
    (n_E_NoFilling : PySem.W.nsIn K mainGlobals "NoFilling" = some (some (.ref E_NoFilling)))
    (n_E_TooMany : PySem.W.nsIn K mainGlobals "TooMany" = some (some (.ref E_TooMany)))
    (n_E_Twice : PySem.W.nsIn K mainGlobals "Twice" = some (some (.ref E_Twice)))
    (n_E_Short : PySem.W.nsIn K mainGlobals "Short" = some (some (.ref E_Short)))
    (n_E_NoColumn : PySem.W.nsIn K mainGlobals "NoColumn" = some (some (.ref E_NoColumn)))
    (n_E_Unlike : PySem.W.nsIn K mainGlobals "Unlike" = some (some (.ref E_Unlike)))
    (n_E_TooFew : PySem.W.nsIn K mainGlobals "TooFew" = some (some (.ref E_TooFew)))
    (n_E_NoText : PySem.W.nsIn K mainGlobals "NoText" = some (some (.ref E_NoText)))
    (n_E_NoName : PySem.W.nsIn K mainGlobals "NoName" = some (some (.ref E_NoName)))
    (a_d0 : PySem.W.nsIn K mainGlobals "gaps_among" = some (some (.ref f_d0)))
    (l_d0 : K.lookup f_d0 = some ⟨oc_d0, od_d0, .func (PySem.W.fnOf "gaps_among" "gaps_among" (defArgs sGapsA) (defBody sGapsA) (defScope sGapsA) .none kV_d0 dc_d0 pm_d0 an_d0 cd_d0 ct_d0), sl_d0⟩)
    (c_d0 : PySem.W.codeIn K cd_d0 "gaps_among" = true)
    (k_d0 : PySem.W.keepIn K (.ref f_d0) = true)
    (a_d1 : PySem.W.nsIn K mainGlobals "values_among" = some (some (.ref f_d1)))
    (l_d1 : K.lookup f_d1 = some ⟨oc_d1, od_d1, .func (PySem.W.fnOf "values_among" "values_among" (defArgs sValsA) (defBody sValsA) (defScope sValsA) .none kV_d1 dc_d1 pm_d1 an_d1 cd_d1 ct_d1), sl_d1⟩)
    (c_d1 : PySem.W.codeIn K cd_d1 "values_among" = true)
    (k_d1 : PySem.W.keepIn K (.ref f_d1) = true)
    (a_d2 : PySem.W.nsIn K mainGlobals "cells_within" = some (some (.ref f_d2)))
    (l_d2 : K.lookup f_d2 = some ⟨oc_d2, od_d2, .func (PySem.W.fnOf "cells_within" "cells_within" (defArgs sCellsW) (defBody sCellsW) (defScope sCellsW) .none kV_d2 dc_d2 pm_d2 an_d2 cd_d2 ct_d2), sl_d2⟩)
    (c_d2 : PySem.W.codeIn K cd_d2 "cells_within" = true)
    (k_d2 : PySem.W.keepIn K (.ref f_d2) = true)
    (a_d3 : PySem.W.nsIn K mainGlobals "check_columns" = some (some (.ref f_d3)))
    (l_d3 : K.lookup f_d3 = some ⟨oc_d3, od_d3, .func (PySem.W.fnOf "check_columns" "check_columns" (defArgs sCheckC) (defBody sCheckC) (defScope sCheckC) .none kV_d3 dc_d3 pm_d3 an_d3 cd_d3 ct_d3), sl_d3⟩)
    (c_d3 : PySem.W.codeIn K cd_d3 "check_columns" = true)
    (k_d3 : PySem.W.keepIn K (.ref f_d3) = true)
    (a_d4 : PySem.W.nsIn K mainGlobals "check_rows" = some (some (.ref f_d4)))
    (l_d4 : K.lookup f_d4 = some ⟨oc_d4, od_d4, .func (PySem.W.fnOf "check_rows" "check_rows" (defArgs sCheckR) (defBody sCheckR) (defScope sCheckR) .none kV_d4 dc_d4 pm_d4 an_d4 cd_d4 ct_d4), sl_d4⟩)
    (c_d4 : PySem.W.codeIn K cd_d4 "check_rows" = true)
    (k_d4 : PySem.W.keepIn K (.ref f_d4) = true)
    (a_d5 : PySem.W.nsIn K mainGlobals "_law_seed" = some (some (.ref f_d5)))
    (l_d5 : K.lookup f_d5 = some ⟨oc_d5, od_d5, .func (PySem.W.fnOf "_law_seed" "_law_seed" (defArgs sSeed) (defBody sSeed) (defScope sSeed) .none kV_d5 dc_d5 pm_d5 an_d5 cd_d5 ct_d5), sl_d5⟩)
    (c_d5 : PySem.W.codeIn K cd_d5 "_law_seed" = true)
    (k_d5 : PySem.W.keepIn K (.ref f_d5) = true)
    (a_d6 : PySem.W.nsIn K mainGlobals "_law_draw" = some (some (.ref f_d6)))
    (l_d6 : K.lookup f_d6 = some ⟨oc_d6, od_d6, .func (PySem.W.fnOf "_law_draw" "_law_draw" (defArgs sDraw) (defBody sDraw) (defScope sDraw) .none kV_d6 dc_d6 pm_d6 an_d6 cd_d6 ct_d6), sl_d6⟩)
    (c_d6 : PySem.W.codeIn K cd_d6 "_law_draw" = true)
    (k_d6 : PySem.W.keepIn K (.ref f_d6) = true)
    (a_d7 : PySem.W.nsIn K mainGlobals "_law_word" = some (some (.ref f_d7)))
    (l_d7 : K.lookup f_d7 = some ⟨oc_d7, od_d7, .func (PySem.W.fnOf "_law_word" "_law_word" (defArgs sWord) (defBody sWord) (defScope sWord) .none kV_d7 dc_d7 pm_d7 an_d7 cd_d7 ct_d7), sl_d7⟩)
    (c_d7 : PySem.W.codeIn K cd_d7 "_law_word" = true)
    (k_d7 : PySem.W.keepIn K (.ref f_d7) = true)
    (a_d8 : PySem.W.nsIn K mainGlobals "_law_columns" = some (some (.ref f_d8)))
    (l_d8 : K.lookup f_d8 = some ⟨oc_d8, od_d8, .func (PySem.W.fnOf "_law_columns" "_law_columns" (defArgs sColumns) (defBody sColumns) (defScope sColumns) .none kV_d8 dc_d8 pm_d8 an_d8 cd_d8 ct_d8), sl_d8⟩)
    (c_d8 : PySem.W.codeIn K cd_d8 "_law_columns" = true)
    (k_d8 : PySem.W.keepIn K (.ref f_d8) = true)
    (a_d9 : PySem.W.nsIn K mainGlobals "_law_rows" = some (some (.ref f_d9)))
    (l_d9 : K.lookup f_d9 = some ⟨oc_d9, od_d9, .func (PySem.W.fnOf "_law_rows" "_law_rows" (defArgs sRows) (defBody sRows) (defScope sRows) .none kV_d9 dc_d9 pm_d9 an_d9 cd_d9 ct_d9), sl_d9⟩)
    (c_d9 : PySem.W.codeIn K cd_d9 "_law_rows" = true)
    (k_d9 : PySem.W.keepIn K (.ref f_d9) = true)
    (a_d10 : PySem.W.nsIn K mainGlobals "_law_due" = some (some (.ref f_d10)))
    (l_d10 : K.lookup f_d10 = some ⟨oc_d10, od_d10, .func (PySem.W.fnOf "_law_due" "_law_due" (defArgs sDue) (defBody sDue) (defScope sDue) .none kV_d10 dc_d10 pm_d10 an_d10 cd_d10 ct_d10), sl_d10⟩)
    (c_d10 : PySem.W.codeIn K cd_d10 "_law_due" = true)
    (k_d10 : PySem.W.keepIn K (.ref f_d10) = true)
    (a_d11 : PySem.W.nsIn K mainGlobals "_law_others" = some (some (.ref f_d11)))
    (l_d11 : K.lookup f_d11 = some ⟨oc_d11, od_d11, .func (PySem.W.fnOf "_law_others" "_law_others" (defArgs sOthers) (defBody sOthers) (defScope sOthers) .none kV_d11 dc_d11 pm_d11 an_d11 cd_d11 ct_d11), sl_d11⟩)
    (c_d11 : PySem.W.codeIn K cd_d11 "_law_others" = true)
    (k_d11 : PySem.W.keepIn K (.ref f_d11) = true)
    (a_d12 : PySem.W.nsIn K mainGlobals "_law_told" = some (some (.ref f_d12)))
    (l_d12 : K.lookup f_d12 = some ⟨oc_d12, od_d12, .func (PySem.W.fnOf "_law_told" "_law_told" (defArgs sTold) (defBody sTold) (defScope sTold) .none kV_d12 dc_d12 pm_d12 an_d12 cd_d12 ct_d12), sl_d12⟩)
    (c_d12 : PySem.W.codeIn K cd_d12 "_law_told" = true)
    (k_d12 : PySem.W.keepIn K (.ref f_d12) = true)
    (a_d13 : PySem.W.nsIn K mainGlobals "law" = some (some (.ref f_d13)))
    (l_d13 : K.lookup f_d13 = some ⟨oc_d13, od_d13, .func (PySem.W.fnOf "law" "law" (defArgs sLaw) (defBody sLaw) (defScope sLaw) .none kV_d13 dc_d13 pm_d13 an_d13 cd_d13 ct_d13), sl_d13⟩)
    (c_d13 : PySem.W.codeIn K cd_d13 "law" = true)
    (k_d13 : PySem.W.keepIn K (.ref f_d13) = true)
    (a_i0 : PySem.W.findCls K (.ref CC) (.type "type") "__init__" = some (.val (.ref f_i0)))
    (l_i0 : K.lookup f_i0 = some ⟨oc_i0, od_i0, .func (PySem.W.fnOf "__init__" "Cond.__init__" (defArgs sCInit) (defBody sCInit) (defScope sCInit) .none kV_i0 dc_i0 pm_i0 an_i0 cd_i0 ct_i0), sl_i0⟩)
    (c_i0 : PySem.W.codeIn K cd_i0 "Cond.__init__" = true)
    (k_i0 : PySem.W.keepIn K (.ref f_i0) = true)
    (q_i0 : PySem.W.isFn K (.ref f_i0) = true)
    (a_i1 : PySem.W.findIn K (.ref Tt) "__init__" = some (some (.ref f_i1)))
    (l_i1 : K.lookup f_i1 = some ⟨oc_i1, od_i1, .func (PySem.W.fnOf "__init__" "Truth.__init__" (defArgs sTInit) (defBody sTInit) (defScope sTInit) .none kV_i1 dc_i1 pm_i1 an_i1 cd_i1 ct_i1), sl_i1⟩)
    (c_i1 : PySem.W.codeIn K cd_i1 "Truth.__init__" = true)
    (k_i1 : PySem.W.keepIn K (.ref f_i1) = true)
    (q_i1 : PySem.W.isFn K (.ref f_i1) = true)
    (a_w1 : PySem.W.findIn K (.ref Tt) "worked" = some (some (.ref f_w1)))
    (l_w1 : K.lookup f_w1 = some ⟨oc_w1, od_w1, .func (PySem.W.fnOf "worked" "Truth.worked" (defArgs sTWork) (defBody sTWork) (defScope sTWork) .none kV_w1 dc_w1 pm_w1 an_w1 cd_w1 ct_w1), sl_w1⟩)
    (c_w1 : PySem.W.codeIn K cd_w1 "Truth.worked" = true)
    (k_w1 : PySem.W.keepIn K (.ref f_w1) = true)
    (q_w1 : PySem.W.isFn K (.ref f_w1) = true)
    (a_i6 : PySem.W.findIn K (.ref BC) "__init__" = some (some (.ref f_i6)))
    (l_i6 : K.lookup f_i6 = some ⟨oc_i6, od_i6, .func (PySem.W.fnOf "__init__" "Table.__init__" (defArgs sBInit) (defBody sBInit) (defScope sBInit) (.ref DT) kV_i6 dc_i6 pm_i6 an_i6 cd_i6 ct_i6), sl_i6⟩)
    (l_DT : K.lookup DT = some ⟨cDT, oDT, .seq #[.none] nDT, sDT⟩)
    (c_i6 : PySem.W.codeIn K cd_i6 "Table.__init__" = true)
    (k_i6 : PySem.W.keepIn K (.ref f_i6) = true)
    (q_i6 : PySem.W.isFn K (.ref f_i6) = true)
    (a_c6 : PySem.W.findIn K (.ref BC) "columns" = some (some (.ref f_c6)))
    (l_c6 : K.lookup f_c6 = some ⟨oc_c6, od_c6, .func (PySem.W.fnOf "columns" "Table.columns" (defArgs sBCols) (defBody sBCols) (defScope sBCols) .none kV_c6 dc_c6 pm_c6 an_c6 cd_c6 ct_c6), sl_c6⟩)
    (c_c6 : PySem.W.codeIn K cd_c6 "Table.columns" = true)
    (k_c6 : PySem.W.keepIn K (.ref f_c6) = true)
    (q_c6 : PySem.W.isFn K (.ref f_c6) = true)
    (a_r6 : PySem.W.findIn K (.ref BC) "rows" = some (some (.ref f_r6)))
    (l_r6 : K.lookup f_r6 = some ⟨oc_r6, od_r6, .func (PySem.W.fnOf "rows" "Table.rows" (defArgs sBRows) (defBody sBRows) (defScope sBRows) .none kV_r6 dc_r6 pm_r6 an_r6 cd_r6 ct_r6), sl_r6⟩)
    (c_r6 : PySem.W.codeIn K cd_r6 "Table.rows" = true)
    (k_r6 : PySem.W.keepIn K (.ref f_r6) = true)
    (q_r6 : PySem.W.isFn K (.ref f_r6) = true)
    (a_x7 : PySem.W.findIn K (.ref E_Twice) "__init__" = some (some (.ref f_x7)))
    (l_x7 : K.lookup f_x7 = some ⟨oc_x7, od_x7, .func (PySem.W.fnOf "__init__" "Twice.__init__" (defArgs sTwInit) (defBody sTwInit) (defScope sTwInit) .none kV_x7 dc_x7 pm_x7 an_x7 cd_x7 ct_x7), sl_x7⟩)
    (c_x7 : PySem.W.codeIn K cd_x7 "Twice.__init__" = true)
    (k_x7 : PySem.W.keepIn K (.ref f_x7) = true)
    (q_x7 : PySem.W.isFn K (.ref f_x7) = true)
    (a_x8 : PySem.W.findIn K (.ref E_Short) "__init__" = some (some (.ref f_x8)))
    (l_x8 : K.lookup f_x8 = some ⟨oc_x8, od_x8, .func (PySem.W.fnOf "__init__" "Short.__init__" (defArgs sShInit) (defBody sShInit) (defScope sShInit) .none kV_x8 dc_x8 pm_x8 an_x8 cd_x8 ct_x8), sl_x8⟩)
    (c_x8 : PySem.W.codeIn K cd_x8 "Short.__init__" = true)
    (k_x8 : PySem.W.keepIn K (.ref f_x8) = true)
    (q_x8 : PySem.W.isFn K (.ref f_x8) = true)
    (ga : PySem.W.specialIn K (.ref CC) "__getattribute__" = some (some (.builtin "type.__getattribute__")))
    (rd : PySem.W.readsIn K CC (.type "type") = true)
    (gt : PySem.W.specialIn K (.builtin "object.__class__") "__get__" = some (some (.builtin "getset_descriptor.__get__")))
    (tk : PySem.W.takesIn K (.builtin "object.__class__") = some true)
    (y1_Tt : PySem.W.plainGet K Tt Str.empty = true)
    (y2_Tt : PySem.W.hasDictIn K Tt = true)
    (y3_Tt : PySem.W.plainOver K Tt = true)
    (y4_Tt : PySem.W.findIn K (.ref Tt) "__setattr__" = some (some (.builtin "object.__setattr__")))
    (y5_Tt : PySem.W.makesIn K Tt = true)
    (y6_Tt : PySem.W.keepIn K (.ref Tt) = true)
    (y1_BC : PySem.W.plainGet K BC Str.empty = true)
    (y2_BC : PySem.W.hasDictIn K BC = true)
    (y3_BC : PySem.W.plainOver K BC = true)
    (y4_BC : PySem.W.findIn K (.ref BC) "__setattr__" = some (some (.builtin "object.__setattr__")))
    (y5_BC : PySem.W.makesIn K BC = true)
    (y6_BC : PySem.W.keepIn K (.ref BC) = true)
    (t0 : PySem.W.findIn K (.ref Tt) "kept_gaps" = some none)
    (t1 : PySem.W.findIn K (.ref Tt) "kept_values" = some none)
    (t2 : PySem.W.findIn K (.ref Tt) "kept_atoms" = some none)
    (t3 : PySem.W.findIn K (.ref Tt) "settled" = some none)
    (t4 : PySem.W.findIn K (.ref Tt) "said" = some none)
    (b0 : PySem.W.findIn K (.ref BC) "kept_columns" = some none)
    (b1 : PySem.W.findIn K (.ref BC) "kept_rows" = some none)
    (b2 : PySem.W.findIn K (.ref BC) "kept_whole" = some none)
    (b3 : PySem.W.findIn K (.ref BC) "kept_gaps" = some none)
    (b4 : PySem.W.findIn K (.ref BC) "kept_values" = some none)
    (nb : Tt ≠ BC)
    (xg_E_Twice : PySem.W.findIn K (.ref E_Twice) "__getattribute__" = some (some (.builtin "BaseException.__getattribute__")))
    (xt_E_Twice : PySem.W.findIn K (.ref E_Twice) "__getattr__" = some none)
    (xb_E_Twice : PySem.W.mroIn K E_Twice (.type "BaseException") = some true)
    (xh_E_Twice : PySem.W.hasDictIn K E_Twice = true)
    (xa_E_Twice : PySem.W.findIn K (.ref E_Twice) "__class__" = some (some (.builtin "object.__class__")))
    (xm_E_Twice : PySem.W.mroIn K E_Twice (.type "object") = some true)
    (xn_E_Twice : PySem.W.findIn K (.ref E_Twice) "name" = some none)
    (xs_E_Twice : PySem.W.findIn K (.ref E_Twice) "__setattr__" = some (some (.builtin "object.__setattr__")))
    (xp_E_Twice : overVE K E_Twice = true)
    (xk_E_Twice : PySem.W.takerIn K E_Twice "name" = some none)
    (xc_E_Twice : PySem.W.keepIn K (.ref E_Twice) = true)
    (xe_E_Twice : xcI K E_Twice f_x7 [.type "ValueError", .type "Exception", .type "BaseException", .type "object"] "ValueError.__new__" = true)
    (xz_E_Twice : xcS K E_Twice E_MaybeError = true)
    (xv_E_Twice : PySem.W.kitOne K (.ref E_Twice) (.type "ValueError") = some true)
    (x0_E_Twice : PySem.W.kitOne K (.ref E_Twice) (.ref E_NoColumn) = some false)
    (x1_E_Twice : PySem.W.kitOne K (.ref E_Twice) (.ref E_NoFilling) = some false)
    (x2_E_Twice : PySem.W.kitOne K (.ref E_Twice) (.ref E_NoName) = some false)
    (x3_E_Twice : PySem.W.kitOne K (.ref E_Twice) (.ref E_NoText) = some false)
    (x4_E_Twice : PySem.W.kitOne K (.ref E_Twice) (.ref E_TooFew) = some false)
    (x5_E_Twice : PySem.W.kitOne K (.ref E_Twice) (.ref E_TooMany) = some false)
    (x6_E_Twice : PySem.W.kitOne K (.ref E_Twice) (.ref E_Unlike) = some false)
    (xT_E_Twice : PySem.W.kitOne K (.ref E_Twice) (.ref E_Twice) = some true)
    (xS_E_Twice : PySem.W.kitOne K (.ref E_Twice) (.ref E_Short) = some false)
    (xg_E_Short : PySem.W.findIn K (.ref E_Short) "__getattribute__" = some (some (.builtin "BaseException.__getattribute__")))
    (xt_E_Short : PySem.W.findIn K (.ref E_Short) "__getattr__" = some none)
    (xb_E_Short : PySem.W.mroIn K E_Short (.type "BaseException") = some true)
    (xh_E_Short : PySem.W.hasDictIn K E_Short = true)
    (xa_E_Short : PySem.W.findIn K (.ref E_Short) "__class__" = some (some (.builtin "object.__class__")))
    (xm_E_Short : PySem.W.mroIn K E_Short (.type "object") = some true)
    (xn_E_Short : PySem.W.findIn K (.ref E_Short) "row" = some none)
    (xs_E_Short : PySem.W.findIn K (.ref E_Short) "__setattr__" = some (some (.builtin "object.__setattr__")))
    (xp_E_Short : overVE K E_Short = true)
    (xk_E_Short : PySem.W.takerIn K E_Short "row" = some none)
    (xc_E_Short : PySem.W.keepIn K (.ref E_Short) = true)
    (xe_E_Short : xcI K E_Short f_x8 [.type "ValueError", .type "Exception", .type "BaseException", .type "object"] "ValueError.__new__" = true)
    (xz_E_Short : xcS K E_Short E_MaybeError = true)
    (xv_E_Short : PySem.W.kitOne K (.ref E_Short) (.type "ValueError") = some true)
    (x0_E_Short : PySem.W.kitOne K (.ref E_Short) (.ref E_NoColumn) = some false)
    (x1_E_Short : PySem.W.kitOne K (.ref E_Short) (.ref E_NoFilling) = some false)
    (x2_E_Short : PySem.W.kitOne K (.ref E_Short) (.ref E_NoName) = some false)
    (x3_E_Short : PySem.W.kitOne K (.ref E_Short) (.ref E_NoText) = some false)
    (x4_E_Short : PySem.W.kitOne K (.ref E_Short) (.ref E_TooFew) = some false)
    (x5_E_Short : PySem.W.kitOne K (.ref E_Short) (.ref E_TooMany) = some false)
    (x6_E_Short : PySem.W.kitOne K (.ref E_Short) (.ref E_Unlike) = some false)
    (xT_E_Short : PySem.W.kitOne K (.ref E_Short) (.ref E_Twice) = some false)
    (xS_E_Short : PySem.W.kitOne K (.ref E_Short) (.ref E_Short) = some true)
    (mb : xcB K E_MaybeError [.type "ValueError", .type "Exception", .type "BaseException", .type "object"] "ValueError.__new__" = true)
    (z0 : PySem.W.nsIn K mainGlobals "range" = some none)
    (z1 : PySem.W.nsIn K mainGlobals "len" = some none)
    (z2 : PySem.W.nsIn K mainGlobals "sorted" = some none)
    (z3 : PySem.W.nsIn K mainGlobals "list" = some none)
    (z4 : PySem.W.nsIn K mainGlobals "dict" = some none)
    (z5 : PySem.W.nsIn K mainGlobals "isinstance" = some none)
    (z6 : PySem.W.nsIn K mainGlobals "bool" = some none)
    (z7 : PySem.W.nsIn K mainGlobals "str" = some none)
    (z8 : PySem.W.nsIn K mainGlobals "set" = some none)
    (z9 : PySem.W.nsIn K mainGlobals "tuple" = some none)
    (z10 : PySem.W.nsIn K mainGlobals "sum" = some none)
    (z11 : PySem.W.nsIn K mainGlobals "max" = some none)
    (z12 : PySem.W.nsIn K mainGlobals "enumerate" = some none)
    (z13 : PySem.W.nsIn K mainGlobals "min" = some none)
    (z14 : PySem.W.nsIn K mainGlobals "ValueError" = some none) :
    ∃ fd : FuncData, (∀ (s : Shared) (v : Value), BindsTo s fd ⟨[v], []⟩ [("_law_script", v)]) ∧ ∀ base : Heap, K.In base → base.Ns mainGlobals mg → FnOk l.prog w K mg base CX0 8 fa fd ["_law_script"] (spLaw K) := by
  have e := hfa.symm.trans (PySem.W.mg_of X G a_d13)
  cases e
  have TX : Txt mg := ⟨PySem.W.mg_none_of X G z0, PySem.W.mg_none_of X G z1, PySem.W.mg_none_of X G z2, PySem.W.mg_none_of X G z3, PySem.W.mg_none_of X G z4, PySem.W.mg_none_of X G z5, PySem.W.mg_none_of X G z6, PySem.W.mg_none_of X G z7, PySem.W.mg_none_of X G z8, PySem.W.mg_none_of X G z9, PySem.W.mg_none_of X G z10, PySem.W.mg_none_of X G z11, PySem.W.mg_none_of X G z12, PySem.W.mg_none_of X G z13, PySem.W.mg_none_of X G z14⟩
  have F_d0 := fun_mk (st := sGapsA) l_d0 c_d0 k_d0
  have b_d0 := F_d0.binds (ps := ["cells"]) fun _ _ _ _ _ _ us hl => match us, hl with | [_], _ => rfl
  have F_d1 := fun_mk (st := sValsA) l_d1 c_d1 k_d1
  have b_d1 := F_d1.binds (ps := ["cells"]) fun _ _ _ _ _ _ us hl => match us, hl with | [_], _ => rfl
  have F_d2 := fun_mk (st := sCellsW) l_d2 c_d2 k_d2
  have b_d2 := F_d2.binds (ps := ["parts"]) fun _ _ _ _ _ _ us hl => match us, hl with | [_], _ => rfl
  have F_d3 := fun_mk (st := sCheckC) l_d3 c_d3 k_d3
  have b_d3 := F_d3.binds (ps := ["columns"]) fun _ _ _ _ _ _ us hl => match us, hl with | [_], _ => rfl
  have F_d4 := fun_mk (st := sCheckR) l_d4 c_d4 k_d4
  have b_d4 := F_d4.binds (ps := ["rows", "width"]) fun _ _ _ _ _ _ us hl => match us, hl with | [_, _], _ => rfl
  have F_d5 := fun_mk (st := sSeed) l_d5 c_d5 k_d5
  have b_d5 := F_d5.binds (ps := ["_law_script", "_law_k"]) fun _ _ _ _ _ _ us hl => match us, hl with | [_, _], _ => rfl
  have F_d6 := fun_mk (st := sDraw) l_d6 c_d6 k_d6
  have b_d6 := F_d6.binds (ps := ["_law_state", "_law_many"]) fun _ _ _ _ _ _ us hl => match us, hl with | [_, _], _ => rfl
  have F_d7 := fun_mk (st := sWord) l_d7 c_d7 k_d7
  have b_d7 := F_d7.binds (ps := ["_law_state", "_law_others_here"]) fun _ _ _ _ _ _ us hl => match us, hl with | [_, _], _ => rfl
  have F_d8 := fun_mk (st := sColumns) l_d8 c_d8 k_d8
  have b_d8 := F_d8.binds (ps := ["_law_script"]) fun _ _ _ _ _ _ us hl => match us, hl with | [_], _ => rfl
  have F_d9 := fun_mk (st := sRows) l_d9 c_d9 k_d9
  have b_d9 := F_d9.binds (ps := ["_law_script", "_law_many"]) fun _ _ _ _ _ _ us hl => match us, hl with | [_, _], _ => rfl
  have F_d10 := fun_mk (st := sDue) l_d10 c_d10 k_d10
  have b_d10 := F_d10.binds (ps := ["_law_columns_here", "_law_rows_here"]) fun _ _ _ _ _ _ us hl => match us, hl with | [_, _], _ => rfl
  have F_d11 := fun_mk (st := sOthers) l_d11 c_d11 k_d11
  have b_d11 := F_d11.binds (ps := ["_law_error"]) fun _ _ _ _ _ _ us hl => match us, hl with | [_], _ => rfl
  have F_d12 := fun_mk (st := sTold) l_d12 c_d12 k_d12
  have b_d12 := F_d12.binds (ps := ["_law_columns_here", "_law_rows_here"]) fun _ _ _ _ _ _ us hl => match us, hl with | [_, _], _ => rfl
  have F_d13 := fun_mk (st := sLaw) l_d13 c_d13 k_d13
  have b_d13 := F_d13.binds (ps := ["_law_script"]) fun _ _ _ _ _ _ us hl => match us, hl with | [_], _ => rfl
  have F_i0 := fun_mk (st := sCInit) l_i0 c_i0 k_i0
  have b_i0 := F_i0.binds (ps := ["self", "cells", "atoms"]) fun _ _ _ _ _ _ us hl => match us, hl with | [_, _, _], _ => rfl
  have F_i1 := fun_mk (st := sTInit) l_i1 c_i1 k_i1
  have b_i1 := F_i1.binds (ps := ["self", "said"]) fun _ _ _ _ _ _ us hl => match us, hl with | [_, _], _ => rfl
  have F_w1 := fun_mk (st := sTWork) l_w1 c_w1 k_w1
  have b_w1 := F_w1.binds (ps := ["self", "filling", "told"]) fun _ _ _ _ _ _ us hl => match us, hl with | [_, _, _], _ => rfl
  have F_i6 : FunD K "__init__" "Table.__init__" sBInit f_i6 _ := ⟨⟨_, _, _, _, _, _, _, _, _, _, rfl, l_i6, c_i6⟩, k_i6⟩
  have b0_i6 : Binds K (PySem.W.fnOf "__init__" "Table.__init__" (defArgs sBInit) (defBody sBInit) (defScope sBInit) (.ref DT) kV_i6 dc_i6 pm_i6 an_i6 cd_i6 ct_i6) ["self", "columns", "rows", "whole"] [.none] := fun s us hK hl => match us, (show us.length = 3 by simpa using hl) with | [_, _, _], _ => .of_defaults rfl (hK _ _ l_DT) rfl rfl rfl
  have F_c6 := fun_mk (st := sBCols) l_c6 c_c6 k_c6
  have b_c6 := F_c6.binds (ps := ["self"]) fun _ _ _ _ _ _ us hl => match us, hl with | [_], _ => rfl
  have F_r6 := fun_mk (st := sBRows) l_r6 c_r6 k_r6
  have b_r6 := F_r6.binds (ps := ["self"]) fun _ _ _ _ _ _ us hl => match us, hl with | [_], _ => rfl
  have F_x7 := fun_mk (st := sTwInit) l_x7 c_x7 k_x7
  have b_x7 := F_x7.binds (ps := ["self", "name"]) fun _ _ _ _ _ _ us hl => match us, hl with | [_, _], _ => rfl
  have F_x8 := fun_mk (st := sShInit) l_x8 c_x8 k_x8
  have b_x8 := F_x8.binds (ps := ["self", "row"]) fun _ _ _ _ _ _ us hl => match us, hl with | [_, _], _ => rfl
  refine ⟨PySem.W.fnOf "law" "law" (defArgs sLaw) (defBody sLaw) (defScope sLaw) .none kV_d13 dc_d13 pm_d13 an_d13 cd_d13 ct_d13, fun s v => .of_eq rfl, fun base BX BG => ?_⟩
  have ZT : Tz K Tt := ⟨⟨y1_Tt, y2_Tt, y3_Tt, y4_Tt⟩, t0, t1, t2, t3, t4⟩
  have ZB : Bz K BC := ⟨⟨y1_BC, y2_BC, y3_BC, y4_BC⟩, b0, b1, b2, b3, b4⟩
  have O_E_Twice : OwnI "Twice" E_Twice [.type "ValueError", .type "Exception", .type "BaseException", .type "object"] "ValueError.__new__" f_x7 mg base := own_inI BX BG n_E_Twice xe_E_Twice q_x7
  have CE_E_Twice : ClsE K E_Twice := ⟨xg_E_Twice, xt_E_Twice, xb_E_Twice, by obtain ⟨cd, hc, _⟩ := PySem.W.any_some xh_E_Twice; rw [hc]; rfl, xa_E_Twice, gt, tk, xm_E_Twice⟩
  have XK_E_Twice : ExK l.prog w K mg base "Twice" "name" E_Twice := ⟨_, _, _, _, _, _, O_E_Twice, PySem.F.excBase_ValueError, ok_twinit F_x7 ⟨xs_E_Twice, xp_E_Twice, xm_E_Twice, xk_E_Twice, xh_E_Twice⟩, b_x7, xc_E_Twice⟩
  have IX_E_Twice : Isx K E_Twice E_NoColumn E_NoFilling E_NoName E_NoText E_TooFew E_TooMany E_Unlike := ⟨CE_E_Twice, x0_E_Twice, x1_E_Twice, x2_E_Twice, x3_E_Twice, x4_E_Twice, x5_E_Twice, x6_E_Twice, xv_E_Twice⟩
  have O_E_Short : OwnI "Short" E_Short [.type "ValueError", .type "Exception", .type "BaseException", .type "object"] "ValueError.__new__" f_x8 mg base := own_inI BX BG n_E_Short xe_E_Short q_x8
  have CE_E_Short : ClsE K E_Short := ⟨xg_E_Short, xt_E_Short, xb_E_Short, by obtain ⟨cd, hc, _⟩ := PySem.W.any_some xh_E_Short; rw [hc]; rfl, xa_E_Short, gt, tk, xm_E_Short⟩
  have XK_E_Short : ExK l.prog w K mg base "Short" "row" E_Short := ⟨_, _, _, _, _, _, O_E_Short, PySem.F.excBase_ValueError, ok_shinit F_x8 ⟨xs_E_Short, xp_E_Short, xm_E_Short, xk_E_Short, xh_E_Short⟩, b_x8, xc_E_Short⟩
  have IX_E_Short : Isx K E_Short E_NoColumn E_NoFilling E_NoName E_NoText E_TooFew E_TooMany E_Unlike := ⟨CE_E_Short, x0_E_Short, x1_E_Short, x2_E_Short, x3_E_Short, x4_E_Short, x5_E_Short, x6_E_Short, xv_E_Short⟩
  have OM : OwnB "MaybeError" E_MaybeError [.type "ValueError", .type "Exception", .type "BaseException", .type "object"] "ValueError.__new__" mg base := own_inB BX BG n_E_MaybeError mb
  have W : Two K E_Twice E_Short E_NoColumn E_NoFilling E_NoName E_NoText E_TooFew E_TooMany E_Unlike := ⟨IX_E_Twice, IX_E_Short, xT_E_Twice, xS_E_Twice, xT_E_Short, xS_E_Short, xh_E_Twice, xh_E_Short, xn_E_Twice, xn_E_Short⟩
  have D1 : Cal l.prog w K mg base "gaps_among" 1 ["cells"] (spGapsA K) := ⟨_, _, ok_gapsa F_d0 TX, b_d0, k_d0, PySem.W.mg_of X G a_d0⟩
  have D2 : Cal l.prog w K mg base "values_among" 1 ["cells"] (spValsA K) := ⟨_, _, ok_valsa F_d1 TX, b_d1, k_d1, PySem.W.mg_of X G a_d1⟩
  have D3 : Cal l.prog w K mg base "cells_within" 1 ["parts"] (spCellsW Tt) := ⟨_, _, ok_cellsw F_d2 ZT, b_d2, k_d2, PySem.W.mg_of X G a_d2⟩
  have D4 : CalE l.prog w K mg base "check_columns" 3 ["columns"] (spCheckC E_Twice) := ⟨_, _, ok_checkc F_d3 TX XK_E_Twice, b_d3, k_d3, PySem.W.mg_of X G a_d3⟩
  have D5 : CalE l.prog w K mg base "check_rows" 3 ["rows", "width"] (spCheckR E_Short) := ⟨_, _, ok_checkr F_d4 TX XK_E_Short, b_d4, k_d4, PySem.W.mg_of X G a_d4⟩
  have FW : Fam l.prog w K mg base CX0 1 (fun C => C = Tt) "worked" ["self", "filling", "told"] (fun _ => spWork Tt) := by
    intro C hC
    subst hC
    exact ⟨_, _, ZT.cl, ⟨a_w1, q_w1, k_w1⟩, ok_work F_w1 ZT, b_w1⟩
  have M1 : MkC l.prog w K mg base "Truth" Tt 3 ["self", "said"] (spTI Tt) := ⟨_, _, ⟨y5_Tt, a_i1, q_i1, y6_Tt⟩, ok_tinit F_i1 ZT ⟨_, _, .type "type", ⟨ga, rd, a_i0, k_i0⟩, ok_cinit F_i0 TX ZT D1 D2 FW, b_i0, PySem.W.mg_of X G n_CC⟩, b_i1, PySem.W.mg_of X G n_Tt⟩
  have OB := ok_binit F_i6 TX ZB nb D1 D2 D3 D4 D5 M1
  have FC : Fam l.prog w K mg base CX0 1 (fun C => C = BC) "columns" ["self"] (fun _ => spBCols BC) := by
    intro C hC
    subst hC
    exact ⟨_, _, ZB.cl, ⟨a_c6, q_c6, k_c6⟩, ok_bcols F_c6 TX ZB, b_c6⟩
  have FR : Fam l.prog w K mg base CX0 1 (fun C => C = BC) "rows" ["self"] (fun _ => spBRows BC) := by
    intro C hC
    subst hC
    exact ⟨_, _, ZB.cl, ⟨a_r6, q_r6, k_r6⟩, ok_brows F_r6 TX ZB, b_r6⟩
  have L0 : Cal l.prog w K mg base "_law_seed" 1 ["_law_script", "_law_k"] (spSeed K) := ⟨_, _, ok_seed F_d5 TX, b_d5, k_d5, PySem.W.mg_of X G a_d5⟩
  have L1 : Cal l.prog w K mg base "_law_draw" 1 ["_law_state", "_law_many"] spDraw := ⟨_, _, ok_draw F_d6, b_d6, k_d6, PySem.W.mg_of X G a_d6⟩
  have L2 : Cal l.prog w K mg base "_law_word" 2 ["_law_state", "_law_others_here"] spWord := ⟨_, _, ok_word F_d7 TX L1, b_d7, k_d7, PySem.W.mg_of X G a_d7⟩
  have L3 : Cal l.prog w K mg base "_law_columns" 3 ["_law_script"] (spColumns K) := ⟨_, _, ok_columns F_d8 TX L1 L0 L2, b_d8, k_d8, PySem.W.mg_of X G a_d8⟩
  have L4 : Cal l.prog w K mg base "_law_rows" 2 ["_law_script", "_law_many"] (spRows K) := ⟨_, _, ok_rows F_d9 TX L1, b_d9, k_d9, PySem.W.mg_of X G a_d9⟩
  have L5 : Cal l.prog w K mg base "_law_due" 1 ["_law_columns_here", "_law_rows_here"] spDue := ⟨_, _, ok_due F_d10 TX, b_d10, k_d10, PySem.W.mg_of X G a_d10⟩
  have OT := ok_others (P := l.prog) (w := w) (base := base) F_d11 TX (PySem.W.mg_of X G n_E_NoColumn) (PySem.W.mg_of X G n_E_NoFilling) (PySem.W.mg_of X G n_E_NoName) (PySem.W.mg_of X G n_E_NoText) (PySem.W.mg_of X G n_E_TooFew) (PySem.W.mg_of X G n_E_TooMany) (PySem.W.mg_of X G n_E_Unlike)
  have L6 : Cal l.prog w K mg base "_law_told" 7 ["_law_columns_here", "_law_rows_here"] (spTold Tt BC) := ⟨_, _, ok_told F_d12 TX OM PySem.F.excBase_ValueError (sub_in BX xz_E_Twice) (sub_in BX xz_E_Short) W (PySem.W.mg_of X G n_E_Twice) (PySem.W.mg_of X G n_E_Short) ⟨_, _, ⟨y5_BC, a_i6, q_i6, y6_BC⟩, OB, b0_i6, PySem.W.mg_of X G n_BC⟩ ⟨_, _, OT, b_d11, k_d11, PySem.W.mg_of X G a_d11⟩, b_d12, k_d12, PySem.W.mg_of X G a_d12⟩
  exact ok_law F_d13 TX FC FR L3 L4 L6 L5 M1
theorem walk {l : PySem.W.OpenLaw} {q : Program} {loose : List Str} {XP : (Str → Option Value) → Heap → Prop} {YP : World → Heap → Prop} {d : DefRec} {K : Params → PySem.W.Frag} (hn : l.most = some 63) (hdf : d.params.defaults = [])
    (hY : ∀ (w : World) (h : Heap), YP w h → (K w.params).In h)
    (F : ∀ (w : World) (mg : Str → Option Value) (fa : Addr) (h : Heap), (K w.params).In h → h.Ns mainGlobals mg → mg d.name = some (.ref fa) →
      ∃ fd : FuncData, (∀ (s : Shared) (u : Value), BindsTo s fd ⟨[u], []⟩ [("_law_script", u)]) ∧ ∀ base : Heap, (K w.params).In base → base.Ns mainGlobals mg → FnOk l.prog w (K w.params) mg base CX0 8 fa fd ["_law_script"] (spLaw (K w.params))) :
    PySem.W.WalkO q loose XP YP l.row.toRowW d [] (fun f vs => PySem.call f vs) :=
  L2.walk_of (n := 63) (k := 8) (x := "_law_script") (CX := fun _ => CX0) (sp := fun w => spLaw (K w.params)) hn (by decide) hdf ⟨rfl, by decide, by decide⟩ hY F (fun _ _ a ns hl _ hS => ⟨a, ns, rfl, hS, hl, fun _ => rfl⟩) fun _ _ _ _ _ z => z
end K32
namespace HD
open PySem PySem.W PyProof.Rows
abbrev pr : Program := PySem.Challenge.rw_maybetables_k32_tables_refused.row.toRowW.prog
def vw : Program := { pr with main := { pr.main with body := pr.main.body.drop 34 } }
def lo : List Str := "_wall" :: "__name__" :: "MaybeError" :: "NoFilling" :: "TooMany" :: "Twice" :: "Short" :: "NoColumn" :: "Unlike" :: "TooFew" :: "NoText" :: "NoName" :: "WORTH_KEEPING" :: "gaps_among" :: "values_among" :: "cells_within" :: "check_filling" :: "Cond" :: "Truth" :: "check_columns" :: "check_rows" :: "cells_put" :: "Table" :: "_law_seed" :: "_law_draw" :: "_law_word" :: "_law_columns" :: "_law_rows" :: "_law_due" :: "_law_others" :: "_law_told" :: []
end HD
open PySem PySem.W PyProof.Rows
local macro_rules
  | `(tactic| o_head $H) => `(tactic|
      refine holds_open (q := HD.vw) (loose := HD.lo) (Xt := fun s => xlAt HD.vw [] s && recOk (RowW.records (PySem.Challenge.rw_maybetables_k32_tables_refused.row.toRowW)) s)
        (XP := XL HD.vw []) (Yf := Hook.obs $H) (Ya := Hook.val $H) (YP := Hook.says $H) (N := 20000)
        ?$(Lean.mkIdent `hl) (Hook.of $H) (Hook.keeps $H) (fun s e => xl_of s (Bool.and_eq_true_iff.mp e).1) XL.keeps (by rfl) (by rfl) (by rfl)
        (fun s e => recFacts_of (Bool.and_eq_true_iff.mp e).2) (by rfl) (by first | assumption | decide +kernel) (by decide +kernel)
        ⟨rfl, rfl, rfl, rfl, rfl, by decide +kernel⟩ ?$(Lean.mkIdent `hw) ?$(Lean.mkIdent `hc))
set_option maxRecDepth 100000 in
set_option maxHeartbeats 0 in
theorem PySem.Challenge.cw_maybetables_k32_tables_refused_holds : PySem.Challenge.rw_maybetables_k32_tables_refused.Holds := by
  w_on; o_law; k_head
  (case hw => w_witness2)
  (case hl => exact HD.left_quick (boot_open (by kernel_rfl) (by decide +kernel) (fun s => by kernel_rfl)) (fun w os => by kernel_rfl))
  k_fill
  refine K32.walk (l := PySem.Challenge.rw_maybetables_k32_tables_refused) rfl rfl (fun w h Y => PySem.W.kIn_of Y) ?F
  case F =>
    intro w mg fa h KX G hmg
    refine' K32.all_mk KX G hmg ?n_CC ?n_Tt ?n_BC ?n_E_MaybeError ?n_E_NoFilling ?n_E_TooMany ?n_E_Twice ?n_E_Short ?n_E_NoColumn ?n_E_Unlike ?n_E_TooFew ?n_E_NoText ?n_E_NoName ?a_d0 ?l_d0 ?c_d0 ?k_d0 ?a_d1 ?l_d1 ?c_d1 ?k_d1 ?a_d2 ?l_d2 ?c_d2 ?k_d2 ?a_d3 ?l_d3 ?c_d3 ?k_d3 ?a_d4 ?l_d4 ?c_d4 ?k_d4 ?a_d5 ?l_d5 ?c_d5 ?k_d5 ?a_d6 ?l_d6 ?c_d6 ?k_d6 ?a_d7 ?l_d7 ?c_d7 ?k_d7 ?a_d8 ?l_d8 ?c_d8 ?k_d8 ?a_d9 ?l_d9 ?c_d9 ?k_d9 ?a_d10 ?l_d10 ?c_d10 ?k_d10 ?a_d11 ?l_d11 ?c_d11 ?k_d11 ?a_d12 ?l_d12 ?c_d12 ?k_d12 ?a_d13 ?l_d13 ?c_d13 ?k_d13 ?a_i0 ?l_i0 ?c_i0 ?k_i0 ?q_i0 ?a_i1 ?l_i1 ?c_i1 ?k_i1 ?q_i1 ?a_w1 ?l_w1 ?c_w1 ?k_w1 ?q_w1 ?a_i6 ?l_i6 ?l_DT ?c_i6 ?k_i6 ?q_i6 ?a_c6 ?l_c6 ?c_c6 ?k_c6 ?q_c6 ?a_r6 ?l_r6 ?c_r6 ?k_r6 ?q_r6 ?a_x7 ?l_x7 ?c_x7 ?k_x7 ?q_x7 ?a_x8 ?l_x8 ?c_x8 ?k_x8 ?q_x8 ?ga ?rd ?gt ?tk ?y1_Tt ?y2_Tt ?y3_Tt ?y4_Tt ?y5_Tt ?y6_Tt ?y1_BC ?y2_BC ?y3_BC ?y4_BC ?y5_BC ?y6_BC ?t0 ?t1 ?t2 ?t3 ?t4 ?b0 ?b1 ?b2 ?b3 ?b4 ?nb ?xg_E_Twice ?xt_E_Twice ?xb_E_Twice ?xh_E_Twice ?xa_E_Twice ?xm_E_Twice ?xn_E_Twice ?xs_E_Twice ?xp_E_Twice ?xk_E_Twice ?xc_E_Twice ?xe_E_Twice ?xz_E_Twice ?xv_E_Twice ?x0_E_Twice ?x1_E_Twice ?x2_E_Twice ?x3_E_Twice ?x4_E_Twice ?x5_E_Twice ?x6_E_Twice ?xT_E_Twice ?xS_E_Twice ?xg_E_Short ?xt_E_Short ?xb_E_Short ?xh_E_Short ?xa_E_Short ?xm_E_Short ?xn_E_Short ?xs_E_Short ?xp_E_Short ?xk_E_Short ?xc_E_Short ?xe_E_Short ?xz_E_Short ?xv_E_Short ?x0_E_Short ?x1_E_Short ?x2_E_Short ?x3_E_Short ?x4_E_Short ?x5_E_Short ?x6_E_Short ?xT_E_Short ?xS_E_Short ?mb ?z0 ?z1 ?z2 ?z3 ?z4 ?z5 ?z6 ?z7 ?z8 ?z9 ?z10 ?z11 ?z12 ?z13 ?z14
    (case n_CC => k_is)
    (case n_Tt => k_is)
    (case n_BC => k_is)
    (case n_E_MaybeError => k_is)
    (case n_E_NoFilling => k_is)
    (case n_E_TooMany => k_is)
    (case n_E_Twice => k_is)
    (case n_E_Short => k_is)
    (case n_E_NoColumn => k_is)
    (case n_E_Unlike => k_is)
    (case n_E_TooFew => k_is)
    (case n_E_NoText => k_is)
    (case n_E_NoName => k_is)
    (case a_d0 => k_is)
    (case l_d0 => k_is)
    (case c_d0 => k_is)
    (case k_d0 => k_is)
    (case a_d1 => k_is)
    (case l_d1 => k_is)
    (case c_d1 => k_is)
    (case k_d1 => k_is)
    (case a_d2 => k_is)
    (case l_d2 => k_is)
    (case c_d2 => k_is)
    (case k_d2 => k_is)
    (case a_d3 => k_is)
    (case l_d3 => k_is)
    (case c_d3 => k_is)
    (case k_d3 => k_is)
    (case a_d4 => k_is)
    (case l_d4 => k_is)
    (case c_d4 => k_is)
    (case k_d4 => k_is)
    (case a_d5 => k_is)
    (case l_d5 => k_is)
    (case c_d5 => k_is)
    (case k_d5 => k_is)
    (case a_d6 => k_is)
    (case l_d6 => k_is)
    (case c_d6 => k_is)
    (case k_d6 => k_is)
    (case a_d7 => k_is)
    (case l_d7 => k_is)
    (case c_d7 => k_is)
    (case k_d7 => k_is)
    (case a_d8 => k_is)
    (case l_d8 => k_is)
    (case c_d8 => k_is)
    (case k_d8 => k_is)
    (case a_d9 => k_is)
    (case l_d9 => k_is)
    (case c_d9 => k_is)
    (case k_d9 => k_is)
    (case a_d10 => k_is)
    (case l_d10 => k_is)
    (case c_d10 => k_is)
    (case k_d10 => k_is)
    (case a_d11 => k_is)
    (case l_d11 => k_is)
    (case c_d11 => k_is)
    (case k_d11 => k_is)
    (case a_d12 => k_is)
    (case l_d12 => k_is)
    (case c_d12 => k_is)
    (case k_d12 => k_is)
    (case a_d13 => k_is)
    (case l_d13 => k_is)
    (case c_d13 => k_is)
    (case k_d13 => k_is)
    (case a_i0 => k_is)
    (case l_i0 => k_is)
    (case c_i0 => k_is)
    (case k_i0 => k_is)
    (case q_i0 => k_is)
    (case a_i1 => k_is)
    (case l_i1 => k_is)
    (case c_i1 => k_is)
    (case k_i1 => k_is)
    (case q_i1 => k_is)
    (case a_w1 => k_is)
    (case l_w1 => k_is)
    (case c_w1 => k_is)
    (case k_w1 => k_is)
    (case q_w1 => k_is)
    (case a_i6 => k_is)
    (case l_i6 => k_is)
    (case l_DT => k_is)
    (case c_i6 => k_is)
    (case k_i6 => k_is)
    (case q_i6 => k_is)
    (case a_c6 => k_is)
    (case l_c6 => k_is)
    (case c_c6 => k_is)
    (case k_c6 => k_is)
    (case q_c6 => k_is)
    (case a_r6 => k_is)
    (case l_r6 => k_is)
    (case c_r6 => k_is)
    (case k_r6 => k_is)
    (case q_r6 => k_is)
    (case a_x7 => k_is)
    (case l_x7 => k_is)
    (case c_x7 => k_is)
    (case k_x7 => k_is)
    (case q_x7 => k_is)
    (case a_x8 => k_is)
    (case l_x8 => k_is)
    (case c_x8 => k_is)
    (case k_x8 => k_is)
    (case q_x8 => k_is)
    (case ga => k_is)
    (case rd => k_is)
    (case gt => k_is)
    (case tk => k_is)
    (case y1_Tt => k_is)
    (case y2_Tt => k_is)
    (case y3_Tt => k_is)
    (case y4_Tt => k_is)
    (case y5_Tt => k_is)
    (case y6_Tt => k_is)
    (case y1_BC => k_is)
    (case y2_BC => k_is)
    (case y3_BC => k_is)
    (case y4_BC => k_is)
    (case y5_BC => k_is)
    (case y6_BC => k_is)
    (case t0 => k_is)
    (case t1 => k_is)
    (case t2 => k_is)
    (case t3 => k_is)
    (case t4 => k_is)
    (case b0 => k_is)
    (case b1 => k_is)
    (case b2 => k_is)
    (case b3 => k_is)
    (case b4 => k_is)
    (case nb => decide)
    (case xg_E_Twice => k_is)
    (case xt_E_Twice => k_is)
    (case xb_E_Twice => k_is)
    (case xh_E_Twice => k_is)
    (case xa_E_Twice => k_is)
    (case xm_E_Twice => k_is)
    (case xn_E_Twice => k_is)
    (case xs_E_Twice => k_is)
    (case xp_E_Twice => kernel_rfl)
    (case xk_E_Twice => k_is)
    (case xc_E_Twice => k_is)
    (case xe_E_Twice => kernel_rfl)
    (case xz_E_Twice => kernel_rfl)
    (case xv_E_Twice => kit_is)
    (case x0_E_Twice => kit_is)
    (case x1_E_Twice => kit_is)
    (case x2_E_Twice => kit_is)
    (case x3_E_Twice => kit_is)
    (case x4_E_Twice => kit_is)
    (case x5_E_Twice => kit_is)
    (case x6_E_Twice => kit_is)
    (case xT_E_Twice => kit_is)
    (case xS_E_Twice => kit_is)
    (case xg_E_Short => k_is)
    (case xt_E_Short => k_is)
    (case xb_E_Short => k_is)
    (case xh_E_Short => k_is)
    (case xa_E_Short => k_is)
    (case xm_E_Short => k_is)
    (case xn_E_Short => k_is)
    (case xs_E_Short => k_is)
    (case xp_E_Short => kernel_rfl)
    (case xk_E_Short => k_is)
    (case xc_E_Short => k_is)
    (case xe_E_Short => kernel_rfl)
    (case xz_E_Short => kernel_rfl)
    (case xv_E_Short => kit_is)
    (case x0_E_Short => kit_is)
    (case x1_E_Short => kit_is)
    (case x2_E_Short => kit_is)
    (case x3_E_Short => kit_is)
    (case x4_E_Short => kit_is)
    (case x5_E_Short => kit_is)
    (case x6_E_Short => kit_is)
    (case xT_E_Short => kit_is)
    (case xS_E_Short => kit_is)
    (case mb => kernel_rfl)
    (case z0 => k_is)
    (case z1 => k_is)
    (case z2 => k_is)
    (case z3 => k_is)
    (case z4 => k_is)
    (case z5 => k_is)
    (case z6 => k_is)
    (case z7 => k_is)
    (case z8 => k_is)
    (case z9 => k_is)
    (case z10 => k_is)
    (case z11 => k_is)
    (case z12 => k_is)
    (case z13 => k_is)
    (case z14 => k_is)
