import PyProof.Rows.All
import Wide.All
import OpenK.AllK
import Wide.FinOn
import Lean
import PyProof.EqAt
import PyProof.EqKinds
import PyProof.NeKinds
import PyProof.TupleCall
import PyProof.SetKind
import PyProof.Rows.SetFrom
import KE.KDictSum
import PyProof.Rows.SortStr
import OpenK.KCls
import PyProof.MeetsDictList
import PyProof.Rows.CallKwBuiltin
import PyProof.MinMaxWalk
import PyProof.DictWalks
import KE.KDictList
import PyProof.LayNew
import PyProof.Rows.ZipGen
import PyProof.Rows.FactsT2
import KE.KListMore
import PyProof.DictDisplay
import KE.KDictLaws
import PyProof.ConsumeWalk
import PyProof.ZipIter
import PyProof.Rows.StrJoin2
import KE.KxText
import PyProof.StrWalks
import PyProof.EnumIter
import PyProof.Draws
import PyProof.Rows.StrMeet
import PySem.Challenge.RW_maybetables_k31_tables_told_back
set_option Elab.async false
set_option linter.all false
set_option maxRecDepth 100000
set_option Elab.async false
namespace HD
open PySem PySem.W PyProof.Rows
/-! ### the top's run, at one go, over a tree -/
noncomputable def topRunT (tb : String → Option Builtin) (p : Program) (w : World) (n₀ : Nat) (ann : Option Value) : Nat → SharedT → Thread → Option SharedT
  | 0, _, _ => none
  | n + 1, s, t => match through t with
    | true => some s
    | false => match stepOk n₀ ann t with
      | false => none
      | true => match stepT (denote tb) p w s t with
        | some r => topRunT tb p w n₀ ann n r.1 r.2
        | none => none
theorem topRun_of {tb : String → Option Builtin} {p : Program} {w : World} {n₀ : Nat} {ann : Option Value} : ∀ {n : Nat} {s s' : SharedT} {t : Thread}, topRunT tb p w n₀ ann n s t = some s' → topRun tb p w n₀ ann n s.abs t = some s'.abs
  | 0, _, _, _, h => by cases h
  | n + 1, s, s', t, h => by
    unfold topRunT at h
    unfold topRun
    cases hth : through t with
    | true => rw [hth] at h; cases h; rfl
    | false =>
      rw [hth] at h
      cases hb : stepOk n₀ ann t with
      | false => rw [hb] at h; cases h
      | true =>
        rw [hb] at h
        cases hst : stepT (denote tb) p w s t with
        | none => rw [hst] at h; cases h
        | some r =>
          obtain ⟨sB, tB⟩ := r
          rw [hst] at h
          rw [stepT_spec hst]
          exact topRun_of h
/-- the objects of a list behind those of a tree -/
def grow : List Obj → BT → Nat → Option BT
  | [], t, _ => some t
  | o :: r, t, n => match ((t.ins n o).get n).isSome with
    | true => grow r (t.ins n o) (n + 1)
    | false => none
theorem grow_abs {life : Life} : ∀ {l : List Obj} {t t' : BT} {n : Nat}, grow l t n = some t' → absHeap t' (n + l.length) life = ⟨(absHeap t n life).objs ++ l.toArray, life⟩
  | [], t, t', n, h => by
    cases h
    show absHeap t n life = _
    simp [absHeap]
  | o :: r, t, t', n, h => by
    unfold grow at h
    cases e : ((t.ins n o).get n).isSome with
    | false => rw [e] at h; cases h
    | true =>
      rw [e] at h
      have ih := grow_abs (life := life) h
      rw [absHeap_ins e] at ih
      rw [List.length_cons, show n + (r.length + 1) = n + 1 + r.length by omega, ih]
      show Heap.mk (((absHeap t n life).push o).objs ++ r.toArray) life = _
      show Heap.mk (((absHeap t n life).objs.push o) ++ r.toArray) life = _
      congr 1
      apply Array.toList_inj.mp
      simp
theorem grow_all {h : Heap} {t : BT} (e : grow h.objs.toList .nil 0 = some t) : absHeap t h.objs.size h.life = h := by
  have := grow_abs (life := h.life) e
  rw [Nat.zero_add, Array.length_toList] at this
  rw [this]
  cases h
  simp [absHeap, BT.list]
/-- what is seen behind it -/
noncomputable def seenT (p q : Program) (loose : List Str) (Xt : Shared → Bool) (as : List Addr) (s₀ s : Shared) :=
  ((staticsOk (importedModules p.main.body) s₀.heap s.heap && namesBound p s.heap && gensDone s && laidKept s₀.heap s.heap), openSeen q loose (importedModules p.main.body) Xt true s, as.map s.heap.get?)
noncomputable def bigT (p q : Program) (loose : List Str) (Xt : Shared → Bool) (as : List Addr) (N : Nat) (H₀ : Params → Heap) (w : World) (os : OsState) :=
  (grow (H₀ w.params).objs.toList .nil 0).bind fun t =>
    (topRunT treeTable p w (H₀ w.params).objs.size ((H₀ w.params).nsMap mainGlobals "__annotations__") N ⟨t, (H₀ w.params).objs.size, (H₀ w.params).life, Array.mk [], boot_drawn, boot_toks, os⟩ (topStub p)).map fun s =>
      ((H₀ w.params).isNs mainGlobals, seenT p q loose Xt as ⟨H₀ w.params, Array.mk [], boot_drawn, boot_toks, os⟩ s.abs)
theorem left_big {p q : Program} {loose : List Str} {Xt : Shared → Bool} {K : Params → Frag} {as : List Addr} {N : Nat}
    (o : ∀ w : World, (fencedOpening treeTable p w N).map (fun s => (s.heap, s.gens, s.drawn, s.toks)) = some (boot_heap w.params, Array.mk [], boot_drawn, boot_toks))
    (h : ∀ (w : World) (os : OsState), bigT p q loose Xt as N boot_heap w os = some (true, true, openGood q loose, (K w.params).map fun p => some p.2)) : LeftO p q loose Xt (fun s => as.map s.heap.get?) (fun w => (K w.params).map fun p => some p.2) N := fun w => by
  obtain ⟨⟨hh, gs, d, k, os⟩, e, e'⟩ := Option.map_eq_some_iff.mp (o w)
  obtain ⟨rfl, rfl, rfl, rfl⟩ : hh = boot_heap w.params ∧ gs = Array.mk [] ∧ d = boot_drawn ∧ k = boot_toks := by simpa using e'
  obtain ⟨t, h1, h2⟩ := Option.bind_eq_some_iff.mp (h w os)
  obtain ⟨s, h3, h4⟩ := Option.map_eq_some_iff.mp h2
  have ha := grow_all h1
  have h5 := topRun_of h3
  have e0 : (SharedT.mk t (boot_heap w.params).objs.size (boot_heap w.params).life #[] boot_drawn boot_toks os).abs = ⟨boot_heap w.params, Array.mk [], boot_drawn, boot_toks, os⟩ := by
    unfold SharedT.abs
    rw [ha]
  rw [e0] at h5
  obtain ⟨i1, i2⟩ := Prod.mk.inj h4
  unfold seenT at i2
  obtain ⟨i3, i4⟩ := Prod.mk.inj i2
  obtain ⟨i5, i6⟩ := Prod.mk.inj i4
  have z : ((boot_heap w.params).isNs mainGlobals && (Array.mk [] : Array GenState).size == 0) = true := by rw [i1]; rfl
  have t' : topFrom treeTable p w N ⟨boot_heap w.params, Array.mk [], boot_drawn, boot_toks, os⟩ = some s.abs := by
    unfold topFrom
    dsimp only
    rw [z, h5]
    show (match staticsOk (importedModules p.main.body) (boot_heap w.params) s.abs.heap && namesBound p s.abs.heap && gensDone s.abs && laidKept (boot_heap w.params) s.abs.heap with | true => some s.abs | false => none) = some s.abs
    rw [i3]
  unfold openEnds
  rw [e]
  show (topFrom treeTable p w N _).map _ = _
  rw [t']
  exact congrArg some (Prod.ext i5 i6)
noncomputable def goodT (q : Program) (loose : List Str) := openGood q loose
end HD
lay_quick HD.bigT
lay_quick HD.goodT

namespace HD
open PySem PySem.W PyProof.Rows
theorem left_quick {p q : Program} {loose : List Str} {Xt : Shared → Bool} {K : Params → Frag} {as : List Addr} {N : Nat}
    (o : ∀ w : World, (fencedOpening treeTable p w N).map (fun s => (s.heap, s.gens, s.drawn, s.toks)) = some (boot_heap w.params, Array.mk [], boot_drawn, boot_toks))
    (h : ∀ (w : World) (os : OsState), PySem.W.Fast.tw7652524407582654731 p q loose Xt as N boot_heap w os = some (true, true, PySem.W.Fast.tw17311637784456860124 q loose, (K w.params).map fun p => some p.2)) : LeftO p q loose Xt (fun s => as.map s.heap.get?) (fun w => (K w.params).map fun p => some p.2) N :=
  left_big o fun w os => by
    rw [PySem.W.Fast.te7652524407582654731]
    refine (h w os).trans ?_
    rw [← PySem.W.Fast.te17311637784456860124]
    rfl
end HD
/-! THE HAND LAYER, for ints, bools, texts, own classes, LISTS and tuples (index, slices, in, append, pop ..), calls, loops. Paste it whole ahead of your own text; what your proof does not reach may be deleted. -/
namespace L2
open PySem PySem.Spec PyProof.Rows

/-- a key: an int or a str -/
abbrev Key := Sum Int Str
def keyIs : Key → Value → Bool
  | .inl k, v => Value.isInt k v
  | .inr x, v => Value.isStrOf x v
def keyH (w : World) : Key → Int
  | .inl k => hashInt k
  | .inr x => hashStr w x
theorem keyIs_shape : ∀ {k : Key} {v : Value}, keyIs k v = true → (∃ i t, k = Sum.inl i ∧ v = Value.int i t) ∨ (∃ x t, k = Sum.inr x ∧ v = Value.str x t)
  | .inl i, v, h => by
    obtain ⟨t, e⟩ := Value.isInt_shape (k := i) (v := v) h
    exact .inl ⟨i, t, rfl, e⟩
  | .inr x, v, h => by
    obtain ⟨t, e⟩ := Value.isStrOf_shape (x := x) (v := v) h
    exact .inr ⟨x, t, rfl, e⟩
theorem keyIs_int (i : Int) (t : Tok) : keyIs (.inl i) (.int i t) = true := by simp [keyIs, Value.isInt]
theorem keyIs_str (x : Str) (t : Tok) : keyIs (.inr x) (.str x t) = true := by simp [keyIs, Value.isStrOf]
theorem key_ll (a b : Int) : decide ((Sum.inl a : Key) = Sum.inl b) = (a == b) := by
  by_cases e : a = b
  · subst e; simp
  · have h : ¬ (Sum.inl a : Key) = Sum.inl b := fun q => e (Sum.inl.inj q)
    rw [decide_eq_false h]
    exact (beq_eq_false_iff_ne.mpr e).symm
theorem key_rr (a b : Str) : decide ((Sum.inr a : Key) = Sum.inr b) = decide (a = b) := by
  by_cases e : a = b
  · subst e; simp
  · have h : ¬ (Sum.inr a : Key) = Sum.inr b := fun q => e (Sum.inr.inj q)
    rw [decide_eq_false h, decide_eq_false e]
theorem key_lr (a : Int) (b : Str) : decide ((Sum.inl a : Key) = Sum.inr b) = false := decide_eq_false (fun q => nomatch q)
theorem key_rl (a : Str) (b : Int) : decide ((Sum.inr a : Key) = Sum.inl b) = false := decide_eq_false (fun q => nomatch q)

def mixKind (prog : Program) (w : World) : PySem.KeyKind prog w Key where
  is := keyIs
  hash := keyH w
  inj := fun v a b ha hb => by
    rcases keyIs_shape ha with ⟨i, t, rfl, rfl⟩ | ⟨x, t, rfl, rfl⟩
    · rcases keyIs_shape hb with ⟨j, u, rfl, e⟩ | ⟨y, u, rfl, e⟩
      · injection e with e1 _; rw [e1]
      · exact nomatch e
    · rcases keyIs_shape hb with ⟨j, u, rfl, e⟩ | ⟨y, u, rfl, e⟩
      · exact nomatch e
      · injection e with e1 _; rw [e1]
  byValue := fun k v h => by
    rcases keyIs_shape h with ⟨i, t, rfl, rfl⟩ | ⟨x, t, rfl, rfl⟩ <;> rfl
  pyHash := fun hv h => by
    rcases keyIs_shape hv with ⟨i, t, rfl, rfl⟩ | ⟨x, t, rfl, rfl⟩
    · exact wpAny_pyHash_int h
    · exact wpAny_pyHash_str h
  eqBool := fun hu hv h => by
    rcases keyIs_shape hu with ⟨i, t, rfl, rfl⟩ | ⟨x, t, rfl, rfl⟩
    · rcases keyIs_shape hv with ⟨j, u, rfl, rfl⟩ | ⟨y, u, rfl, rfl⟩
      · rw [key_ll] at h; exact wpAny_eqBool_int h
      · rw [key_lr] at h; exact SeqAt.EqAt.int_str i t y u _ _ _ _ h
    · rcases keyIs_shape hv with ⟨j, u, rfl, rfl⟩ | ⟨y, u, rfl, rfl⟩
      · rw [key_rl] at h; exact SeqAt.EqAt.str_int x t j u _ _ _ _ h
      · rw [key_rr] at h; exact wpAny_eqBool_str h
  «strs» := fun k x t v h => by
    rcases keyIs_shape h with ⟨i, u, rfl, e⟩ | ⟨y, u, rfl, e⟩
    · exact nomatch e
    · injection e with e1 _
      subst e1
      cases v <;> rfl

theorem mixKind_is (prog : Program) (w : World) (k : Key) (v : Value) : (mixKind prog w).is k v = keyIs k v := rfl
theorem mixKind_int (prog : Program) (w : World) (i : Int) (t : Tok) : (mixKind prog w).is (.inl i) (.int i t) = true := keyIs_int i t
theorem mixKind_str (prog : Program) (w : World) (x : Str) (t : Tok) : (mixKind prog w).is (.inr x) (.str x t) = true := keyIs_str x t
end L2

namespace L2
open PySem PySem.Spec PyProof.Rows

/-- a value, without the heap -/
inductive V where
  | non | bl (b : Bool) | int (i : Int) | str (x : Str) | byt (b : Array UInt8) | flt (b : UInt64) | ref (a : Addr) | ty (n : String)
  deriving DecidableEq

def RelV : V → Value → Prop
  | .non, u => u = Value.none
  | .bl b, u => u = Value.bool b
  | .int i, u => ∃ t, u = Value.int i t
  | .str x, u => ∃ t, u = Value.str x t
  | .byt b, u => ∃ t, u = Value.bytes b t
  | .flt b, u => ∃ t, u = Value.float b t
  | .ref a, u => u = Value.ref a
  | .ty n, u => u = Value.type n

abbrev Vals : List V → List Value → Prop := Paired RelV
theorem Vals.length {xs : List V} {us : List Value} (r : Vals xs us) : xs.length = us.length := Paired.length r
theorem Vals.get : ∀ {xs : List V} {us : List Value} {i : Nat} {x : V}, Vals xs us → xs[i]? = some x → ∃ u, us[i]? = some u ∧ RelV x u
  | _, _, _, _, .nil, e => by simp at e
  | _, _, 0, _, .cons r _, e => by simp at e; subst e; exact ⟨_, rfl, r⟩
  | _, _, i + 1, x, .cons _ t, e => by
    obtain ⟨u, h1, h2⟩ := Vals.get (i := i) (x := x) t (by simpa using e)
    exact ⟨u, by simpa using h1, h2⟩
theorem Vals.set {x : V} {u : Value} (r : RelV x u) : ∀ {xs : List V} {us : List Value} (i : Nat), Vals xs us → Vals (xs.set i x) (us.set i u)
  | _, _, _, .nil => .nil
  | _, _, 0, .cons _ t => .cons r t
  | _, _, i + 1, .cons q t => .cons q (Vals.set r i t)
theorem Vals.append : ∀ {xs ys : List V} {us ws : List Value}, Vals xs us → Vals ys ws → Vals (xs ++ ys) (us ++ ws)
  | _, _, _, _, .nil, s => s
  | _, _, _, _, .cons r t, s => .cons r (Vals.append t s)
theorem Vals.take : ∀ {xs : List V} {us : List Value} (n : Nat), Vals xs us → Vals (xs.take n) (us.take n)
  | _, _, 0, _ => .nil
  | _, _, _ + 1, .nil => .nil
  | _, _, n + 1, .cons r t => .cons r (Vals.take n t)
theorem Vals.drop : ∀ {xs : List V} {us : List Value} (n : Nat), Vals xs us → Vals (xs.drop n) (us.drop n)
  | _, _, 0, r => r
  | _, _, _ + 1, .nil => .nil
  | _, _, n + 1, .cons _ t => Vals.drop n t

def RelO : Option V → Option Value → Prop
  | some v, some u => RelV v u
  | none, none => True
  | _, _ => False
def KV {κ : Type} : List (κ × V) → List (κ × Value) → Prop := Paired fun (p : κ × V) (q : κ × Value) => p.1 = q.1 ∧ RelV p.2 q.2

/-- a key of a dict (00_mix): an int or a text -/
def kV : Key → V
  | .inl i => .int i
  | .inr x => .str x

/-- what stands at a tracked address -/
inductive HO where
  /-- a list -/
  | lst (xs : List V)
  /-- a tuple (never changes) -/
  | tup (xs : List V)
  /-- a dict whose keys are ints and texts; one whose keys are tuples of ints and texts (the empty one is both) -/
  | dK (kvs : List (Key × V)) | dT (kvs : List (List Key × V))
  /-- a set of ints: its members, its size -/
  | set (S : Int → Bool) (n : Nat)
  /-- an instance of the class at C, its dict at dx, its attributes -/
  | ins (C dx : Addr) (fs : List (Str × V))
  /-- the dict of the instance at x -/
  | own (x : Addr)
  /-- the dict of an exception -/
  | xd (fs : List (Str × V))
  /-- a bound method, f of x -/
  | met (f x : Addr)
  /-- a range object lo, lo + 1, .. below hi -/
  | rng (lo hi : Int)
  /-- a thing that is known to the object (the script; a dict while a loop walks it): read, never written while it is so -/
  | frz (o : Obj) (u : HO)
  /-- a code object's table -/
  | tbl (ps : Array Value)
  /-- any other thing, by what is true of its one object (a def of one's own: SetO a S n := HO.ext fun h => ..) -/
  | ext (φ : Heap → Prop)

abbrev Hp := Addr → Option HO
def upd (H : Hp) (a : Addr) (o : HO) : Hp := fun b => if b = a then some o else H b
theorem upd_same {H : Hp} {a : Addr} {o : HO} : upd H a o a = some o := by unfold upd; rw [if_pos rfl]
theorem upd_ne {H : Hp} {a b : Addr} {o : HO} (h : b ≠ a) : upd H a o b = H b := by unfold upd; rw [if_neg h]
/-- two objects of different content stand apart -/
theorem ne_of {H : Hp} {a b : Addr} {o u : HO} (h : H a = some o) (h' : H b = some u) (d : o ≠ u) : a ≠ b := by
  intro e; subst e; rw [h] at h'; exact d (Option.some.inj h')
theorem ne_of_none {H : Hp} {a b : Addr} {o : HO} (h : H a = some o) (h' : H b = none) : a ≠ b := by
  intro e; subst e; rw [h] at h'; cases h'

/-- a tuple, without a dict of its own -/
def TupN (h : Heap) (a : Addr) (items : Array Value) : Prop := ∃ o, h.get? a = some o ∧ o.cls = .type "tuple" ∧ o.dict = none ∧ ∃ n, o.data = .seq items n
theorem TupN.tup {h : Heap} {a : Addr} {items : Array Value} (x : TupN h a items) : IsTup h a items := by
  obtain ⟨o, e, c, _, n, d⟩ := x
  exact ⟨o, e, c, n, d⟩
theorem TupN.lt {h : Heap} {a : Addr} {items : Array Value} (x : TupN h a items) : a < h.objs.size := by
  obtain ⟨o, e, _⟩ := x
  exact Heap.lt_size e
theorem TupN.new (h : Heap) (items : Array Value) : TupN (h.push { cls := .type "tuple", data := .seq items }) h.objs.size items := ⟨_, Heap.get?_push_size _ rfl, rfl, rfl, 0, rfl⟩
section
variable (P : Program) (w : World)
def ObjOk (H : Hp) (h : Heap) (a : Addr) : HO → Prop
  | .lst xs => xs.length ≤ sizeLine ∧ ∃ (its : List Value) (n : Nat), Vals xs its ∧ h.get? a = some { cls := .type "list", data := .seq its.toArray n }
  | .tup xs => xs.length ≤ sizeLine ∧ ∃ its : List Value, Vals xs its ∧ TupN h a its.toArray
  | .dK kvs => kvs.length ≤ sizeLine ∧ (a == sysModules) = false ∧ ∃ vs, KV kvs vs ∧ h.DictOf (mixKind P w) a vs
  | .dT kvs => kvs.length ≤ sizeLine ∧ (a == sysModules) = false ∧ ∃ xs : List (List Key × Addr × Value),
      Paired (fun (p : List Key × V) (q : List Key × Addr × Value) => p.1 = q.1 ∧ H q.2.1 = some (.tup (p.1.map kV)) ∧ RelV p.2 q.2.2) kvs xs ∧
      ∃ o es ep, h.get? a = some o ∧ o.ExactDict ∧ o.data = .dict es ep ∧ es.toList = xs.map (entryOfKey (tupleKind (mixKind P w))) ∧ (xs.map (·.1)).Nodup
  | .set S n => h.SetOf (intKind P w) a S n
  | .ins C dx fs => H dx = some (.own a) ∧ fs.length ≤ 1000 ∧ dx ≠ a ∧ h.get? a = some (PySem.W.instObj C dx) ∧
      ∃ mA, h.Ns1 dx mA ∧ (∀ f, RelO (fs.lookup f) (mA f)) ∧ PySem.Within mA (fs.map (·.1))
  | .own _ => ∃ o, h.get? a = some o
  | .xd fs => ∃ mA, h.Ns1 a mA ∧ ∀ f, RelO (fs.lookup f) (mA f)
  | .rng lo hi => ∃ t u v, h.get? a = some { cls := .type "range", data := .fields #[.int lo t, .int hi u, .int 1 v] }
  | .frz o u => h.get? a = some o ∧ ObjOk H h a u
  | .tbl ps => h.get? a = some { cls := .none, data := .fields ps }
  | .met f x => h.get? a = some (PySem.W.methodObj (.ref f) (.ref x))
  | .ext φ => φ h ∧ (∃ o, h.get? a = some o) ∧ ∀ h1 h2 : Heap, φ h1 → (∀ o, h1.get? a = some o → h2.get? a = some o) → φ h2
/-- the abstract heap is held -/
def HOk (H : Hp) (h : Heap) : Prop := ∀ a o, H a = some o → ObjOk P w H h a o
end

section
variable {P : Program} {w : World} {H H' : Hp} {h h' : Heap} {a : Addr} {o : HO}
theorem ObjOk.lt (x : ObjOk P w H h a o) : a < h.objs.size := by
  cases o with
  | lst xs => obtain ⟨_, _, _, _, e⟩ := x; exact Heap.lt_size e
  | tup xs => obtain ⟨_, _, _, p⟩ := x; exact p.lt
  | dK kvs => obtain ⟨_, _, _, _, o, _, _, e, _⟩ := x; exact Heap.lt_size e
  | dT kvs => obtain ⟨_, _, _, _, o, _, _, e, _⟩ := x; exact Heap.lt_size e
  | set S n => obtain ⟨o, _, _, _, e, _⟩ := x; exact Heap.lt_size e
  | ins C dx fs => obtain ⟨_, _, _, e, _⟩ := x; exact Heap.lt_size e
  | own y => obtain ⟨_, e⟩ := x; exact Heap.lt_size e
  | xd fs => obtain ⟨_, ⟨_, _, _, e, _⟩, _⟩ := x; exact Heap.lt_size e
  | rng lo hi => obtain ⟨_, _, _, e⟩ := x; exact Heap.lt_size e
  | frz ob u => obtain ⟨e, _⟩ := x; exact Heap.lt_size e
  | tbl ps => exact Heap.lt_size (show h.get? a = some _ from x)
  | met f y => exact Heap.lt_size (show h.get? a = some _ from x)
  | ext φ => obtain ⟨_, ⟨_, e⟩, _⟩ := x; exact Heap.lt_size e
theorem Paired.mapP {α β : Type} {F G : α → β → Prop} : ∀ {l₁ : List α} {l₂ : List β}, Paired F l₁ l₂ → (∀ a b, F a b → G a b) → Paired G l₁ l₂
  | _, _, .nil, _ => .nil
  | _, _, .cons r t, f => .cons (f _ _ r) (Paired.mapP t f)
/-- what an object's description leans on: its own object, its own dict, the tuples -/
theorem ObjOk.stay (x : ObjOk P w H h a o) (k : ∀ b u, (b = a ∨ H b = some (.own a)) → h.get? b = some u → h'.get? b = some u)
    (ho : ∀ b, H b = some (.own a) → H' b = some (.own a)) (ht : ∀ b xs, H b = some (.tup xs) → H' b = some (.tup xs)) : ObjOk P w H' h' a o := by
  induction o with
  | lst xs => obtain ⟨z, its, n, r, e⟩ := x; exact ⟨z, its, n, r, k _ _ (.inl rfl) e⟩
  | tup xs => obtain ⟨z, its, r, ob, e, c⟩ := x; exact ⟨z, its, r, ob, k _ _ (.inl rfl) e, c⟩
  | dK kvs => obtain ⟨z, y, vs, r, ob, es, ep, e, c⟩ := x; exact ⟨z, y, vs, r, ob, es, ep, k _ _ (.inl rfl) e, c⟩
  | dT kvs =>
    obtain ⟨z, y, xs, r, ob, es, ep, e, c⟩ := x
    exact ⟨z, y, xs, Paired.mapP r fun p q z => ⟨z.1, ht _ _ z.2.1, z.2.2⟩, ob, es, ep, k _ _ (.inl rfl) e, c⟩
  | set S n => obtain ⟨ob, es, ep, t, e, c⟩ := x; exact ⟨ob, es, ep, t, k _ _ (.inl rfl) e, c⟩
  | ins C dx fs =>
    obtain ⟨d, z, ne, e, mA, ⟨od, es, ep, e2, c⟩, r⟩ := x
    exact ⟨ho _ d, z, ne, k _ _ (.inl rfl) e, mA, ⟨od, es, ep, k _ _ (.inr d) e2, c⟩, r⟩
  | own y => obtain ⟨ob, e⟩ := x; exact ⟨ob, k _ _ (.inl rfl) e⟩
  | xd fs => obtain ⟨mA, ⟨od, es, ep, e, c⟩, r⟩ := x; exact ⟨mA, ⟨od, es, ep, k _ _ (.inl rfl) e, c⟩, r⟩
  | rng lo hi => obtain ⟨t, u, v, e⟩ := x; exact ⟨t, u, v, k _ _ (.inl rfl) e⟩
  | frz ob u ih => obtain ⟨e, q⟩ := x; exact ⟨k _ _ (.inl rfl) e, ih q⟩
  | tbl ps =>
    have e : h.get? a = some { cls := .none, data := .fields ps } := x
    show h'.get? a = some { cls := .none, data := .fields ps }
    exact k a _ (.inl rfl) e
  | met f y =>
    have e : h.get? a = some (PySem.W.methodObj (.ref f) (.ref y)) := x
    show h'.get? a = some (PySem.W.methodObj (.ref f) (.ref y))
    exact k a _ (.inl rfl) e
  | ext φ => obtain ⟨p, ⟨o, e⟩, st⟩ := x; exact ⟨st _ _ p fun o q => k _ _ (.inl rfl) q, ⟨o, k _ _ (.inl rfl) e⟩, st⟩
theorem HOk.lt (x : HOk P w H h) (e : H a = some o) : a < h.objs.size := (x a o e).lt
theorem HOk.fresh (x : HOk P w H h) (e : h.objs.size ≤ a) : H a = none := by
  cases q : H a with
  | none => rfl
  | some u => exact absurd (Nat.lt_of_lt_of_le (x.lt q) e) (Nat.lt_irrefl _)
/-- every object of the heap is kept -/
theorem HOk.kept (x : HOk P w H h) (k : ∀ b u, h.get? b = some u → h'.get? b = some u) : HOk P w H h' := fun a o e =>
  (x a o e).stay (fun b u _ q => k b u q) (fun _ q => q) fun _ _ q => q
/-- a new object is laid and tracked -/
theorem HOk.laid (x : HOk P w H h) (k : ∀ b u, h.get? b = some u → h'.get? b = some u) (hp : h.objs.size ≤ a) (new : ObjOk P w (upd H a o) h' a o) : HOk P w (upd H a o) h' := fun b u e => by
  have hn := x.fresh hp
  by_cases hb : b = a
  · subst hb; rw [upd_same] at e; cases e; exact new
  · rw [upd_ne hb] at e
    exact (x b u e).stay (fun c v _ q => k c v q) (fun c q => by rw [upd_ne (ne_of_none q hn)]; exact q) fun c xs q => by rw [upd_ne (ne_of_none q hn)]; exact q
end

/-- what may be read as u: it is u, or a known u -/
def Rd (H : Hp) (a : Addr) (u : HO) : Prop := H a = some u ∨ ∃ o, H a = some (.frz o u)
theorem Rd.ok {P : Program} {w : World} {H : Hp} {h : Heap} {a : Addr} {u : HO} (r : Rd H a u) (x : HOk P w H h) : ObjOk P w H h a u := by
  rcases r with r | ⟨o, r⟩
  · exact x a u r
  · obtain ⟨_, q⟩ := x a _ r
    exact q
/-- what may be written -/
def Mut : Option HO → Prop
  | some (.lst _) => True
  | some (.dK _) => True
  | some (.dT _) => True
  | some (.set _ _) => True
  | some (.ins _ _ _) => True
  | some (.ext _) => True
  | _ => False
section
variable {P : Program} {w : World} {H : Hp} {h h' : Heap} {x e : Addr} {o' : HO}
/-- the object at e is changed: x itself, or the dict of the instance x -/
theorem HOk.write (ok : HOk P w H h) (mu : Mut (H x)) (he : e = x ∨ H e = some (.own x)) (k : ∀ b u, b ≠ e → h.get? b = some u → h'.get? b = some u) (heo : ∃ u, h'.get? e = some u)
    (new : ObjOk P w (upd H x o') h' x o') : HOk P w (upd H x o') h' := fun b u q => by
  have nown : ∀ c y, H c = some (.own y) → c ≠ x := fun c y r z => by subst z; rw [r] at mu; exact mu
  have ntup : ∀ c xs, H c = some (.tup xs) → c ≠ x := fun c xs r z => by subst z; rw [r] at mu; exact mu
  by_cases hb : b = x
  · subst hb; rw [upd_same] at q; cases q; exact new
  · rw [upd_ne hb] at q
    by_cases hbe : b = e
    · have q' : H b = some (.own x) := by
        rcases he with z | z
        · exact absurd (hbe.trans z) hb
        · rw [hbe]; exact z
      rw [q] at q'; cases q'
      obtain ⟨v, hv⟩ := heo
      exact ⟨v, by rw [hbe]; exact hv⟩
    · refine (ok b u q).stay (fun c v hc r => k c v ?_ r) (fun c r => by rw [upd_ne (nown c b r)]; exact r) fun c xs r => by rw [upd_ne (ntup c xs r)]; exact r
      rcases hc with rfl | hc
      · exact hbe
      · rintro rfl
        rcases he with z | z
        · exact nown c b hc z
        · rw [hc] at z; cases z; exact hb rfl
end

/-! ### kept unless tracked; of the frames at fs (the callers') the slots may change (an exception that passes writes there); of the records at ex (iterators) nothing is said -/
structure Un (fs ex : List Addr) (H H' : Hp) (h h' : Heap) : Prop where
  keep : ∀ b o, h.get? b = some o → H b = none → b ∉ fs → b ∉ ex → h'.get? b = some o
  slot : ∀ b o, h.get? b = some o → H b = none → b ∈ fs → b ∉ ex → ∃ sl, h'.get? b = some { o with slots := sl }
  free : ∀ b o, h.get? b = some o → H b = none → b ∉ ex → H' b = none
  there : ∀ b o, h.get? b = some o → b ∉ ex → ∃ o', h'.get? b = some o'
  tups : ∀ b xs, H b = some (.tup xs) → H' b = some (.tup xs)
  frzs : ∀ b o u, H b = some (.frz o u) → H' b = some (.frz o u)
  tbls : ∀ b ps, H b = some (.tbl ps) → ∃ more, H' b = some (.tbl (ps ++ more))
section
variable {fs fs' ex ex' : List Addr} {H H1 H2 : Hp} {h h1 h2 h' : Heap} {a x e : Addr} {o : HO}
theorem Un.any (u : Un fs ex H H1 h h1) {b : Addr} {ob : Obj} (q : h.get? b = some ob) (n : H b = none) (hx : b ∉ ex) : ∃ sl, h1.get? b = some { ob with slots := sl } := by
  by_cases hb : b ∈ fs
  · exact u.slot b ob q n hb hx
  · exact ⟨ob.slots, u.keep b ob q n hb hx⟩
theorem Un.kept (k : ∀ b u, h.get? b = some u → h'.get? b = some u) : Un fs ex H H h h' :=
  ⟨fun b ob q _ _ _ => k b ob q, fun b ob q _ _ _ => ⟨ob.slots, k b ob q⟩, fun _ _ _ n _ => n, fun b ob q _ => ⟨ob, k b ob q⟩, fun _ _ q => q, fun _ _ _ q => q, fun _ ps q => ⟨#[], by rw [q]; simp⟩⟩
theorem Un.refl : Un fs ex H H h h := Un.kept fun _ _ q => q
theorem Un.laid (k : ∀ b u, h.get? b = some u → h'.get? b = some u) (hp : h.objs.size ≤ a) (hn : H a = none) : Un fs ex H (upd H a o) h h' where
  keep := fun b u q _ _ _ => k b u q
  slot := fun b u q _ _ _ => ⟨u.slots, k b u q⟩
  free := fun b u q n _ => by rw [upd_ne (Nat.ne_of_lt (Nat.lt_of_lt_of_le (Heap.lt_size q) hp))]; exact n
  there := fun b u q _ => ⟨u, k b u q⟩
  tups := fun b xs q => by rw [upd_ne (ne_of_none q hn)]; exact q
  frzs := fun b u xs q => by rw [upd_ne (ne_of_none q hn)]; exact q
  tbls := fun b ps q => ⟨#[], by rw [upd_ne (ne_of_none q hn), q]; simp⟩
theorem Un.write (mu : Mut (H x)) (he : e = x ∨ H e = some (.own x)) (k : ∀ b u, b ≠ e → h.get? b = some u → h'.get? b = some u) (heo : ∃ u, h'.get? e = some u) : Un fs ex H (upd H x o) h h' := by
  have hx : ∀ b, H b = none → b ≠ x := fun b n z => by subst z; rw [n] at mu; exact mu
  have hb : ∀ b, H b = none → b ≠ e := fun b n z => by
    subst z
    rcases he with r | r
    · exact hx b n r
    · rw [n] at r; cases r
  have hm : ∀ b u, H b = some u → ¬ Mut (some u) → b ≠ x := fun b u q nm z => by subst z; rw [q] at mu; exact nm mu
  refine ⟨fun b u q n _ _ => k b u (hb b n) q, fun b u q n _ _ => ⟨u.slots, k b u (hb b n) q⟩, fun b u q n _ => by rw [upd_ne (hx b n)]; exact n, fun b u q _ => ?_,
    fun b xs q => by rw [upd_ne (hm b _ q fun z => z)]; exact q, fun b u xs q => by rw [upd_ne (hm b _ q fun z => z)]; exact q, fun b ps q => ⟨#[], by rw [upd_ne (hm b _ q fun z => z), q]; simp⟩⟩
  by_cases hbe : b = e
  · subst hbe; exact heo
  · exact ⟨u, k b u hbe q⟩
theorem Un.mono (u : Un fs ex H H1 h h1) (hs : ∀ b ∈ fs, b ∈ fs') (hx : ∀ b ∈ ex, b ∈ ex') : Un fs' ex' H H1 h h1 :=
  ⟨fun b ob q n hb he => u.keep b ob q n (fun z => hb (hs b z)) fun z => he (hx b z), fun _ _ q n _ he => u.any q n fun z => he (hx _ z), fun b ob q n he => u.free b ob q n fun z => he (hx b z), fun b ob q he => u.there b ob q fun z => he (hx b z), u.tups, u.frzs, u.tbls⟩
end

/-! ### the heap without what is tracked -/
def trk (h : Heap) (H : Hp) : List Addr := (List.range h.objs.size).filter fun a => (H a).isSome
def hidT (h : Heap) (H : Hp) : Heap := PySem.W.hideAll h (trk h H)
theorem hidT_size (h : Heap) (H : Hp) : (hidT h H).objs.size = h.objs.size := PySem.W.hideAll_size _ _
theorem hidT_get {h : Heap} {H : Hp} {b : Addr} {o : Obj} (e : h.get? b = some o) (n : H b = none) : (hidT h H).get? b = some o :=
  PySem.W.hideAll_get _ e fun hm => by
    have q : (H b).isSome = true := (List.mem_filter.mp hm).2
    rw [n] at q; simp at q
theorem of_hidT {h : Heap} {H : Hp} {b : Addr} {o : Obj} (e : (hidT h H).get? b = some o) : h.get? b = some o ∧ H b = none := by
  have e' : h.get? b = some o := PySem.W.of_hideAll (trk h H) e
  refine ⟨e', ?_⟩
  cases q : H b with
  | none => rfl
  | some x =>
    have hm : b ∈ trk h H := List.mem_filter.mpr ⟨List.mem_range.mpr (Heap.lt_size e'), by simp [q]⟩
    have z : (hidT h H).get? b = none := PySem.W.hideAll_none (trk h H) hm
    rw [z] at e; cases e

/-! ### OpenK's ledger, filled with every new object but one -/
end L2

namespace L2
open PySem PySem.Spec PyProof.Rows

/-- the module's facts, over the base: the heap at the law's entry without what is tracked there -/
structure Mod (K : PySem.W.Frag) (mg : Str → Option Value) (base : Heap) : Prop where
  kin : K.In base
  glob : base.Ns mainGlobals mg
  blt : ∃ mb, base.Ns builtinsNs mb ∧ ∀ x : Str, x ≠ "__name__" → mb x = bootBuiltins x
  nolimit : base.NoLimit

/-- the context: a def's body (or a comprehension's block) running. base: fixed through the whole law; s₀, H₀: the entry; outer: the frames whose slots others may change (a def's callers); stack: all frames that run;
   ex: iterators that were made ahead of the entry and are walked here (a comprehension's); fn: the names whose cells were made at the entry (a def: all; a comprehension's block: its own); calm: not within an except suite; pn: pins that every state bears; xe: what is wanted of an exception that leaves the code -/
structure Cx where
  prog : Program
  w : World
  K : PySem.W.Frag
  mg : Str → Option Value
  base : Heap
  A : Around
  N : List Str
  s₀ : Shared
  H₀ : Hp
  env : Env
  outer : List Env
  stack : List Env
  ex : List Addr
  fn : Str → Bool
  calm : Bool
  pn : List (Addr × Obj)
  xe : Value → Shared → Prop
/-- the callers' frames -/
def frs (l : List Env) : List Addr := l.filterMap (·.frame)
abbrev Cx.fs (X : Cx) : List Addr := frs X.outer

def Vis (sc : Scope) (x : Str) : Prop := sc.names.lookup x = some .local ∨ sc.names.lookup x = some .cell ∨ sc.names.lookup x = some .free
def Loc (sc : Scope) (x : Str) : Prop := sc.names.lookup x = some .local ∨ sc.names.lookup x = some .cell
def Look (env : Env) (h : Heap) (m : Str → Option Value) (x : Str) (u : Value) : Prop :=
  (env.kindOf x = some .local ∧ m x = some u) ∨ ((env.kindOf x = some .cell ∨ env.kindOf x = some .free) ∧ ∃ c, env.cells.lookup x = some c ∧ h.IsCell c (some u))

structure Cx.Ok (X : Cx) : Prop where
  mod : Mod X.K X.mg X.base
  kind : X.env.scope.kind = .function
  glob : X.env.globals = mainGlobals
  blt : X.env.builtins = builtinsNs
  above : X.s₀.heap.objs.size ≤ X.env.locals
  inj : ∀ x y c, X.env.cells.lookup x = some c → X.env.cells.lookup y = some c → x = y
  has : ∀ x, (X.env.kindOf x = some .cell ∨ X.env.kindOf x = some .free) → ∃ c, X.env.cells.lookup x = some c
  cab : ∀ x c, X.fn x = true → X.env.cells.lookup x = some c → X.s₀.heap.objs.size ≤ c
  hd : X.calm = true → X.A.handled = none
  frames : X.A.frames = some X.stack
  stk : X.stack = X.outer ∨ (X.stack = X.env :: X.outer ∧ X.env.frame = some X.env.locals)
  exf : ∀ b ∈ X.ex, b ≠ X.env.locals ∧ ∀ x c, X.env.cells.lookup x = some c → c ≠ b
  bs : ∀ b o, X.base.get? b = some o → X.s₀.heap.get? b = some o ∧ X.H₀ b = none
  bsz : X.base.objs.size ≤ X.s₀.heap.objs.size
  noex : ∀ b o, X.base.get? b = some o → b ∉ X.ex
  exfs : ∀ b ∈ X.ex, b ∉ X.fs
  funs : X.s₀.heap.FunFrames X.base X.outer
  frf : ∀ b ∈ X.fs, X.H₀ b = none

structure Inv (X : Cx) (pins : List (Addr × Obj)) (σ : List (Option V)) (H : Hp) (s : Shared) : Prop where
  ok : X.Ok
  os : s.os = X.s₀.os
  bare : AllBare s.gens
  base : Un X.fs X.ex X.H₀ H X.s₀.heap s.heap
  loc : ∃ m, s.heap.Ns X.env.locals m ∧ ∀ (i : Nat) (x : Str) (v : V), X.N[i]? = some x → σ[i]? = some (some v) → Vis X.env.scope x → ∃ u, RelV v u ∧ Look X.env s.heap m x u
  cell : ∀ x c, X.env.cells.lookup x = some c → ∃ v, s.heap.IsCell c v
  free : H X.env.locals = none
  freeC : ∀ x c, X.env.cells.lookup x = some c → H c = none
  pin : ∀ p ∈ X.pn ++ pins, s.heap.get? p.1 = some p.2 ∧ H p.1 = none ∧ p.1 ≠ X.env.locals ∧ p.1 ∉ X.fs ∧ ∀ v, p.2.data ≠ .cell v
  hok : HOk X.prog X.w H s.heap
  len : σ.length = X.N.length

section
variable {X : Cx} {pins : List (Addr × Obj)} {σ : List (Option V)} {H H' : Hp} {s : Shared} {h' : Heap}

theorem Cx.Ok.nofr (ok : X.Ok) {b : Addr} {o : Obj} (e : X.base.get? b = some o) : b ∉ X.fs := fun hb => by
  have := (ok.funs.mem hb).1
  rw [e] at this; cases this
theorem Inv.bs (I : Inv X pins σ H s) : ∀ b o, X.base.get? b = some o → s.heap.get? b = some o ∧ H b = none := fun b o e =>
  ⟨I.base.keep b o (I.ok.bs b o e).1 (I.ok.bs b o e).2 (I.ok.nofr e) (I.ok.noex b o e), I.base.free b o (I.ok.bs b o e).1 (I.ok.bs b o e).2 (I.ok.noex b o e)⟩
theorem Inv.bk (I : Inv X pins σ H s) : ∀ b o, X.base.get? b = some o → s.heap.get? b = some o := fun b o e => (I.bs b o e).1
theorem Inv.mod (I : Inv X pins σ H s) : Mod X.K X.mg X.base := I.ok.mod
theorem Inv.kIn (I : Inv X pins σ H s) : X.K.In s.heap := I.ok.mod.kin.keeps I.bk
theorem Inv.lt (I : Inv X pins σ H s) : X.env.locals < s.heap.objs.size := let ⟨_, hn, _⟩ := I.loc; hn.lt
theorem Inv.sz (I : Inv X pins σ H s) : X.s₀.heap.objs.size ≤ s.heap.objs.size := Nat.le_trans I.ok.above (Nat.le_of_lt I.lt)
theorem Inv.nofs (I : Inv X pins σ H s) {a : Addr} (h : s.heap.objs.size ≤ a) : a ∉ X.fs := fun hb => by
  obtain ⟨_, o, ho, _⟩ := I.ok.funs.mem hb
  exact absurd (Nat.lt_of_lt_of_le (Heap.lt_size ho) (Nat.le_trans I.sz h)) (Nat.lt_irrefl _)
theorem Inv.cne (I : Inv X pins σ H s) : ∀ x c, X.env.cells.lookup x = some c → c ≠ X.env.locals := fun x c e z => by
  obtain ⟨v, o, ho, hd⟩ := I.cell x c e
  obtain ⟨m, ⟨o', es, ep, ho', hd', _⟩, _⟩ := I.loc
  rw [z, ho'] at ho; cases ho; rw [hd'] at hd; cases hd
theorem Inv.funs (I : Inv X pins σ H s) : s.heap.FunFrames X.base X.outer := by
  have all : ∀ (l : List Env), (∀ b ∈ frs l, b ∈ X.fs) → X.s₀.heap.FunFrames X.base l → s.heap.FunFrames X.base l := by
    intro l
    induction l with
    | nil => intro _ _; trivial
    | cons env r ih =>
      intro hs hl
      obtain ⟨hk, ⟨L, o, hf, hn, ho, hd⟩, hr⟩ := hl
      have hL : L ∈ X.fs := hs L (by unfold frs; rw [List.filterMap_cons, hf]; exact List.mem_cons_self)
      obtain ⟨sl, e⟩ := I.base.slot L o ho (I.ok.frf L hL) hL fun z => I.ok.exfs L z hL
      exact ⟨hk, ⟨L, _, hf, hn, e, hd⟩, ih (fun b hb => hs b (by unfold frs; rw [List.filterMap_cons, hf]; exact List.mem_cons_of_mem _ hb)) hr⟩
  exact all X.outer (fun _ hb => hb) I.ok.funs

/-- the frames that run, for a call -/
theorem Inv.stack (I : Inv X pins σ H s) : s.heap.FunFrames X.base X.stack := by
  rcases I.ok.stk with e | ⟨e, hf⟩
  · rw [e]; exact I.funs
  · rw [e]
    obtain ⟨m, hn, _⟩ := I.loc
    refine .cons (by rw [I.ok.kind]; decide) hf hn ?_ I.funs
    exact Heap.get?_none_of_le (Nat.le_trans I.ok.bsz I.ok.above)
theorem Inv.stkSub (I : Inv X pins σ H s) : ∀ b ∈ frs X.stack, b ∈ X.env.locals :: X.fs := fun b hb => by
  rcases I.ok.stk with e | ⟨e, hf⟩
  · rw [e] at hb; exact List.mem_cons_of_mem _ hb
  · rw [e] at hb
    unfold frs at hb
    rw [List.filterMap_cons, hf] at hb
    exact hb
theorem Inv.stkFree (I : Inv X pins σ H s) : ∀ b ∈ frs X.stack, H b = none := fun b hb => by
  rcases List.mem_cons.mp (I.stkSub b hb) with e | hb
  · rw [e]; exact I.free
  · obtain ⟨_, o, ho, _⟩ := I.ok.funs.mem hb
    exact I.base.free b o ho (I.ok.frf b hb) fun z => I.ok.exfs b z hb

/-- THE STEP: the untracked objects but the frame and the records at ch are kept (the callers' frames up to slots), the frame's map is kept, the new abstract heap is held -/
theorem Inv.step {g' : Array GenState} {t' : Nat} {d' : Drawn} {ch : List Addr} (I : Inv X pins σ H s)
    (hch : ∀ b ∈ ch, (b ∈ X.ex ∨ X.s₀.heap.objs.size ≤ b) ∧ b ≠ X.env.locals ∧ (∀ x c, X.env.cells.lookup x = some c → c ≠ b) ∧ ∀ p ∈ X.pn ++ pins, p.1 ≠ b)
    (keep : ∀ b o, b ≠ X.env.locals → b ∉ X.fs → b ∉ ch → s.heap.get? b = some o → H b = none → h'.get? b = some o)
    (slot : ∀ b o, b ≠ X.env.locals → b ∈ X.fs → b ∉ ch → s.heap.get? b = some o → H b = none → ∃ sl, h'.get? b = some { o with slots := sl }) (free : ∀ b o, b ∉ ch → s.heap.get? b = some o → H b = none → H' b = none)
    (there : ∀ b o, b ∉ ch → s.heap.get? b = some o → ∃ o', h'.get? b = some o')
    (tups : ∀ b xs, H b = some (.tup xs) → H' b = some (.tup xs)) (frzs : ∀ b o u, H b = some (.frz o u) → H' b = some (.frz o u)) (tbls : ∀ b ps, H b = some (.tbl ps) → ∃ more, H' b = some (.tbl (ps ++ more)))
    (ns : ∀ m, s.heap.Ns X.env.locals m → h'.Ns X.env.locals m) (hok : HOk X.prog X.w H' h') (hg : AllBare g') :
    Inv X pins σ H' { s with heap := h', gens := g', drawn := d', toks := t' } := by
  have neL : ∀ b o, X.s₀.heap.get? b = some o → b ≠ X.env.locals := fun b o e => Nat.ne_of_lt (Nat.lt_of_lt_of_le (Heap.lt_size e) I.ok.above)
  have neC : ∀ b o, X.s₀.heap.get? b = some o → b ∉ X.ex → b ∉ ch := fun b o e hx hb => by
    rcases (hch b hb).1 with z | z
    · exact hx z
    · exact absurd (Nat.lt_of_lt_of_le (Heap.lt_size e) z) (Nat.lt_irrefl _)
  have cellK : ∀ x c, X.env.cells.lookup x = some c → ∀ v, s.heap.IsCell c v → h'.IsCell c v := fun x c e v ⟨o, ho, hd⟩ => by
    have nch : c ∉ ch := fun z => (hch c z).2.2.1 x c e rfl
    by_cases hc : c ∈ X.fs
    · obtain ⟨sl, q⟩ := slot c o (I.cne x c e) hc nch ho (I.freeC x c e)
      exact ⟨_, q, hd⟩
    · exact ⟨o, keep c o (I.cne x c e) hc nch ho (I.freeC x c e), hd⟩
  refine ⟨I.ok, I.os, hg, ⟨fun b o e n hb hx => ?_, fun b o e n hb hx => ?_, fun b o e n hx => ?_, fun b o e hx => ?_, fun b xs e => tups b xs (I.base.tups b xs e), fun b o xs e => frzs b o xs (I.base.frzs b o xs e), fun b ps e => ?_⟩, ?_, fun x c e => ?_, ?_, fun x c e => ?_, fun p hp => ?_, hok, I.len⟩
  · exact keep b o (neL b o e) hb (neC b o e hx) (I.base.keep b o e n hb hx) (I.base.free b o e n hx)
  · obtain ⟨sl, e1⟩ := I.base.slot b o e n hb hx
    obtain ⟨sl', e2⟩ := slot b _ (neL b o e) hb (neC b o e hx) e1 (I.base.free b o e n hx)
    exact ⟨sl', e2⟩
  · obtain ⟨o', e1⟩ := I.base.there b o e hx
    exact free b o' (neC b o e hx) e1 (I.base.free b o e n hx)
  · obtain ⟨o', e1⟩ := I.base.there b o e hx
    exact there b o' (neC b o e hx) e1
  · obtain ⟨m1, e1⟩ := I.base.tbls b ps e
    obtain ⟨m2, e2⟩ := tbls b _ e1
    exact ⟨m1 ++ m2, by rw [e2, Array.append_assoc]⟩
  · obtain ⟨m, hn, hl⟩ := I.loc
    refine ⟨m, ns m hn, fun i x v e1 e2 e3 => ?_⟩
    obtain ⟨u, r, l⟩ := hl i x v e1 e2 e3
    refine ⟨u, r, ?_⟩
    rcases l with l | ⟨k, c, e, z⟩
    · exact .inl l
    · exact .inr ⟨k, c, e, cellK x c e _ z⟩
  · obtain ⟨v, z⟩ := I.cell x c e
    exact ⟨v, cellK x c e v z⟩
  · obtain ⟨m, ⟨o, _, _, ho, _⟩, _⟩ := I.loc
    exact free _ o (fun z => (hch _ z).2.1 rfl) ho I.free
  · obtain ⟨v, o, ho, hd⟩ := I.cell x c e
    exact free c o (fun z => (hch c z).2.2.1 x c e rfl) ho (I.freeC x c e)
  · obtain ⟨e, n, ne, nf, d⟩ := I.pin p hp
    have nch : p.1 ∉ ch := fun z => (hch p.1 z).2.2.2 p hp rfl
    exact ⟨keep p.1 p.2 ne nf nch e n, free p.1 p.2 nch e n, ne, nf, d⟩
/-- .. where the frame's own object is kept too -/
theorem Inv.un {t' : Nat} (I : Inv X pins σ H s) (u : Un X.fs [] H H' s.heap h') (hok : HOk X.prog X.w H' h') : Inv X pins σ H' { s with heap := h', toks := t' } := by
  obtain ⟨m, ⟨o, es, ep, ho, r⟩, _⟩ := id I.loc
  obtain ⟨sl, hL⟩ := u.any ho I.free (by simp)
  exact I.step (g' := s.gens) (d' := s.drawn) (ch := []) (fun _ z => nomatch z) (fun b o _ hb _ e n => u.keep b o e n hb (by simp)) (fun b o _ hb _ e n => u.slot b o e n hb (by simp)) (fun b o _ e n => u.free b o e n (by simp)) (fun b o _ e => u.there b o e (by simp)) u.tups u.frzs u.tbls (fun m' hm => by
    obtain ⟨o', es', ep', ho', r'⟩ := hm
    rw [ho] at ho'; cases ho'
    exact ⟨_, es', ep', hL, r'⟩) hok I.bare
/-- behind a call (or a comprehension's block): the slots of this frame may have changed too, the records at ch may have turned -/
theorem Inv.call {g' : Array GenState} {t' : Nat} {d' : Drawn} {ch : List Addr} (I : Inv X pins σ H s) (u : Un (frs X.stack) ch H H' s.heap h') (hok : HOk X.prog X.w H' h') (hg : AllBare g')
    (hch : ∀ b ∈ ch, (b ∈ X.ex ∨ X.s₀.heap.objs.size ≤ b) ∧ b ≠ X.env.locals ∧ (∀ x c, X.env.cells.lookup x = some c → c ≠ b) ∧ ∀ p ∈ X.pn ++ pins, p.1 ≠ b) :
    Inv X pins σ H' { s with heap := h', gens := g', drawn := d', toks := t' } := by
  obtain ⟨m, ⟨o, es, ep, ho, r⟩, _⟩ := id I.loc
  obtain ⟨sl, hL⟩ := u.any ho I.free fun z => (hch _ z).2.1 rfl
  exact I.step (ch := ch) hch (fun b o hL hb hc e n => u.keep b o e n (fun z => (List.mem_cons.mp (I.stkSub b z)).elim hL hb) hc) (fun b o _ _ hc e n => u.any e n hc) (fun b o hc e n => u.free b o e n hc) (fun b o hc e => u.there b o e hc) u.tups u.frzs u.tbls (fun m' hm => by
    obtain ⟨o', es', ep', ho', r'⟩ := hm
    rw [ho] at ho'; cases ho'
    exact ⟨_, es', ep', hL, r'⟩) hok hg
/-- an untracked record of ours (an iterator) has turned -/
theorem Inv.turned {t' : Nat} {it : Addr} (I : Inv X pins σ H s) (k : ∀ b o, b ≠ it → s.heap.get? b = some o → h'.get? b = some o) (hn : H it = none) (hL : it ≠ X.env.locals)
    (h1 : it ∈ X.ex ∨ X.s₀.heap.objs.size ≤ it) (h2 : ∀ x c, X.env.cells.lookup x = some c → c ≠ it) (h3 : ∀ p ∈ X.pn ++ pins, p.1 ≠ it) : Inv X pins σ H { s with heap := h', toks := t' } := by
  have nit : ∀ b u, H b = some u → b ≠ it := fun b u e z => by rw [z, hn] at e; cases e
  refine I.step (g' := s.gens) (d' := s.drawn) (ch := [it]) (fun b hb => ?_) (fun b o _ _ hc e _ => k b o (fun z => hc (by simp [z])) e) (fun b o _ _ hc e _ => ⟨o.slots, k b o (fun z => hc (by simp [z])) e⟩) (fun _ _ _ _ n => n)
    (fun b o hc e => ⟨o, k b o (fun z => hc (by simp [z])) e⟩) (fun _ _ e => e) (fun _ _ _ e => e) (fun b ps e => ⟨#[], by rw [e]; simp⟩) (fun m hm => ?_) (fun b u e => ?_) I.bare
  · have e : b = it := by simpa using hb
    subst e
    exact ⟨h1, hL, h2, h3⟩
  · obtain ⟨o, es, ep, ho, r⟩ := hm
    exact ⟨o, es, ep, k _ o (Ne.symm hL) ho, r⟩
  · refine (I.hok b u e).stay (fun c v hc q => k c v ?_ q) (fun _ q => q) fun _ _ q => q
    rcases hc with z | z
    · rw [z]; exact nit b u e
    · exact nit c _ z
theorem Inv.tok (I : Inv X pins σ H s) (t : Nat) : Inv X pins σ H { s with toks := t } := I.un (h' := s.heap) (t' := t) Un.refl I.hok
/-- all objects kept -/
theorem Inv.kept {t' : Nat} (I : Inv X pins σ H s) (k : ∀ b u, s.heap.get? b = some u → h'.get? b = some u) : Inv X pins σ H { s with heap := h', toks := t' } := I.un (Un.kept k) (I.hok.kept k)
/-- a new object laid and tracked -/
theorem Inv.laid {a : Addr} {o : HO} {t' : Nat} (I : Inv X pins σ H s) (k : ∀ b u, s.heap.get? b = some u → h'.get? b = some u) (hp : s.heap.objs.size ≤ a) (new : ObjOk X.prog X.w (upd H a o) h' a o) :
    Inv X pins σ (upd H a o) { s with heap := h', toks := t' } := I.un (Un.laid k hp (I.hok.fresh hp)) (I.hok.laid k hp new)
/-- an object written -/
theorem Inv.write {x e : Addr} {o : HO} {t' : Nat} (I : Inv X pins σ H s) (mu : Mut (H x)) (he : e = x ∨ H e = some (.own x)) (k : ∀ b u, b ≠ e → s.heap.get? b = some u → h'.get? b = some u) (heo : ∃ u, h'.get? e = some u)
    (new : ObjOk X.prog X.w (upd H x o) h' x o) : Inv X pins σ (upd H x o) { s with heap := h', toks := t' } := I.un (Un.write mu he k heo) (I.hok.write mu he k heo new)
theorem Inv.pins_of {pins' : List (Addr × Obj)} (I : Inv X pins σ H s) (h : ∀ p ∈ pins', s.heap.get? p.1 = some p.2 ∧ H p.1 = none ∧ p.1 ≠ X.env.locals ∧ p.1 ∉ X.fs ∧ ∀ v, p.2.data ≠ .cell v) : Inv X pins' σ H s :=
  ⟨I.ok, I.os, I.bare, I.base, I.loc, I.cell, I.free, I.freeC, fun p hp => (List.mem_append.mp hp).elim (fun z => I.pin p (List.mem_append_left _ z)) (h p), I.hok, I.len⟩

theorem nodup_ix {N : List Str} (hN : N.Nodup) {i j : Nat} {x : Str} (a : N[i]? = some x) (b : N[j]? = some x) : i = j := by
  obtain ⟨h1, e1⟩ := List.getElem?_eq_some_iff.mp a
  obtain ⟨h2, e2⟩ := List.getElem?_eq_some_iff.mp b
  exact (List.getElem_inj hN).mp (e1.trans e2.symm)

/-- a name is stored; what changed -/
theorem store_ok2 {M : Model} {A : Around} {E : Value → Shared → Prop} {i : Nat} {x : Str} {v : V} {u : Value} {Q : Unit → Shared → Prop} (I : Inv X pins σ H s) (hN : X.N.Nodup) (hi : X.N[i]? = some x) (hx : Loc X.env.scope x) (r : RelV v u)
    (h : ∀ s', Inv X pins (σ.set i (some v)) H s' → (∃ a, Heap.SameBut a s.heap s'.heap ∧ (a = X.env.locals ∨ X.env.cells.lookup x = some a)) → Q () s') (hf : X.fn x = true ∨ X.env.scope.names.lookup x = some .local := by first | exact .inl rfl | exact .inr rfl | assumption) : wpAny M A (storeName X.env x u) Q E s := by
  obtain ⟨m, hn, hl⟩ := id I.loc
  have hcls : (X.env.scope.kind == .class || (X.env.scope.kind == .module && X.env.locals != X.env.globals)) = false := by rw [I.ok.kind]; rfl
  have hiσ : i < σ.length := by rw [I.len]; exact (List.getElem?_eq_some_iff.mp hi).1
  have cne := I.cne
  have tracked : ∀ {a : Addr} {h' : Heap}, (∃ o, s.heap.get? a = some o ∧ H a = none) → Heap.SameBut a s.heap h' → HOk X.prog X.w H h' := fun {a h'} ha hs b ob e => by
    obtain ⟨_, _, hfree⟩ := ha
    refine (I.hok b ob e).stay (fun c w' hc q => (hs.2 c ?_).trans q) (fun _ q => q) fun _ _ q => q
    rintro rfl
    rcases hc with rfl | hc
    · rw [hfree] at e; cases e
    · rw [hfree] at hc; cases hc
  rcases hx with hk | hk
  · refine wpAny_storeName_local hk hn (fun h' hn' hs => ?_) hcls
    obtain ⟨oL, _, _, hoL, _⟩ := id hn
    refine h _ ⟨I.ok, I.os, I.bare, ⟨fun b o e n hb hx => ?_, fun b o e n hb hx => ?_, I.base.free, fun b o e hx => ?_, I.base.tups, I.base.frzs, I.base.tbls⟩, ⟨_, hn', fun j y v' e1 e2 e3 => ?_⟩, fun y c e => ?_, I.free, I.freeC, fun p hp => ?_, tracked ⟨oL, hoL, I.free⟩ hs, by simpa using I.len⟩ ⟨_, hs, .inl rfl⟩
    · exact (hs.2 b (Nat.ne_of_lt (Nat.lt_of_lt_of_le (Heap.lt_size e) I.ok.above))).trans (I.base.keep b o e n hb hx)
    · obtain ⟨sl, e1⟩ := I.base.slot b o e n hb hx
      exact ⟨sl, (hs.2 b (Nat.ne_of_lt (Nat.lt_of_lt_of_le (Heap.lt_size e) I.ok.above))).trans e1⟩
    · obtain ⟨o', e1⟩ := I.base.there b o e hx
      exact ⟨o', (hs.2 b (Nat.ne_of_lt (Nat.lt_of_lt_of_le (Heap.lt_size e) I.ok.above))).trans e1⟩
    · by_cases hj : j = i
      · subst hj
        rw [hi] at e1; cases e1
        rw [List.getElem?_set_self hiσ] at e2
        cases e2
        exact ⟨u, r, .inl ⟨hk, by simp⟩⟩
      · rw [List.getElem?_set_ne (Ne.symm hj)] at e2
        obtain ⟨u', r', q⟩ := hl j y v' e1 e2 e3
        refine ⟨u', r', ?_⟩
        rcases q with ⟨k, e⟩ | ⟨k, c, e, z⟩
        · refine .inl ⟨k, ?_⟩
          have : y ≠ x := fun e => hj (nodup_ix hN e1 (e ▸ hi))
          simp [this, e]
        · exact .inr ⟨k, c, e, z.sameBut hs (cne y c e)⟩
    · obtain ⟨w', z⟩ := I.cell y c e
      exact ⟨w', z.sameBut hs (cne y c e)⟩
    · obtain ⟨e, n, ne, nf, d⟩ := I.pin p hp
      exact ⟨(hs.2 p.1 ne).trans e, n, ne, nf, d⟩
  · have hfn : X.fn x = true := by
      rcases hf with z | z
      · exact z
      · rw [z] at hk; cases hk
    obtain ⟨c, hc⟩ := I.ok.has x (.inl hk)
    obtain ⟨w', z⟩ := I.cell x c hc
    refine wpAny_storeName_cell I.ok.kind hk hc z (fun h' hc' hs => ?_)
    obtain ⟨oc, hoc, hocd⟩ := id z
    refine h { s with heap := h' } ⟨I.ok, I.os, I.bare, ⟨fun b o e n hb hx => ?_, fun b o e n hb hx => ?_, I.base.free, fun b o e hx => ?_, I.base.tups, I.base.frzs, I.base.tbls⟩, ⟨m, hn.sameBut hs (Ne.symm (cne x c hc)), fun j y v' e1 e2 e3 => ?_⟩, fun y c' e => ?_, I.free, I.freeC, fun p hp => ?_, tracked ⟨oc, hoc, I.freeC x c hc⟩ hs, by simpa using I.len⟩ ⟨c, hs, .inr hc⟩
    · exact (hs.2 b (Nat.ne_of_lt (Nat.lt_of_lt_of_le (Heap.lt_size e) (I.ok.cab x c hfn hc)))).trans (I.base.keep b o e n hb hx)
    · obtain ⟨sl, e1⟩ := I.base.slot b o e n hb hx
      exact ⟨sl, (hs.2 b (Nat.ne_of_lt (Nat.lt_of_lt_of_le (Heap.lt_size e) (I.ok.cab x c hfn hc)))).trans e1⟩
    · obtain ⟨o', e1⟩ := I.base.there b o e hx
      exact ⟨o', (hs.2 b (Nat.ne_of_lt (Nat.lt_of_lt_of_le (Heap.lt_size e) (I.ok.cab x c hfn hc)))).trans e1⟩
    · by_cases hj : j = i
      · subst hj
        rw [hi] at e1; cases e1
        rw [List.getElem?_set_self hiσ] at e2
        cases e2
        exact ⟨u, r, .inr ⟨.inl hk, c, hc, hc'⟩⟩
      · rw [List.getElem?_set_ne (Ne.symm hj)] at e2
        obtain ⟨u', r', q⟩ := hl j y v' e1 e2 e3
        refine ⟨u', r', ?_⟩
        rcases q with q | ⟨k, c', e, z'⟩
        · exact .inl q
        · refine .inr ⟨k, c', e, z'.sameBut hs ?_⟩
          rintro rfl
          exact hj (nodup_ix hN e1 (I.ok.inj _ _ _ e hc ▸ hi))
    · by_cases hcc : c' = c
      · subst hcc; exact ⟨_, hc'⟩
      · obtain ⟨w2, z2⟩ := I.cell y c' e
        exact ⟨w2, z2.sameBut hs hcc⟩
    · obtain ⟨e, n, ne, nf, d⟩ := I.pin p hp
      refine ⟨(hs.2 p.1 ?_).trans e, n, ne, nf, d⟩
      intro q
      rw [q, hoc] at e
      have q' : oc = p.2 := Option.some.inj e
      exact d w' (by rw [← q']; exact hocd)
theorem store_ok {M : Model} {A : Around} {E : Value → Shared → Prop} {i : Nat} {x : Str} {v : V} {u : Value} {Q : Unit → Shared → Prop} (I : Inv X pins σ H s) (hN : X.N.Nodup) (hi : X.N[i]? = some x) (hx : Loc X.env.scope x) (r : RelV v u)
    (h : ∀ s', Inv X pins (σ.set i (some v)) H s' → Q () s') (hf : X.fn x = true ∨ X.env.scope.names.lookup x = some .local := by first | exact .inl rfl | exact .inr rfl | assumption) : wpAny M A (storeName X.env x u) Q E s :=
  store_ok2 I hN hi hx r (fun s' I' _ => h s' I') hf
/-- behind a call or a block, the state as it is -/
theorem Inv.call' {s' : Shared} {ch : List Addr} (I : Inv X pins σ H s) (ho : s'.os = s.os) (u : Un (frs X.stack) ch H H' s.heap s'.heap) (hok : HOk X.prog X.w H' s'.heap) (hg : AllBare s'.gens)
    (hch : ∀ b ∈ ch, (b ∈ X.ex ∨ X.s₀.heap.objs.size ≤ b) ∧ b ≠ X.env.locals ∧ (∀ x c, X.env.cells.lookup x = some c → c ≠ b) ∧ ∀ p ∈ X.pn ++ pins, p.1 ≠ b) : Inv X pins σ H' s' := by
  obtain ⟨h', g', d', t', o'⟩ := s'
  have e : o' = s.os := ho
  subst e
  exact I.call (g' := g') (t' := t') (d' := d') u hok hg hch
end

/-! ### the judgements -/
/-- an exception: its class, its own dict's address (where it has one), the abstract heap behind it -/
abbrev XK := Value → Option Addr → Hp → Prop
abbrev St := List (Option V)
abbrev VK := V → Hp → Prop
/-- an expression's reading; a test's; an argument list's -/
abbrev TE := St → Hp → VK → Prop
abbrev TT := St → Hp → (Bool → Hp → Prop) → Prop
abbrev TA := St → Hp → (List V → Hp → Prop) → Prop
/-- what is wanted behind a statement -/
structure Ends where
  nx : St → Hp → Prop
  rt : VK
  bk : St → Hp → Prop := fun _ _ => False
  ct : St → Hp → Prop := fun _ _ => False
abbrev TS := Ends → St → Hp → Prop

def EP (X : Cx) (pins : List (Addr × Obj)) (σ : St) (Q : VK) (u : Value) (s' : Shared) : Prop := ∃ v H', Inv X pins σ H' s' ∧ RelV v u ∧ Q v H'
def TP (X : Cx) (pins : List (Addr × Obj)) (σ : St) (Q : Bool → Hp → Prop) (b : Bool) (s' : Shared) : Prop := ∃ H', Inv X pins σ H' s' ∧ Q b H'
def AP (X : Cx) (pins : List (Addr × Obj)) (σ : St) (Q : List V → Hp → Prop) (us : List Value) (s' : Shared) : Prop := ∃ vs H', Inv X pins σ H' s' ∧ Vals vs us ∧ Q vs H'
def SP (X : Cx) (pins : List (Addr × Obj)) (D : Ends) (f : Flow) (s' : Shared) : Prop :=
  match f with
  | .next => ∃ σ' H', Inv X pins σ' H' s' ∧ D.nx σ' H'
  | .brk => ∃ σ' H', Inv X pins σ' H' s' ∧ D.bk σ' H'
  | .cont => ∃ σ' H', Inv X pins σ' H' s' ∧ D.ct σ' H'
  | .ret u => ∃ v σ' H', Inv X pins σ' H' s' ∧ RelV v u ∧ D.rt v H'

def PE (X : Cx) (e : Expr) (t : TE) : Prop :=
  ∀ (pins : List (Addr × Obj)) (s : Shared) (σ : St) (H : Hp) (Q : VK), Inv X pins σ H s → t σ H Q → wpAny (model X.prog X.w) X.A (eval e X.env) (EP X pins σ Q) X.xe s
def PT (X : Cx) (e : Expr) (t : TT) : Prop :=
  ∀ (pins : List (Addr × Obj)) (s : Shared) (σ : St) (H : Hp) (Q : Bool → Hp → Prop), Inv X pins σ H s → t σ H Q → wpAny (model X.prog X.w) X.A (isTrue e X.env (eval e X.env)) (TP X pins σ Q) X.xe s
/-- a test whatever its 'whole' is (and, or) -/
def PW (X : Cx) (e : Expr) (t : TT) : Prop :=
  ∀ (whole : Sem Value) (pins : List (Addr × Obj)) (s : Shared) (σ : St) (H : Hp) (Q : Bool → Hp → Prop), Inv X pins σ H s → t σ H Q → wpAny (model X.prog X.w) X.A (isTrue e X.env whole) (TP X pins σ Q) X.xe s
theorem PW.pt {X : Cx} {e : Expr} {t : TT} (h : PW X e t) : PT X e t := h _
/-- an argument list (no star), from the left -/
def PA (X : Cx) (es : List Expr) (t : TA) : Prop :=
  ∀ (pos : Pos) (pins : List (Addr × Obj)) (s : Shared) (σ : St) (H : Hp) (Q : List V → Hp → Prop), Inv X pins σ H s → t σ H Q → wpAny (model X.prog X.w) X.A (spliced (backTo pos (starEach es X.env))) (AP X pins σ Q) X.xe s
def PS (X : Cx) (st : Stmt) (t : TS) : Prop :=
  ∀ (pins : List (Addr × Obj)) (s : Shared) (σ : St) (H : Hp) (D : Ends), Inv X pins σ H s → t D σ H → wpAny (model X.prog X.w) X.A (exec st X.env) (SP X pins D) X.xe s
def PSs (X : Cx) (st : List Stmt) (t : TS) : Prop :=
  ∀ (pins : List (Addr × Obj)) (s : Shared) (σ : St) (H : Hp) (D : Ends), Inv X pins σ H s → t D σ H → wpAny (model X.prog X.w) X.A (execs st X.env) (SP X pins D) X.xe s
/-- weaken the end -/
theorem thn {α : Type} {t : Sem α} {Q Q' : α → Shared → Prop} {M : Model} {A : Around} {E : Value → Shared → Prop} {s : Shared} (h : wpAny M A t Q E s) (hQ : ∀ a s, Q a s → Q' a s) : wpAny M A t Q' E s := wpAny_mono h hQ fun _ _ x => x
end L2

namespace L2
open PySem PySem.Spec PyProof.Rows
section
variable {X : Cx}

/-- two expressions in a row -/
theorem bin {a b : Expr} {ta tb : TE} (ha : PE X a ta) (hb : PE X b tb) {pins : List (Addr × Obj)} {s : Shared} {σ : St} {H : Hp} {R : V → V → Hp → Prop} (I : Inv X pins σ H s) (h : ta σ H fun x H1 => tb σ H1 fun y H2 => R x y H2)
    {α : Type} {Q : α → Shared → Prop} {f : Value → Value → Sem α}
    (hf : ∀ v u s2 x y H2, Inv X pins σ H2 s2 → RelV x v → RelV y u → R x y H2 → wpAny (model X.prog X.w) X.A (f v u) Q X.xe s2) :
    wpAny (model X.prog X.w) X.A (eval a X.env) (fun v s₁ => wpAny (model X.prog X.w) X.A (eval b X.env) (fun u s₂ => wpAny (model X.prog X.w) X.A (f v u) Q X.xe s₂) X.xe s₁) X.xe s := by
  refine thn (ha pins s σ H _ I h) fun v s1 ⟨x, H1, I1, r1, q1⟩ => ?_
  refine thn (hb pins s1 σ H1 _ I1 q1) fun u s2 ⟨y, H2, I2, r2, q2⟩ => ?_
  exact hf v u s2 x y H2 I2 r1 r2 q2

/-! ### names and constants -/
def tVar (i : Nat) : TE := fun σ H Q => ∃ v, σ[i]? = some (some v) ∧ Q v H
def tC (v : V) : TE := fun _ H Q => Q v H
theorem pe_var {i : Nat} {x : Str} {pos : Pos} (hN : X.N[i]? = some x) (hv : Vis X.env.scope x) (hd : (x == ("__debug__" : Str)) = false := by decide) (hcd : (x == ("__classdict__" : Str)) = false := by decide) : PE X (.Name x pos) (tVar i) := by
  intro pins s σ H Q I h
  obtain ⟨v, e, h⟩ := h
  obtain ⟨m, hn, hl⟩ := I.loc
  obtain ⟨u, r, l⟩ := hl i x v hN e hv
  have fin : EP X pins σ Q u s := ⟨v, H, I, r, h⟩
  rcases l with ⟨hk, hm⟩ | ⟨hk, c, hc, hcell⟩
  · exact wpAny_Name (wpAny_loadName_local I.ok.kind hk hn hm fin) hd
  · rcases hk with hk | hk
    · exact wpAny_Name (wpAny_loadName_cell I.ok.kind hk hc hcell fin) hd
    · exact wpAny_Name (wpAny_loadName_free I.ok.kind hk hc hcell fin hcd) hd
theorem pe_int {i j pos} : PE X (.Constant (.int i) j pos) (tC (.int i)) := fun _ _ _ H _ I h => wpAny_Constant_int ⟨.int i, H, I.tok _, ⟨_, rfl⟩, h⟩
theorem pe_bl {b j pos} : PE X (.Constant (.bool b) j pos) (tC (.bl b)) := fun _ _ _ H _ I h => Constant_bool ⟨.bl b, H, I, rfl, h⟩
theorem pe_non {j pos} : PE X (.Constant .none j pos) (tC .non) := fun _ _ _ H _ I h => Constant_none ⟨.non, H, I, rfl, h⟩
theorem pe_str {x j pos} : PE X (.Constant (.str x) j pos) (tC (.str x)) := fun _ _ _ H _ I h => Calls.Constant_str ⟨.str x, H, I.tok _, ⟨_, rfl⟩, h⟩

/-- a global name of the def -/
def Gl (X : Cx) (x : Str) : Prop := X.env.kindOf x = some .globalImplicit
theorem ld_glob {E : Value → Shared → Prop} {pins : List (Addr × Obj)} {s : Shared} {σ : St} {H : Hp} {x : Str} {u : Value} {pos : Pos} {Q : Value → Shared → Prop} (I : Inv X pins σ H s) (hg : Gl X x) (hm : X.mg x = some u) (h : Q u s)
    (hd : (x == ("__debug__" : Str)) = false := by decide) : wpAny (model X.prog X.w) X.A (eval (.Name x pos) X.env) Q E s :=
  Calls.Name_function_global I.ok.kind hg (Calls.loadGlobal_global (by rw [I.ok.glob]; exact I.mod.glob.keeps I.bk) hm h) hd
theorem ld_blt {E : Value → Shared → Prop} {pins : List (Addr × Obj)} {s : Shared} {σ : St} {H : Hp} {x : Str} {u : Value} {pos : Pos} {Q : Value → Shared → Prop} (I : Inv X pins σ H s) (hg : Gl X x) (hm : X.mg x = none) (hv : bootBuiltins x = some u) (h : Q u s)
    (hn : x ≠ "__name__" := by decide) (hd : (x == ("__debug__" : Str)) = false := by decide) : wpAny (model X.prog X.w) X.A (eval (.Name x pos) X.env) Q E s := by
  obtain ⟨mb, h1, h2⟩ := I.mod.blt
  exact Calls.Name_function_global I.ok.kind hg (Calls.loadGlobal_builtin (by rw [I.ok.glob]; exact I.mod.glob.keeps I.bk) hm (by rw [I.ok.blt]; exact h1.keeps I.bk) ((h2 x hn).trans hv) h) hd
/-- a module's constant, a class, a function, as a value -/
theorem pe_glob {x : Str} {v : V} {u : Value} {pos : Pos} (hg : Gl X x) (hm : X.mg x = some u) (r : RelV v u) (hd : (x == ("__debug__" : Str)) = false := by decide) : PE X (.Name x pos) (tC v) :=
  fun _ _ _ H _ I h => ld_glob I hg hm ⟨v, H, I, r, h⟩ hd
theorem pe_bltn {x : Str} {v : V} {u : Value} {pos : Pos} (hg : Gl X x) (hm : X.mg x = none) (hv : bootBuiltins x = some u) (r : RelV v u) (hn : x ≠ "__name__" := by decide) (hd : (x == ("__debug__" : Str)) = false := by decide) : PE X (.Name x pos) (tC v) :=
  fun _ _ _ H _ I h => ld_blt I hg hm hv ⟨v, H, I, r, h⟩ hn hd

/-! ### arithmetic -/
variable {a b : Expr} {ta tb : TE} {pos : Pos}

/-! ### comparisons -/
def PC (X : Cx) (op : CmpOp) (a b : Expr) (t : TE) : Prop :=
  ∀ (pins : List (Addr × Obj)) (s : Shared) (σ : St) (H : Hp) (Q : VK), Inv X pins σ H s → t σ H Q →
    wpAny (model X.prog X.w) X.A (eval a X.env) (fun v s₁ => wpAny (model X.prog X.w) X.A (eval b X.env) (fun u s₂ => wpAny (model X.prog X.w) X.A (compareOp op v u) (EP X pins σ Q) X.xe s₂) X.xe s₁) X.xe s
/-- a comparison as a value, as a test -/
def tB (t : TE) : TT := fun σ H Q => t σ H fun x H1 => ∃ c, x = .bl c ∧ Q c H1
theorem pt_cmp {op : CmpOp} {t : TE} (h : PC X op a b t) (h1 : behindInMarks op b = false := by first | exact nobehind _ (by decide) (by decide) | rfl) : PT X (.Compare a [op] [b] pos) (tB t) := by
  intro pins s σ H Q I hw
  refine wpAny_isTrue_Compare1 (thn (h pins s σ H _ I hw) fun v s1 h1 => thn h1 fun u s2 h2 => thn h2 fun c s3 ⟨x, H1, I1, r1, q1⟩ => ?_) h1
  obtain ⟨d, rfl, q⟩ := q1
  cases r1
  exact wpAny_truthy_bool ⟨H1, I1, q⟩
/-- an expression whose value is a bool, as a test -/
theorem pt_val {e : Expr} {t : TE} (h : PE X e t) (he : ∀ whole, isTrue e X.env whole = (do let v ← whole; standAt e.pos; holding [v] (truthy v)) := by intro _; rfl) : PT X e (tB t) := by
  intro pins s σ H Q I hw
  refine isTrue_plain (thn (h pins s σ H _ I hw) fun v s1 ⟨x, H1, I1, r1, q1⟩ => ?_) (he _)
  obtain ⟨d, rfl, q⟩ := q1
  cases r1
  exact wpAny_truthy_bool ⟨H1, I1, q⟩

/-! ### and, or, not -/
variable {tA tB' : TT} {rest : List Expr}
def tAnd (t u : TT) : TT := fun σ H Q => t σ H fun c H1 => if c = true then u σ H1 Q else Q false H1
def tOr (t u : TT) : TT := fun σ H Q => t σ H fun c H1 => if c = true then Q true H1 else u σ H1 Q
def tNot (t : TT) : TT := fun σ H Q => t σ H fun c H1 => Q (!c) H1
theorem pw_and1 (ha : PT X a tA) : PW X (.BoolOp .And [a] pos) tA := by
  intro wh pins s σ H Q I h
  refine isTrue_and (thn (ha pins s σ H Q I h) fun c s1 e => ?_)
  cases c with
  | true => exact isTrue_and_nil e
  | false => exact e
theorem pw_or1 (ha : PT X a tA) : PW X (.BoolOp .Or [a] pos) tA := by
  intro wh pins s σ H Q I h
  refine isTrue_or (thn (ha pins s σ H Q I h) fun c s1 e => ?_)
  cases c with
  | false => exact isTrue_or_nil e
  | true => exact e
theorem pw_and (ha : PT X a tA) (hb : PW X (.BoolOp .And (b :: rest) pos) tB') : PW X (.BoolOp .And (a :: b :: rest) pos) (tAnd tA tB') := by
  intro wh pins s σ H Q I h
  refine isTrue_and (thn (ha pins s σ H _ I h) fun c s1 ⟨H1, I1, q1⟩ => ?_)
  cases c with
  | true => exact hb wh pins s1 σ H1 Q I1 q1
  | false => exact ⟨H1, I1, q1⟩
theorem pw_or (ha : PT X a tA) (hb : PW X (.BoolOp .Or (b :: rest) pos) tB') : PW X (.BoolOp .Or (a :: b :: rest) pos) (tOr tA tB') := by
  intro wh pins s σ H Q I h
  refine isTrue_or (thn (ha pins s σ H _ I h) fun c s1 ⟨H1, I1, q1⟩ => ?_)
  cases c with
  | true => exact ⟨H1, I1, q1⟩
  | false => exact hb wh pins s1 σ H1 Q I1 q1
theorem pt_not (ha : PT X a tA) : PT X (.UnaryOp .Not a pos) (tNot tA) := by
  intro pins s σ H Q I h
  exact isTrue_not (ha pins s σ H (fun c H1 => Q (!c) H1) I h)
def tNotV (ta : TE) : TE := fun σ H Q => ta σ H fun x H1 => ∃ c, x = .bl c ∧ Q (.bl (!c)) H1
theorem pe_not (ha : PE X a ta) : PE X (.UnaryOp .Not a pos) (tNotV ta) := by
  intro pins s σ H Q I h
  refine UnaryOp_ (thn (ha pins s σ H _ I h) fun v s1 ⟨x, H1, I1, r1, q1⟩ => ?_)
  obtain ⟨c, rfl, q1⟩ := q1
  cases r1
  exact not_of (wpAny_truthy_bool ⟨.bl (!c), H1, I1, rfl, q1⟩)
/-- a if t else b -/
def tIf (t : TT) (ta tb : TE) : TE := fun σ H Q => t σ H fun c H1 => if c = true then ta σ H1 Q else tb σ H1 Q
theorem pe_ifExp {c : Expr} (hc : PT X c tA) (ha : PE X a ta) (hb : PE X b tb) : PE X (.IfExp c a b pos) (tIf tA ta tb) := by
  intro pins s σ H Q I h
  refine wpAny_IfExp (thn (hc pins s σ H _ I h) fun d s1 ⟨H1, I1, q1⟩ => ?_)
  cases d with
  | true => exact ha pins s1 σ H1 Q I1 q1
  | false => exact hb pins s1 σ H1 Q I1 q1
end
end L2

namespace L2
open PySem PySem.Spec PyProof.Rows

/-! ### a list, a tuple that is read: tracked, frozen, or an object of the module -/
def SqL (K : PySem.W.Frag) (H : Hp) (a : Addr) (xs : List V) : Prop :=
  Rd H a (.lst xs) ∨
    ∃ (o : Obj) (its : Array Value) (n : Nat), K.lookup a = some o ∧ o.cls = .type "list" ∧ o.dict = none ∧ o.data = .seq its n ∧ its.size ≤ sizeLine ∧ Vals xs its.toList
def SqT (K : PySem.W.Frag) (H : Hp) (a : Addr) (xs : List V) : Prop :=
  Rd H a (.tup xs) ∨
    ∃ (o : Obj) (its : Array Value) (n : Nat), K.lookup a = some o ∧ o.cls = .type "tuple" ∧ o.data = .seq its n ∧ its.size ≤ sizeLine ∧ Vals xs its.toList
def absV : Value → Option V
  | .none => some .non
  | .bool b => some (.bl b)
  | .int i _ => some (.int i)
  | .str x _ => some (.str x)
  | .bytes b _ => some (.byt b)
  | .float b _ => some (.flt b)
  | .ref a => some (.ref a)
  | .type n => some (.ty n)
  | _ => none
theorem RelV.abs {x : V} {u : Value} (r : RelV x u) : absV u = some x := by
  cases x with
  | non => cases r; rfl
  | bl _ => cases r; rfl
  | int _ => obtain ⟨t, rfl⟩ := r; rfl
  | str _ => obtain ⟨t, rfl⟩ := r; rfl
  | byt _ => obtain ⟨t, rfl⟩ := r; rfl
  | flt _ => obtain ⟨t, rfl⟩ := r; rfl
  | ref _ => cases r; rfl
  | ty _ => cases r; rfl
theorem RelV.inj {x y : V} {u : Value} (r : RelV x u) (q : RelV y u) : x = y := Option.some.inj (r.abs.symm.trans q.abs)
theorem Vals.inj : ∀ {xs ys : List V} {us : List Value}, Vals xs us → Vals ys us → xs = ys
  | _, _, _, .nil, .nil => rfl
  | _, _, _, .cons r t, .cons r' t' => by rw [r.inj r', Vals.inj t t']
section
variable {X : Cx} {pins : List (Addr × Obj)} {σ : St} {H : Hp} {s : Shared} {a : Addr} {xs ys : List V}
theorem SqL.of {K : PySem.W.Frag} (h : H a = some (.lst xs)) : SqL K H a xs := .inl (.inl h)
theorem SqT.of {K : PySem.W.Frag} (h : H a = some (.tup xs)) : SqT K H a xs := .inl (.inl h)
theorem Inv.list (I : Inv X pins σ H s) (h : SqL X.K H a xs) : ∃ its : List Value, Vals xs its ∧ PlainL s.heap a its.toArray ∧ xs.length ≤ sizeLine := by
  rcases h with h | ⟨o, its, n, hk, hc, hd, hs, hz, r⟩
  · obtain ⟨z, its, n, r, e⟩ := h.ok I.hok
    exact ⟨its, r, ⟨_, n, e, rfl, rfl, rfl⟩, z⟩
  · refine ⟨its.toList, r, ⟨o, n, I.kIn a o hk, hc, hd, by simpa using hs⟩, ?_⟩
    have e := r.length
    simp only [Array.length_toList] at e
    omega
theorem Inv.tuple (I : Inv X pins σ H s) (h : SqT X.K H a xs) : ∃ its : List Value, Vals xs its ∧ IsTup s.heap a its.toArray ∧ xs.length ≤ sizeLine := by
  rcases h with h | ⟨o, its, n, hk, hc, hs, hz, r⟩
  · obtain ⟨z, its, r, p⟩ := h.ok I.hok
    exact ⟨its, r, p.tup, z⟩
  · refine ⟨its.toList, r, ⟨o, I.kIn a o hk, hc, n, by simpa using hs⟩, ?_⟩
    have e := r.length
    simp only [Array.length_toList] at e
    omega
theorem Inv.list_inj (I : Inv X pins σ H s) (h : SqL X.K H a xs) (h' : SqL X.K H a ys) : xs = ys := by
  obtain ⟨its, r, ⟨o, n, e, _, _, d⟩, _⟩ := I.list h
  obtain ⟨its', r', ⟨o', n', e', _, _, d'⟩, _⟩ := I.list h'
  rw [e] at e'; cases e'
  rw [d] at d'
  injection d' with d1 _
  have : its = its' := by simpa using congrArg Array.toList d1
  subst this
  exact r.inj r'
theorem Inv.tuple_inj (I : Inv X pins σ H s) (h : SqT X.K H a xs) (h' : SqT X.K H a ys) : xs = ys := by
  obtain ⟨its, r, ⟨o, e, _, n, d⟩, _⟩ := I.tuple h
  obtain ⟨its', r', ⟨o', e', _, n', d'⟩, _⟩ := I.tuple h'
  rw [e] at e'; cases e'
  rw [d] at d'
  injection d' with d1 _
  have : its = its' := by simpa using congrArg Array.toList d1
  subst this
  exact r.inj r'
end

/-! ### another wish about exceptions -/
abbrev Cx.wish (X : Cx) (E : Value → Shared → Prop) : Cx := { X with xe := E }
/-- no exception leaves -/
abbrev Cx.nox (X : Cx) : Cx := X.wish fun _ _ => False
theorem Cx.Ok.wish {X : Cx} (ok : X.Ok) (E : Value → Shared → Prop) : (X.wish E).Ok :=
  ⟨ok.mod, ok.kind, ok.glob, ok.blt, ok.above, ok.inj, ok.has, ok.cab, ok.hd, ok.frames, ok.stk, ok.exf, ok.bs, ok.bsz, ok.noex, ok.exfs, ok.funs, ok.frf⟩
theorem Cx.Ok.unwish {X : Cx} {E : Value → Shared → Prop} (ok : (X.wish E).Ok) : X.Ok :=
  ⟨ok.mod, ok.kind, ok.glob, ok.blt, ok.above, ok.inj, ok.has, ok.cab, ok.hd, ok.frames, ok.stk, ok.exf, ok.bs, ok.bsz, ok.noex, ok.exfs, ok.funs, ok.frf⟩
section
variable {X : Cx} {pins : List (Addr × Obj)} {σ : St} {H : Hp} {s : Shared} {E : Value → Shared → Prop}
theorem Inv.wish (I : Inv X pins σ H s) (E : Value → Shared → Prop) : Inv (X.wish E) pins σ H s := ⟨I.ok.wish E, I.os, I.bare, I.base, I.loc, I.cell, I.free, I.freeC, I.pin, I.hok, I.len⟩
theorem Inv.unwish (I : Inv (X.wish E) pins σ H s) : Inv X pins σ H s := ⟨I.ok.unwish, I.os, I.bare, I.base, I.loc, I.cell, I.free, I.freeC, I.pin, I.hok, I.len⟩
theorem SP.unwish {D : Ends} {f : Flow} {s' : Shared} (h : SP (X.wish E) pins D f s') : SP X pins D f s' := by
  cases f with
  | next => obtain ⟨σ', H', I, q⟩ := h; exact ⟨σ', H', I.unwish, q⟩
  | brk => obtain ⟨σ', H', I, q⟩ := h; exact ⟨σ', H', I.unwish, q⟩
  | cont => obtain ⟨σ', H', I, q⟩ := h; exact ⟨σ', H', I.unwish, q⟩
  | ret u => obtain ⟨v, σ', H', I, r, q⟩ := h; exact ⟨v, σ', H', I.unwish, r, q⟩
theorem PSs.nox {st : List Stmt} {t : TS} (h : PSs X.nox st t) : PSs X st t := fun pins s σ H D I hw =>
  wpAny_mono (h pins s σ H D (I.wish _) hw) (fun _ _ q => q.unwish) fun _ _ z => False.elim z
end

/-! ### blocks and small statements -/
section
variable {X : Cx} {st : Stmt} {rest : List Stmt} {t u : TS} {e : Expr} {te : TE} {pos : Pos}
def tNext : TS := fun D σ H => D.nx σ H
def tSeq (t u : TS) : TS := fun D σ H => t { D with nx := u D } σ H
theorem pss_nil : PSs X [] tNext := fun _ _ σ H _ I h => wpAny_execs_nil ⟨σ, H, I, h⟩
theorem pss_cons (h1 : PS X st t) (h2 : PSs X rest u) : PSs X (st :: rest) (tSeq t u) := by
  intro pins s σ H D I h
  refine wpAny_execs_cons (thn (h1 pins s σ H { D with nx := u D } I h) fun f s1 q => ?_)
  cases f with
  | next =>
    obtain ⟨σ', H', I', q⟩ := q
    exact h2 pins s1 σ' H' D I' q
  | ret v => exact q
  | brk => exact q
  | cont => exact q
theorem pss_one (h1 : PS X st t) : PSs X [st] t := by
  intro pins s σ H D I h
  refine wpAny_execs_cons (thn (h1 pins s σ H D I h) fun f s1 q => ?_)
  cases f with
  | next => exact wpAny_execs_nil q
  | ret v => exact q
  | brk => exact q
  | cont => exact q
/-- in a def's body nothing is shown -/
theorem Inv.quiet {pins : List (Addr × Obj)} {σ : St} {H : Hp} {s : Shared} (I : Inv X pins σ H s) : interactive X.env = false := by simp [interactive, I.ok.kind]
/-- an expression whose value is dropped -/
def tDrop (te : TE) : TS := fun D σ H => te σ H fun _ H1 => D.nx σ H1
theorem ps_expr (he : PE X e te) (hs : swapsWith e none pos.line X.env = pure false := by rfl) : PS X (.Expr e pos) (tDrop te) := by
  intro pins s σ H D I h
  exact wpAny_Expr_any (thn (he pins s σ H _ I h) fun v s1 ⟨x, H1, I1, r1, q1⟩ => ⟨σ, H1, I1, q1⟩) I.quiet hs
def tRet (te : TE) : TS := fun D σ H => te σ H D.rt
theorem ps_ret (he : PE X e te) : PS X (.Return (some e) pos) (tRet te) := by
  intro pins s σ H D I h
  exact wpAny_Return_some (thn (he pins s σ H _ I h) fun v s1 ⟨x, H1, I1, r1, q1⟩ => ⟨x, σ, H1, I1, r1, q1⟩)
def tIfS (c : TT) (t u : TS) : TS := fun D σ H => c σ H fun b H1 => if b = true then t D σ H1 else u D σ H1
theorem ps_if {c : Expr} {a b : List Stmt} {tc : TT} (hc : PT X c tc) (ha : PSs X a t) (hb : PSs X b u) : PS X (.If c a b pos) (tIfS tc t u) := by
  intro pins s σ H D I h
  refine wpAny_If (thn (hc pins s σ H _ I h) fun d s1 ⟨H1, I1, q1⟩ => ?_)
  cases d with
  | true => exact ha pins s1 σ H1 D I1 q1
  | false => exact hb pins s1 σ H1 D I1 q1
/-- code that the proof never comes to -/
def tNever : TS := fun _ _ _ => False
theorem pss_never {sts : List Stmt} : PSs X sts tNever := fun _ _ _ _ _ _ h => h.elim
end

/-! ### targets -/
abbrev TG := V → St → Hp → (St → Hp → Prop) → Prop
abbrev TGs := List V → St → Hp → (St → Hp → Prop) → Prop
def PG (X : Cx) (target : Expr) (t : TG) : Prop :=
  ∀ (pins : List (Addr × Obj)) (s : Shared) (σ : St) (H : Hp) (v : V) (u : Value) (Q : St → Hp → Prop), Inv X pins σ H s → RelV v u → t v σ H Q →
    wpAny (model X.prog X.w) X.A (assign target X.env u) (fun _ s' => ∃ σ' H', Inv X pins σ' H' s' ∧ Q σ' H') X.xe s
/-- several targets, one after another -/
def PGs (X : Cx) (ts : List Expr) (t : TGs) : Prop :=
  ∀ (pins : List (Addr × Obj)) (s : Shared) (σ : St) (H : Hp) (vs : List V) (us : List Value) (Q : St → Hp → Prop), Inv X pins σ H s → Vals vs us → t vs σ H Q →
    wpAny (model X.prog X.w) X.A (assignInOrder ((assignEach ts X.env).map (·.2)) us) (fun _ s' => ∃ σ' H', Inv X pins σ' H' s' ∧ Q σ' H') X.xe s
/-- o[i] = v, by values -/
abbrev TSet := V → V → V → Hp → (Hp → Prop) → Prop
def PSet (X : Cx) (t : TSet) : Prop :=
  ∀ (pins : List (Addr × Obj)) (s : Shared) (σ : St) (H : Hp) (o i v : V) (ov iv u : Value) (Q : Hp → Prop), Inv X pins σ H s → RelV o ov → RelV i iv → RelV v u → t o i v H Q →
    wpAny (model X.prog X.w) X.A (setItem ov iv u) (fun _ s' => ∃ H', Inv X pins σ H' s' ∧ Q H') X.xe s
section
variable {X : Cx} {pos : Pos}
def gName (i : Nat) : TG := fun v σ H Q => Q (σ.set i (some v)) H
theorem pg_name {i : Nat} {x : Str} (hN : X.N.Nodup) (hi : X.N[i]? = some x) (hx : Loc X.env.scope x) (hf : X.fn x = true ∨ X.env.scope.names.lookup x = some .local := by first | exact .inl rfl | exact .inr rfl | assumption) : PG X (.Name x pos) (gName i) := by
  intro pins s σ H v u Q I r h
  exact wpAny_assign_Name (store_ok I hN hi hx r (fun s' I' => ⟨_, H, I', h⟩) hf)
def gNil : TGs := fun vs σ H Q => vs = [] ∧ Q σ H
def gCons (t : TG) (u : TGs) : TGs := fun vs σ H Q => ∃ v r, vs = v :: r ∧ t v σ H fun σ' H' => u r σ' H' Q
theorem pgs_nil : PGs X [] gNil := by
  intro pins s σ H vs us Q I r h
  obtain ⟨e, h⟩ := h
  subst e
  cases r
  exact assignInOrder_nil ⟨σ, H, I, h⟩
theorem pgs_cons {e : Expr} {es : List Expr} {t : TG} {u : TGs} (h1 : PG X e t) (h2 : PGs X es u)
    (hs : (assignEach (e :: es) X.env).map (·.2) = assign e X.env :: (assignEach es X.env).map (·.2) := by rfl) : PGs X (e :: es) (gCons t u) := by
  intro pins s σ H vs us Q I r h
  obtain ⟨v, vr, e1, h⟩ := h
  subst e1
  cases r with
  | cons r rr =>
    rw [hs]
    refine assignInOrder_cons (thn (h1 pins s σ H _ _ _ I r h) fun _ s1 ⟨σ1, H1, I1, q1⟩ => ?_)
    exact h2 pins s1 σ1 H1 _ _ Q I1 rr q1
/-- (a, b, ..) = a tuple of that length -/
def gTup (K : PySem.W.Frag) (n : Nat) (t : TGs) : TG := fun v σ H Q => ∃ a xs, v = .ref a ∧ SqT K H a xs ∧ xs.length = n ∧ t xs σ H Q
theorem pg_tup {es : List Expr} {k : Nat} {t : TGs} {n : Nat} (hc : X.calm = true) (h : PGs X es t)
    (hn : (assignEach es X.env).length = n := by rfl) (hst : (assignEach es X.env).findIdx? (·.1) = none := by rfl) : PG X (.Tuple es k pos) (gTup X.K n t) := by
  intro pins s σ H v u Q I r hw
  obtain ⟨a, xs, e1, hq, hl, hw⟩ := hw
  subst e1
  cases r
  obtain ⟨its, rv, ht, hz⟩ := I.tuple hq
  refine assign_Tuple_tuple (I.ok.hd hc) ht (by simp [hn, ← hl, rv.length]) hst fun h' hx => ?_
  have I1 : Inv X pins σ H { s with heap := h' } := I.kept (t' := s.toks) fun b o e => hx b o (Nat.ne_of_lt (Heap.lt_size e)) e
  exact h pins _ σ H xs _ Q I1 (by simpa using rv) hw
/-- o[i] = .. -/
def gSub (to ti : TE) (t : TSet) : TG := fun v σ H Q => to σ H fun o H1 => ti σ H1 fun i H2 => t o i v H2 fun H3 => Q σ H3
theorem pg_sub {o i : Expr} {to ti : TE} {t : TSet} (ho : PE X o to) (hi : PE X i ti) (hs : PSet X t)
    (ha : ∀ v, assign (.Subscript o i pos) X.env v = (do
      let ov ← holding [v] (eval o X.env)
      let iv ← holding [v, ov] (eval i X.env)
      standAt pos
      holding [v, ov, iv] (setItem ov iv v)
      release [v, ov, iv] []) := by intro _; rfl) : PG X (.Subscript o i pos) (gSub to ti t) := by
  intro pins s σ H v u Q I r h
  rw [ha]
  refine wpAny_bind (wpAny_holding (thn (ho pins s σ H _ I h) fun ov s1 ⟨x, H1, I1, r1, q1⟩ => ?_))
  refine wpAny_bind (wpAny_holding (thn (hi pins s1 σ H1 _ I1 q1) fun iv s2 ⟨y, H2, I2, r2, q2⟩ => ?_))
  refine wpAny_bind (wpAny_standAt (wpAny_bind (wpAny_holding (thn (hs pins s2 σ H2 x y v ov iv u _ I2 r1 r2 r q2) fun _ s3 ⟨H3, I3, q3⟩ => ?_))))
  exact wpAny_release ⟨σ, H3, I3, q3⟩
/-- target = value -/
def tAsg (te : TE) (g : TG) : TS := fun D σ H => te σ H fun x H1 => g x σ H1 D.nx
theorem ps_asg {tg e : Expr} {te : TE} {g : TG} (he : PE X e te) (hg : PG X tg g) (hs : swapsWithSole [tg] e pos.line X.env = pure false := by rfl) (hw : swappedStores [tg] e X.env = pure none := by rfl)
    (h1 : (assignEach [tg] X.env).map (·.2) = [assign tg X.env] := by rfl) : PS X (.Assign [tg] e pos) (tAsg te g) := by
  intro pins s σ H D I h
  refine wpAny_Assign_stores (thn (he pins s σ H _ I h) fun v s1 ⟨x, H1, I1, r1, q1⟩ => ?_) hs hw
  rw [h1]
  exact thn (hg pins s1 σ H1 x v _ I1 r1 q1) fun _ s2 q => q
/-- name = value -/
theorem ps_set {i : Nat} {x : Str} {e : Expr} {te : TE} {pos' : Pos} (hN : X.N.Nodup) (hi : X.N[i]? = some x) (hx : Loc X.env.scope x) (he : PE X e te) (hs : swapsWith e (some (.Name x pos')) pos.line X.env = pure false := by rfl) (hf : X.fn x = true ∨ X.env.scope.names.lookup x = some .local := by first | exact .inl rfl | exact .inr rfl | assumption) :
    PS X (.Assign [.Name x pos'] e pos) (tAsg te (gName i)) := by
  intro pins s σ H D I h
  refine wpAny_Assign_Name (thn (he pins s σ H _ I h) fun v s1 ⟨y, H1, I1, r1, q1⟩ => ?_) hs
  exact store_ok I1 hN hi hx r1 (fun s2 I2 => ⟨_, H1, I2, q1⟩) hf
end

/-! ### while -/
section
variable {X : Cx} {pos : Pos}
end

/-! ### what a loop or a comprehension walks -/
/-- at turn i: it yields x (the heap may grow), or it stops -/
structure It where
  go : Nat → Hp → Prop
  yld : Nat → Hp → V → Hp → Prop
  stop : Nat → Hp → Prop
/-- the iterator's own objects may turn: they are not the frame's, not pinned, younger than the entry (or a comprehension's own) -/
def FpOk (X : Cx) (pins : List (Addr × Obj)) (H : Hp) (b : Addr) : Prop :=
  H b = none ∧ b ≠ X.env.locals ∧ b ∉ X.fs ∧ (b ∈ X.ex ∨ X.s₀.heap.objs.size ≤ b) ∧ (∀ x c, X.env.cells.lookup x = some c → c ≠ b) ∧ ∀ p ∈ X.pn ++ pins, p.1 ≠ b
theorem Inv.fpOk {X : Cx} {pins : List (Addr × Obj)} {σ : St} {H H' : Hp} {s : Shared} {b : Addr} (I : Inv X pins σ H s) (hb : s.heap.objs.size ≤ b) (hn : H' b = none) : FpOk X pins H' b := by
  refine ⟨hn, Nat.ne_of_gt (Nat.lt_of_lt_of_le I.lt hb), I.nofs hb, .inr (Nat.le_trans I.sz hb), fun x c e z => ?_, fun p hp z => ?_⟩
  · obtain ⟨v, q⟩ := I.cell x c e
    exact absurd (Nat.lt_of_lt_of_le q.lt (by rw [z]; exact hb)) (Nat.lt_irrefl _)
  · exact absurd (Nat.lt_of_lt_of_le (Heap.lt_size (I.pin p hp).1) (by rw [z]; exact hb)) (Nat.lt_irrefl _)
structure Turn (P : Program) (w : World) (K : PySem.W.Frag) (tg : Expr) (J : It) (fp : List Addr) (it : Addr) (tn : Nat → Heap → Prop) : Prop where
  mem : it ∈ fp
  obj : ∀ i h, tn i h → ∀ b ∈ fp, ∃ o, h.get? b = some o ∧ ∀ v, o.data ≠ .cell v
  keep : ∀ i h h', tn i h → (∀ b ∈ fp, ∀ o, h.get? b = some o → h'.get? b = some o) → tn i h'
  item : ∀ (X : Cx), X.prog = P → X.w = w → X.K = K → X.calm = true → ∀ (i : Nat) (pins : List (Addr × Obj)) (s : Shared) (σ : St) (H : Hp) (E : Value → Shared → Prop), Inv X pins σ H s → (∀ b ∈ fp, FpOk X pins H b) → tn i s.heap → J.go i H →
    wpAny (model P w) X.A (pyNext (.ref it)) (fun r s1 => ∃ u, r = some u ∧
      wpAny (model P w) X.A (letOwnedTupleGo tg (.ref it) u) (fun _ s2 => ∃ x H', Inv X pins σ H' s2 ∧ RelV x u ∧ J.yld i H x H' ∧ tn (i + 1) s2.heap ∧ ∀ b ∈ fp, H' b = none) E s1) E s
  done : ∀ (X : Cx), X.prog = P → X.w = w → X.K = K → X.calm = true → ∀ (i : Nat) (pins : List (Addr × Obj)) (s : Shared) (σ : St) (H : Hp) (E : Value → Shared → Prop), Inv X pins σ H s → (∀ b ∈ fp, FpOk X pins H b) → tn i s.heap → J.stop i H →
    wpAny (model P w) X.A (pyNext (.ref it)) (fun r s1 => r = none ∧ Inv X pins σ H s1) E s
  self : ∀ (A : Around) (i : Nat) (s : Shared) (Q : Value → Shared → Prop) (E : Value → Shared → Prop), tn i s.heap → Q (.ref it) s → wpAny (model P w) A (pyIter (.ref it)) Q E s
abbrev TI := St → Hp → (It → Hp → Prop) → Prop
/-- an iterator has come -/
def PIE (X : Cx) (pins : List (Addr × Obj)) (σ : St) (tg : Expr) (R : It → Hp → Prop) (itv : Value) (s2 : Shared) : Prop :=
  ∃ (it : Addr) (fp : List Addr) (tn : Nat → Heap → Prop) (J : It) (H' : Hp), itv = .ref it ∧ Inv X pins σ H' s2 ∧ Turn X.prog X.w X.K tg J fp it tn ∧ tn 0 s2.heap ∧ (∀ b ∈ fp, FpOk X pins H' b) ∧ R J H'
def PI (X : Cx) (tg iter : Expr) (wi : TI) : Prop :=
  ∀ (pins : List (Addr × Obj)) (s : Shared) (σ : St) (H : Hp) (R : It → Hp → Prop), Inv X pins σ H s → wi σ H R →
    wpAny (model X.prog X.w) X.A (eval iter X.env) (fun v s1 => wpAny (model X.prog X.w) X.A (pyIter v) (PIE X pins σ tg R) X.xe s1) X.xe s

/-- the step ahead of the store is nothing for an iterator that keeps no tuple -/
theorem go_of {M : Model} {A : Around} {E : Value → Shared → Prop} {s : Shared} {tg : Expr} {it : Addr} {u : Value} {o : Obj} {n : String} {vs : Array Value} {Q : Unit → Shared → Prop} (ho : s.heap.get? it = some o) (hc : o.cls = .type n) (hd : o.data = .fields vs)
    (hn : ["enumerate", "zip", "dict_itemiterator", "dict_reverseitemiterator", "odict_iterator", "itertools.zip_longest", "itertools.pairwise"].contains n = false) (hQ : Q () s) : wpAny M A (letOwnedTupleGo tg (.ref it) u) Q E s := by
  unfold letOwnedTupleGo
  cases tg <;> first
    | exact wpAny_pure hQ
    | (cases u <;> first
        | exact wpAny_pure hQ
        | (refine wpAny_bind (wpAny_load ho ?_)
           rw [hc, hd]
           show wpAny M A (if (["enumerate", "zip", "dict_itemiterator", "dict_reverseitemiterator", "odict_iterator", "itertools.zip_longest", "itertools.pairwise"].contains n && vs[0]? == some (rawInt _)) = true then _ else _) Q E s
           rw [if_neg (by intro h; rw [hn, Bool.false_and] at h; cases h)]
           exact wpAny_pure hQ))

/-- the list at a, as it stands at each turn (a loop may append to it) -/
def Itl (K : PySem.W.Frag) (a : Addr) : It :=
  ⟨fun i H => ∃ xs x, SqL K H a xs ∧ xs[i]? = some x, fun i H x H' => H' = H ∧ ∀ xs, SqL K H a xs → xs[i]? = some x, fun i H => ∃ xs, SqL K H a xs ∧ xs.length ≤ i⟩
def Itt (K : PySem.W.Frag) (a : Addr) : It :=
  ⟨fun i H => ∃ xs x, SqT K H a xs ∧ xs[i]? = some x, fun i H x H' => H' = H ∧ ∀ xs, SqT K H a xs → xs[i]? = some x, fun i H => ∃ xs, SqT K H a xs ∧ xs.length ≤ i⟩
/-- lo, lo + 1, .. (n of them) -/
def Itr (lo : Int) (n : Nat) : It := ⟨fun i _ => i < n, fun i H x H' => H' = H ∧ x = .int (lo + i), fun i _ => n ≤ i⟩
theorem turn_list {P : Program} {w : World} {K : PySem.W.Frag} {tg : Expr} (a it : Addr) : Turn P w K tg (Itl K a) [it] it (fun i h => h.IsListIter it a i) where
  mem := by simp
  obj := fun i h st b hb => by
    have e : b = it := by simpa using hb
    subst e
    obtain ⟨o, e, c, d⟩ := st
    exact ⟨o, e, fun v z => by rw [d] at z; cases z⟩
  keep := fun i h h' st k => st.at fun o e => k it (by simp) o e
  item := by
    intro X hP hw hK hc i pins s σ H E I hf st hg
    subst hP hw hK
    obtain ⟨xs, x, hq, hx⟩ := hg
    obtain ⟨its, rv, p, hz⟩ := I.list hq
    obtain ⟨u, hu, ru⟩ := rv.get hx
    obtain ⟨f0, f1, f2, f3, f4, f5⟩ := hf it (by simp)
    refine wpAny_pyNext_list_item st p.isList (x := u) (by simpa using hu) fun h' st' sb => ?_
    have I1 : Inv X pins σ H { s with heap := h' } := I.turned (t' := s.toks) (fun b o hb e => (sb.2 b hb).trans e) f0 f1 f3 f4 f5
    obtain ⟨o, e, c, d⟩ := id st'
    exact ⟨u, rfl, go_of (s := { s with heap := h' }) e c d (by decide) ⟨x, H, I1, ru, ⟨rfl, fun ys hy => by rw [I.list_inj hy hq]; exact hx⟩, st', fun b hb => (hf b hb).1⟩⟩
  done := by
    intro X hP hw hK hc i pins s σ H E I hf st hg
    subst hP hw hK
    obtain ⟨xs, hq, hx⟩ := hg
    obtain ⟨its, rv, p, hz⟩ := I.list hq
    obtain ⟨f0, f1, f2, f3, f4, f5⟩ := hf it (by simp)
    have hl := rv.length
    exact wpAny_pyNext_list_end (I.ok.hd hc) st p.isList (by simp; omega) fun h' eb => ⟨rfl, I.turned (t' := s.toks) (fun b o hb e => eb b o hb e) f0 f1 f3 f4 f5⟩
  self := fun _ _ _ _ _ st h => wpAny_pyIter_listiter st h
theorem turn_tuple {P : Program} {w : World} {K : PySem.W.Frag} {tg : Expr} (a it : Addr) : Turn P w K tg (Itt K a) [it] it (fun i h => h.IsTupleIter it a i) where
  mem := by simp
  obj := fun i h st b hb => by
    have e : b = it := by simpa using hb
    subst e
    obtain ⟨o, e, c, d⟩ := st
    exact ⟨o, e, fun v z => by rw [d] at z; cases z⟩
  keep := fun i h h' st k => st.at fun o e => k it (by simp) o e
  item := by
    intro X hP hw hK hc i pins s σ H E I hf st hg
    subst hP hw hK
    obtain ⟨xs, x, hq, hx⟩ := hg
    obtain ⟨its, rv, p, hz⟩ := I.tuple hq
    obtain ⟨u, hu, ru⟩ := rv.get hx
    obtain ⟨f0, f1, f2, f3, f4, f5⟩ := hf it (by simp)
    refine wpAny_pyNext_tuple_item st (show s.heap.IsTuple a its.toArray from p) (x := u) (by simpa using hu) fun h' st' sb => ?_
    have I1 : Inv X pins σ H { s with heap := h' } := I.turned (t' := s.toks) (fun b o hb e => (sb.2 b hb).trans e) f0 f1 f3 f4 f5
    obtain ⟨o, e, c, d⟩ := id st'
    exact ⟨u, rfl, go_of (s := { s with heap := h' }) e c d (by decide) ⟨x, H, I1, ru, ⟨rfl, fun ys hy => by rw [I.tuple_inj hy hq]; exact hx⟩, st', fun b hb => (hf b hb).1⟩⟩
  done := by
    intro X hP hw hK hc i pins s σ H E I hf st hg
    subst hP hw hK
    obtain ⟨xs, hq, hx⟩ := hg
    obtain ⟨its, rv, p, hz⟩ := I.tuple hq
    obtain ⟨f0, f1, f2, f3, f4, f5⟩ := hf it (by simp)
    have hl := rv.length
    exact wpAny_pyNext_tuple_end (I.ok.hd hc) st (show s.heap.IsTuple a its.toArray from p) (by simp; omega) fun h' eb => ⟨rfl, I.turned (t' := s.toks) (fun b o hb e => eb b o hb e) f0 f1 f3 f4 f5⟩
  self := fun _ _ _ _ _ st h => wpAny_pyIter_tupleiter st h
theorem turn_range {P : Program} {w : World} {K : PySem.W.Frag} {tg : Expr} (it : Addr) (lo : Int) (n : Nat) : Turn P w K tg (Itr lo n) [it] it (fun i h => IsRangeIter h it (lo + (i : Nat) * 1) ((n : Int) - (i : Nat)) 1) where
  mem := by simp
  obj := fun i h st b hb => by
    have e : b = it := by simpa using hb
    subst e
    exact ⟨_, st, fun v z => by
      have z' : Data.fields _ = Data.cell v := z
      cases z'⟩
  keep := fun i h h' st k => k it (by simp) _ st
  item := by
    intro X hP hw hK hc i pins s σ H E I hf st hg
    subst hP hw hK
    obtain ⟨f0, f1, f2, f3, f4, f5⟩ := hf it (by simp)
    have W := Walks.range (prog := X.prog) (w := X.w) (I.ok.hd hc) it lo 1 n
    refine W.item i s _ _ hg st fun v h' tk hv st' kk => ?_
    obtain ⟨t, rfl⟩ := hv
    have I1 : Inv X pins σ H { s with heap := h', toks := tk } := I.turned (fun b o hb e => kk b o (by simpa using hb) e) f0 f1 f3 f4 f5
    refine ⟨_, rfl, go_of (s := { s with heap := h', toks := tk }) (n := "range_iterator") st' rfl rfl (by decide) ⟨.int (lo + i), H, I1, ⟨t, ?_⟩, ⟨rfl, rfl⟩, st', fun b hb => (hf b hb).1⟩⟩
    rw [Int.mul_one]
  done := by
    intro X hP hw hK hc i pins s σ H E I hf st hg
    subst hP hw hK
    obtain ⟨f0, f1, f2, f3, f4, f5⟩ := hf it (by simp)
    exact wpAny_pyNext_range_end (I.ok.hd hc) st (by have : n ≤ i := hg; omega) fun h' eb => ⟨rfl, I.turned (t' := s.toks) (fun b o hb e => eb b o hb e) f0 f1 f3 f4 f5⟩
  self := fun _ _ _ _ _ st h => wpAny_pyIter_rangeiter st h
end L2

namespace L2
open PySem PySem.Spec PyProof.Rows
section
variable {X : Cx} {tg : Expr}
def iList (K : PySem.W.Frag) (tl : TE) : TI := fun σ H R => tl σ H fun x H1 => ∃ a, x = .ref a ∧ (∃ xs, SqL K H1 a xs) ∧ R (Itl K a) H1
def iTup (K : PySem.W.Frag) (tl : TE) : TI := fun σ H R => tl σ H fun x H1 => ∃ a, x = .ref a ∧ (∃ xs, SqT K H1 a xs) ∧ R (Itt K a) H1
theorem pi_list {l : Expr} {tl : TE} (hl : PE X l tl) : PI X tg l (iList X.K tl) := by
  intro pins s σ H R I h
  refine thn (hl pins s σ H _ I h) fun v s1 ⟨x, H1, I1, r1, q1⟩ => ?_
  obtain ⟨a, e, ⟨xs, hq⟩, q⟩ := q1
  subst e
  cases r1
  obtain ⟨its, rv, p, hz⟩ := I1.list hq
  refine wpAny_pyIter_list p.isList ?_
  refine ⟨s1.heap.objs.size, [s1.heap.objs.size], _, _, H1, rfl, I1.kept (t' := s1.toks) fun b o e => Heap.get?_push_of_some _ e, turn_list a _, ⟨_, Heap.get?_push_size _ rfl, rfl, rfl⟩, fun b hb => ?_, q⟩
  have e : b = s1.heap.objs.size := by simpa using hb
  subst e
  exact I1.fpOk (Nat.le_refl _) (I1.hok.fresh (Nat.le_refl _))
theorem pi_tup {l : Expr} {tl : TE} (hl : PE X l tl) : PI X tg l (iTup X.K tl) := by
  intro pins s σ H R I h
  refine thn (hl pins s σ H _ I h) fun v s1 ⟨x, H1, I1, r1, q1⟩ => ?_
  obtain ⟨a, e, ⟨xs, hq⟩, q⟩ := q1
  subst e
  cases r1
  obtain ⟨its, rv, p, hz⟩ := I1.tuple hq
  refine wpAny_pyIter_tuple (show s1.heap.IsTuple a its.toArray from p) ?_
  refine ⟨s1.heap.objs.size, [s1.heap.objs.size], _, _, H1, rfl, I1.kept (t' := s1.toks) fun b o e => Heap.get?_push_of_some _ e, turn_tuple a _, ⟨_, Heap.get?_push_size _ rfl, rfl, rfl⟩, fun b hb => ?_, q⟩
  have e : b = s1.heap.objs.size := by simpa using hb
  subst e
  exact I1.fpOk (Nat.le_refl _) (I1.hok.fresh (Nat.le_refl _))
/-- a range object just made, walked -/
theorem range_it {pins : List (Addr × Obj)} {σ : St} {H : Hp} {s : Shared} {R : It → Hp → Prop} {E : Value → Shared → Prop} {lo hi : Int} {t u v : Tok} {tk : Nat} (I : Inv X pins σ H s) (h1 : -(2 ^ 62) ≤ lo) (h2 : lo < 2 ^ 62) (h3 : -(2 ^ 62) ≤ hi) (h4 : hi < 2 ^ 62)
    (q : R (Itr lo (hi - lo).toNat) H) : wpAny (model X.prog X.w) X.A (pyIter (.ref s.heap.objs.size)) (PIE X pins σ tg R) E { s with heap := s.heap.push { cls := .type "range", data := .fields #[.int lo t, .int hi u, .int 1 v] }, toks := tk } := by
  refine wpAny_pyIter_range (IsRange.new ..) (small_one h1 h2 h3 h4) ?_
  have I1 : Inv X pins σ H { s with heap := s.heap.push { cls := .type "range", data := .fields #[.int lo t, .int hi u, .int 1 v] }, toks := tk } := I.kept fun b o e => Heap.get?_push_of_some _ e
  refine ⟨(s.heap.push { cls := .type "range", data := .fields #[.int lo t, .int hi u, .int 1 v] }).objs.size, [(s.heap.push { cls := .type "range", data := .fields #[.int lo t, .int hi u, .int 1 v] }).objs.size], _, _, H, rfl,
    I1.kept (t' := tk) fun b o e => Heap.get?_push_of_some _ e, turn_range _ lo (hi - lo).toNat, ?_, fun b hb => ?_, q⟩
  · have e1 : lo + ((0 : Nat) : Int) * 1 = lo := by simp
    have e2 : (((hi - lo).toNat : Nat) : Int) - ((0 : Nat) : Int) = Builtin.Range.rangeSize lo hi 1 := by rw [rangeSize_one]; split <;> omega
    show IsRangeIter _ _ (lo + ((0 : Nat) : Int) * 1) ((((hi - lo).toNat : Nat) : Int) - ((0 : Nat) : Int)) 1
    rw [e1, e2]
    exact Heap.get?_push_size _ rfl
  · have e : b = (s.heap.push { cls := .type "range", data := .fields #[.int lo t, .int hi u, .int 1 v] }).objs.size := by simpa using hb
    subst e
    exact I1.fpOk (Nat.le_refl _) (I1.hok.fresh (Nat.le_refl _))
def iRng1 (ta : TA) : TI := fun σ H R => ta σ H fun vs H1 => ∃ j : Int, vs = [.int j] ∧ -(2 ^ 62) ≤ j ∧ j < 2 ^ 62 ∧ R (Itr 0 j.toNat) H1
theorem pi_range1 {a : Expr} {ta : TA} {p pos : Pos} (hg : Gl X "range") (hm : X.mg "range" = none) (ha : PA X [a] ta) (hs : starEach [a] X.env = [(false, eval a X.env)] := by rfl) : PI X tg (.Call (.Name "range" p) [a] [] pos) (iRng1 ta) := by
  intro pins s σ H R I h
  refine Call_ (ld_blt I hg hm boot_range (PyProof.Rows.callWith_type1 (thn (ha pos pins s σ H _ I h) fun us s1 ⟨vs, H1, I1, r1, q1⟩ => ?_) hs rfl))
  obtain ⟨j, e, q1, q2, q⟩ := q1
  subst e
  cases r1 with
  | cons r rr =>
    cases rr
    obtain ⟨t, rfl⟩ := r
    exact call_range_1 (range_it I1 (by omega) (by omega) q1 q2 (by simpa using q))

/-! ### for -/
/-- W: the invariant by the turn and a measure; N: what the body is to reach -/
def tFor (wi : TI) (g : TG) (tb : TS) : TS := fun D σ H => wi σ H fun J H1 => ∃ W : Nat → Nat → St → Hp → Prop, (∃ m, W 0 m σ H1) ∧ ∀ i m σ H, W i m σ H →
  (J.stop i H ∧ D.nx σ H) ∨ (J.go i H ∧ ∃ N : St → Hp → Prop, (∀ σ' H', N σ' H' → ∃ m', m' < m ∧ W (i + 1) m' σ' H') ∧ ∀ x H', J.yld i H x H' → g x σ H' fun σ2 H2 => tb { D with nx := N, ct := N, bk := D.nx } σ2 H2)
/-- the records at fp as they stand -/
def pinsAt (fp : List Addr) (h : Heap) : List (Addr × Obj) := fp.filterMap fun b => (h.get? b).map fun o => (b, o)
theorem mem_pinsAt {fp : List Addr} {h : Heap} {b : Addr} {o : Obj} (hb : b ∈ fp) (e : h.get? b = some o) : (b, o) ∈ pinsAt fp h := List.mem_filterMap.mpr ⟨b, hb, by rw [e]; rfl⟩
theorem of_pinsAt {fp : List Addr} {h : Heap} {p : Addr × Obj} (hp : p ∈ pinsAt fp h) : p.1 ∈ fp ∧ h.get? p.1 = some p.2 := by
  obtain ⟨b, hb, e⟩ := List.mem_filterMap.mp hp
  cases q : h.get? b with
  | none => rw [q] at e; cases e
  | some o =>
    rw [q] at e
    have e' : (b, o) = p := Option.some.inj e
    subst e'
    exact ⟨hb, q⟩
theorem Inv.pinned {pins : List (Addr × Obj)} {σ : St} {H : Hp} {s : Shared} {fp : List Addr} (I : Inv X pins σ H s) (hf : ∀ b ∈ fp, FpOk X pins H b) (ho : ∀ b ∈ fp, ∃ o, s.heap.get? b = some o ∧ ∀ v, o.data ≠ .cell v) : Inv X (pins ++ pinsAt fp s.heap) σ H s :=
  I.pins_of fun p hp => (List.mem_append.mp hp).elim (fun z => I.pin p (List.mem_append_right _ z)) fun z => by
    obtain ⟨hb, e⟩ := of_pinsAt z
    obtain ⟨f0, f1, f2, _⟩ := hf p.1 hb
    obtain ⟨o, e', d⟩ := ho p.1 hb
    rw [e] at e'; cases e'
    exact ⟨e, f0, f1, f2, d⟩
theorem Inv.unpinned {pins pl : List (Addr × Obj)} {σ : St} {H : Hp} {s : Shared} (I : Inv X (pins ++ pl) σ H s) : Inv X pins σ H s := I.pins_of fun p hp => I.pin p (List.mem_append_right _ (List.mem_append_left _ hp))
theorem ps_for {iter : Expr} {body : List Stmt} {wi : TI} {g : TG} {tb : TS} {pos : Pos} (hp : PassesOwn (model X.prog X.w) X.A X.env X.xe) (hc : X.calm = true) (hi : PI X tg iter wi) (hg : PG X tg g) (hb : PSs X body tb)
    (hs : ∀ x, foldedSetIterable iter X.env x = pure x := by intro _; rfl) : PS X (.For tg iter body [] pos) (tFor wi g tb) := by
  intro pins s σ H D I h
  refine wpAny_For (thn (hi pins s σ H _ I h) fun v s1 h1 => thn h1 fun itv s2 h2 => ?_) hs
  obtain ⟨it, fp, tn, J, H2, e, I2, T, st2, f2, W, ⟨m0, w0⟩, turn⟩ := h2
  subst e
  -- what stays true of the iterator's objects through the loop
  have stat : ∀ {H' : Hp}, (∀ b ∈ fp, H' b = none) → ∀ b ∈ fp, FpOk X pins H' b := fun hn b hb => ⟨hn b hb, (f2 b hb).2⟩
  refine codeAny_forLoop_any (fun n s' => ∃ i σ' H', Inv X pins σ' H' s' ∧ tn i s'.heap ∧ (∀ b ∈ fp, H' b = none) ∧ W i n σ' H') ?_ m0 ⟨0, σ, H2, I2, st2, fun b hb => (f2 b hb).1, w0⟩
  rintro n s3 ⟨i, σ3, H3, I3, st3, fr3, w3⟩
  rcases turn i n σ3 H3 w3 with ⟨stop, qn⟩ | ⟨go, N, hN, step⟩
  · refine wpAny_passesOwn hp (thn (T.done X rfl rfl rfl hc i pins s3 σ3 H3 X.xe I3 (stat fr3) st3 stop) fun r s4 ⟨hr, I4⟩ => ?_)
    subst hr
    exact wpAny_execs_nil ⟨σ3, H3, I4, qn⟩
  · refine wpAny_passesOwn hp (thn (T.item X rfl rfl rfl hc i pins s3 σ3 H3 X.xe I3 (stat fr3) st3 go) fun r s4 ⟨u, hr, h4⟩ => ?_)
    subst hr
    refine wpAny_passesOwn hp (thn h4 fun _ s5 ⟨x, H5, I5, r5, y5, st5, fr5⟩ => ?_)
    have I5' := I5.pinned (stat fr5) (T.obj _ _ st5)
    refine wpAny_passesOwn hp (thn (hg _ s5 σ3 H5 x u _ I5' r5 (step x H5 y5)) fun _ s6 ⟨σ6, H6, I6, q6⟩ => ?_)
    refine wpAny_passesOwn hp (thn (hb _ s6 σ6 H6 _ I6 q6) fun f s7 q7 => ?_)
    have again : ∀ {σ7 : St} {H7 : Hp}, Inv X (pins ++ pinsAt fp s5.heap) σ7 H7 s7 → N σ7 H7 → ∃ m, m < n ∧ ∃ i σ' H', Inv X pins σ' H' s7 ∧ tn i s7.heap ∧ (∀ b ∈ fp, H' b = none) ∧ W i m σ' H' := fun {σ7 H7} I7 n7 => by
      obtain ⟨m', hm, w7⟩ := hN σ7 H7 n7
      refine ⟨m', hm, i + 1, σ7, H7, I7.unpinned, T.keep _ _ _ st5 fun b hb o e => (I7.pin (b, o) (List.mem_append_right _ (List.mem_append_right _ (mem_pinsAt hb e)))).1, fun b hb => ?_, w7⟩
      obtain ⟨o, e, d⟩ := T.obj _ _ st5 b hb
      exact (I7.pin (b, o) (List.mem_append_right _ (List.mem_append_right _ (mem_pinsAt hb e)))).2.1
    cases f with
    | next => obtain ⟨σ7, H7, I7, n7⟩ := q7; exact again I7 n7
    | cont => obtain ⟨σ7, H7, I7, n7⟩ := q7; exact again I7 n7
    | brk => obtain ⟨σ7, H7, I7, q7⟩ := q7; exact ⟨σ7, H7, I7.unpinned, q7⟩
    | ret v => obtain ⟨x7, σ7, H7, I7, r7, q7⟩ := q7; exact ⟨x7, σ7, H7, I7.unpinned, r7, q7⟩
end

/-! ### the forms one uses -/
/-- over a list that the body leaves as it is -/
theorem for_list {K : PySem.W.Frag} {a : Addr} {xs : List V} {g : TG} {tb : TS} {D : Ends} {σ : St} {H : Hp} (Pv : Nat → St → Hp → Prop) (h0 : Pv 0 σ H) (hl : ∀ i σ H, i ≤ xs.length → Pv i σ H → SqL K H a xs)
    (hs : ∀ i x σ H, xs[i]? = some x → Pv i σ H → g x σ H fun σ2 H2 => tb { D with nx := Pv (i + 1), ct := Pv (i + 1), bk := D.nx } σ2 H2) (hd : ∀ σ H, Pv xs.length σ H → D.nx σ H) :
    ∃ W : Nat → Nat → St → Hp → Prop, (∃ m, W 0 m σ H) ∧ ∀ i m σ H, W i m σ H →
      ((Itl K a).stop i H ∧ D.nx σ H) ∨ ((Itl K a).go i H ∧ ∃ N : St → Hp → Prop, (∀ σ' H', N σ' H' → ∃ m', m' < m ∧ W (i + 1) m' σ' H') ∧ ∀ x H', (Itl K a).yld i H x H' → g x σ H' fun σ2 H2 => tb { D with nx := N, ct := N, bk := D.nx } σ2 H2) := by
  refine ⟨fun i m σ H => m = xs.length - i ∧ i ≤ xs.length ∧ Pv i σ H, ⟨xs.length, by simp, Nat.zero_le _, h0⟩, ?_⟩
  rintro i m σ H ⟨rfl, hi, p⟩
  have q := hl i σ H hi p
  by_cases hlt : i < xs.length
  · refine .inr ⟨⟨xs, xs[i], q, by simp [hlt]⟩, Pv (i + 1), fun σ' H' p' => ⟨xs.length - (i + 1), by omega, rfl, hlt, p'⟩, fun x H' y => ?_⟩
    obtain ⟨e, y⟩ := y
    subst e
    exact hs i x σ _ (y xs q) p
  · have e : i = xs.length := by omega
    subst e
    exact .inl ⟨⟨xs, q, Nat.le_refl _⟩, hd σ H p⟩
theorem for_tup {K : PySem.W.Frag} {a : Addr} {xs : List V} {g : TG} {tb : TS} {D : Ends} {σ : St} {H : Hp} (Pv : Nat → St → Hp → Prop) (h0 : Pv 0 σ H) (hl : ∀ i σ H, i ≤ xs.length → Pv i σ H → SqT K H a xs)
    (hs : ∀ i x σ H, xs[i]? = some x → Pv i σ H → g x σ H fun σ2 H2 => tb { D with nx := Pv (i + 1), ct := Pv (i + 1), bk := D.nx } σ2 H2) (hd : ∀ σ H, Pv xs.length σ H → D.nx σ H) :
    ∃ W : Nat → Nat → St → Hp → Prop, (∃ m, W 0 m σ H) ∧ ∀ i m σ H, W i m σ H →
      ((Itt K a).stop i H ∧ D.nx σ H) ∨ ((Itt K a).go i H ∧ ∃ N : St → Hp → Prop, (∀ σ' H', N σ' H' → ∃ m', m' < m ∧ W (i + 1) m' σ' H') ∧ ∀ x H', (Itt K a).yld i H x H' → g x σ H' fun σ2 H2 => tb { D with nx := N, ct := N, bk := D.nx } σ2 H2) := by
  refine ⟨fun i m σ H => m = xs.length - i ∧ i ≤ xs.length ∧ Pv i σ H, ⟨xs.length, by simp, Nat.zero_le _, h0⟩, ?_⟩
  rintro i m σ H ⟨rfl, hi, p⟩
  have q := hl i σ H hi p
  by_cases hlt : i < xs.length
  · refine .inr ⟨⟨xs, xs[i], q, by simp [hlt]⟩, Pv (i + 1), fun σ' H' p' => ⟨xs.length - (i + 1), by omega, rfl, hlt, p'⟩, fun x H' y => ?_⟩
    obtain ⟨e, y⟩ := y
    subst e
    exact hs i x σ _ (y xs q) p
  · have e : i = xs.length := by omega
    subst e
    exact .inl ⟨⟨xs, q, Nat.le_refl _⟩, hd σ H p⟩
theorem for_range {lo : Int} {n : Nat} {g : TG} {tb : TS} {D : Ends} {σ : St} {H : Hp} (Pv : Nat → St → Hp → Prop) (h0 : Pv 0 σ H)
    (hs : ∀ i σ H, i < n → Pv i σ H → g (.int (lo + i)) σ H fun σ2 H2 => tb { D with nx := Pv (i + 1), ct := Pv (i + 1), bk := D.nx } σ2 H2) (hd : ∀ σ H, Pv n σ H → D.nx σ H) :
    ∃ W : Nat → Nat → St → Hp → Prop, (∃ m, W 0 m σ H) ∧ ∀ i m σ H, W i m σ H →
      ((Itr lo n).stop i H ∧ D.nx σ H) ∨ ((Itr lo n).go i H ∧ ∃ N : St → Hp → Prop, (∀ σ' H', N σ' H' → ∃ m', m' < m ∧ W (i + 1) m' σ' H') ∧ ∀ x H', (Itr lo n).yld i H x H' → g x σ H' fun σ2 H2 => tb { D with nx := N, ct := N, bk := D.nx } σ2 H2) := by
  refine ⟨fun i m σ H => m = n - i ∧ i ≤ n ∧ Pv i σ H, ⟨n, by simp, Nat.zero_le _, h0⟩, ?_⟩
  rintro i m σ H ⟨rfl, hi, p⟩
  by_cases hlt : i < n
  · refine .inr ⟨hlt, Pv (i + 1), fun σ' H' p' => ⟨n - (i + 1), by omega, rfl, hlt, p'⟩, fun x H' y => ?_⟩
    obtain ⟨e, y⟩ := y
    subst e y
    exact hs i σ _ hlt p
  · have e : i = n := by omega
    subst e
    exact .inl ⟨Nat.le_refl _, hd σ H p⟩
end L2

namespace L2
open PySem PySem.Spec PyProof.Rows

abbrev R2 := V → V → Hp → VK → Prop
/-- a two-place operation on values: f is binaryOp op, inplaceOp op or compareOp op -/
def OpR (X : Cx) (f : Value → Value → Sem Value) (r : R2) : Prop :=
  ∀ (pins : List (Addr × Obj)) (s : Shared) (σ : St) (H : Hp) (x y : V) (v u : Value) (Q : VK), Inv X pins σ H s → RelV x v → RelV y u → r x y H Q →
    wpAny (model X.prog X.w) X.A (f v u) (EP X pins σ Q) X.xe s
/-- a one-place operation -/
def UnR (X : Cx) (f : Value → Sem Value) (r : V → Hp → VK → Prop) : Prop :=
  ∀ (pins : List (Addr × Obj)) (s : Shared) (σ : St) (H : Hp) (x : V) (v : Value) (Q : VK), Inv X pins σ H s → RelV x v → r x H Q →
    wpAny (model X.prog X.w) X.A (f v) (EP X pins σ Q) X.xe s
/-- a call of a value that is known (a builtin, a type) with values -/
def CallR (X : Cx) (f : Value) (r : List V → Hp → VK → Prop) : Prop :=
  ∀ (pins : List (Addr × Obj)) (s : Shared) (σ : St) (H : Hp) (xs : List V) (us : List Value) (Q : VK), Inv X pins σ H s → Vals xs us → r xs H Q →
    wpAny (model X.prog X.w) X.A (call f us) (EP X pins σ Q) X.xe s
/-- a value's truth -/
def TruR (X : Cx) (r : V → Hp → (Bool → Hp → Prop) → Prop) : Prop :=
  ∀ (pins : List (Addr × Obj)) (s : Shared) (σ : St) (H : Hp) (x : V) (v : Value) (Q : Bool → Hp → Prop), Inv X pins σ H s → RelV x v → r x H Q →
    wpAny (model X.prog X.w) X.A (truthy v) (TP X pins σ Q) X.xe s

def tOp (r : R2) (ta tb : TE) : TE := fun σ H Q => ta σ H fun x H1 => tb σ H1 fun y H2 => r x y H2 Q
def tUn (r : V → Hp → VK → Prop) (ta : TE) : TE := fun σ H Q => ta σ H fun x H1 => r x H1 Q
/-- ints in, under C, and a value out -/
def rI (C : Int → Int → Prop) (g : Int → Int → V) : R2 := fun x y H Q => ∃ i j, x = .int i ∧ y = .int j ∧ C i j ∧ Q (g i j) H
def rI0 (g : Int → Int → V) : R2 := fun x y H Q => ∃ i j, x = .int i ∧ y = .int j ∧ Q (g i j) H
def rU (g : Int → V) : V → Hp → VK → Prop := fun x H Q => ∃ i, x = .int i ∧ Q (g i) H

section
variable {X : Cx} {a b c : Expr} {ta tb tc : TE} {pos : Pos}

theorem binT (ha : PE X a ta) (hb : PE X b tb) {pins : List (Addr × Obj)} {s : Shared} {σ : St} {H : Hp} {R : V → V → Hp → Prop} (I : Inv X pins σ H s)
    (h : ta σ H fun x H1 => tb σ H1 fun y H2 => R x y H2) {Q : Value → Shared → Prop} {f : Value → Value → Sem Value}
    (hf : ∀ v u s2 x y H2, Inv X pins σ H2 s2 → RelV x v → RelV y u → R x y H2 → wpAny (model X.prog X.w) X.A (f v u) Q X.xe s2) :
    wpAny (model X.prog X.w) X.A (eval a X.env) (fun v s₁ => wpAny (model X.prog X.w) X.A (eval b X.env) (fun u s₂ => wpAny (model X.prog X.w) X.A (f v u) Q X.xe s₂) X.xe s₁) X.xe s := by
  refine thn (ha pins s σ H _ I h) fun v s1 ⟨x, H1, I1, r1, q1⟩ => ?_
  refine thn (hb pins s1 σ H1 _ I1 q1) fun u s2 ⟨y, H2, I2, r2, q2⟩ => ?_
  exact hf v u s2 x y H2 I2 r1 r2 q2

theorem pe_op {op : Operator} {r : R2} (ho : OpR X (binaryOp op) r) (ha : PE X a ta) (hb : PE X b tb) : PE X (.BinOp a op b pos) (tOp r ta tb) := by
  intro pins s σ H Q I h
  exact wpAny_BinOp (binT ha hb I h fun v u s2 x y H2 I2 rx ry q => ho pins s2 σ H2 x y v u Q I2 rx ry q)
theorem pe_un {op : UnaryOp} {r : V → Hp → VK → Prop} (ho : UnR X (unaryOp op) r) (ha : PE X a ta) : PE X (.UnaryOp op a pos) (tUn r ta) := by
  intro pins s σ H Q I h
  exact UnaryOp_ (thn (ha pins s σ H _ I h) fun v s1 ⟨x, H1, I1, r1, q1⟩ => ho pins s1 σ H1 x v Q I1 r1 q1)

/-! ### ints -/
theorem opI {f : Value → Value → Sem Value} {C : Int → Int → Prop} {g : Int → Int → Int}
    (rule : ∀ (i j : Int) (t u : Tok) (s : Shared) (Q : Value → Shared → Prop) (E : Value → Shared → Prop), C i j → Q (.int (g i j) s.toks) { s with toks := s.toks + 1 } → wpAny (model X.prog X.w) X.A (f (.int i t) (.int j u)) Q E s) :
    OpR X f (rI C fun i j => .int (g i j)) := by
  intro pins s σ H x y v u Q I rx ry h
  obtain ⟨i, j, rfl, rfl, hc, q⟩ := h
  obtain ⟨t, rfl⟩ := rx
  obtain ⟨t', rfl⟩ := ry
  exact rule i j t t' s _ _ hc ⟨.int (g i j), H, I.tok _, ⟨_, rfl⟩, q⟩
theorem opI0 {f : Value → Value → Sem Value} {g : Int → Int → Int}
    (rule : ∀ (i j : Int) (t u : Tok) (s : Shared) (Q : Value → Shared → Prop) (E : Value → Shared → Prop), Q (.int (g i j) s.toks) { s with toks := s.toks + 1 } → wpAny (model X.prog X.w) X.A (f (.int i t) (.int j u)) Q E s) :
    OpR X f (rI0 fun i j => .int (g i j)) := by
  intro pins s σ H x y v u Q I rx ry h
  obtain ⟨i, j, rfl, rfl, q⟩ := h
  obtain ⟨t, rfl⟩ := rx
  obtain ⟨t', rfl⟩ := ry
  exact rule i j t t' s _ _ ⟨.int (g i j), H, I.tok _, ⟨_, rfl⟩, q⟩
theorem opB0 {f : Value → Value → Sem Value} {g : Int → Int → Bool}
    (rule : ∀ (i j : Int) (t u : Tok) (s : Shared) (Q : Value → Shared → Prop) (E : Value → Shared → Prop), Q (.bool (g i j)) s → wpAny (model X.prog X.w) X.A (f (.int i t) (.int j u)) Q E s) :
    OpR X f (rI0 fun i j => .bl (g i j)) := by
  intro pins s σ H x y v u Q I rx ry h
  obtain ⟨i, j, rfl, rfl, q⟩ := h
  obtain ⟨t, rfl⟩ := rx
  obtain ⟨t', rfl⟩ := ry
  exact rule i j t t' s _ _ ⟨.bl (g i j), H, I, rfl, q⟩

def CDiv (i j : Int) : Prop := 0 < j ∧ j < 1073741824
def CPow (i j : Int) : Prop := 0 ≤ j ∧ j ≤ 1000000 ∧ i.natAbs < 2 ^ 64
def CMul (i j : Int) : Prop := (-(2 ^ 64) < i ∧ i < 2 ^ 64) ∨ (-(2 ^ 64) < j ∧ j < 2 ^ 64)
theorem CMul.ok {i j : Int} (h : CMul i j) : IntMulOk i j := by
  rcases h with ⟨h1, h2⟩ | ⟨h1, h2⟩
  · exact .of_left (intBits_le_64 h1 h2)
  · exact .of_right (intBits_le_64 h1 h2)

theorem op_add : OpR X (binaryOp .Add) (rI0 fun i j => .int (i + j)) := opI0 fun _ _ _ _ _ _ _ q => add_int q
theorem op_sub : OpR X (binaryOp .Sub) (rI0 fun i j => .int (i - j)) := opI0 fun _ _ _ _ _ _ _ q => sub_int q
theorem op_mul : OpR X (binaryOp .Mult) (rI CMul fun i j => .int (i * j)) := opI fun _ _ _ _ _ _ _ hc q => mul_int q hc.ok
/-- // by a positive divisor -/
theorem op_fdiv : OpR X (binaryOp .FloorDiv) (rI CDiv fun i j => .int (i / j)) := opI fun i j _ _ _ _ _ hc q => by
  have h1 : (0 : Int) < j := hc.1
  have h2 : j < 1073741824 := hc.2
  exact floordiv_int (by omega) (by rw [Int.fdiv_eq_ediv_of_nonneg i (by omega)]; exact q) (.inl (PyProof.noPylong_small (by omega)))
/-- % by a positive divisor of any size -/
theorem op_mod : OpR X (binaryOp .Mod) (rI (fun _ j => 0 < j) fun i j => .int (i % j)) := opI fun i j _ _ _ _ _ hc q => by
  have h1 : (0 : Int) < j := hc
  exact mod_int' (by omega) (by rw [Int.fmod_eq_emod_of_nonneg i (by omega)]; exact q)
theorem op_pow : OpR X (binaryOp .Pow) (rI CPow fun i j => .int (i ^ j.toNat)) := opI fun _ _ _ _ _ _ _ hc q => pow_int_small hc.1 hc.2.1 hc.2.2 q


theorem unI {f : Value → Sem Value} {g : Int → Int}
    (rule : ∀ (i : Int) (t : Tok) (s : Shared) (Q : Value → Shared → Prop) (E : Value → Shared → Prop), Q (.int (g i) s.toks) { s with toks := s.toks + 1 } → wpAny (model X.prog X.w) X.A (f (.int i t)) Q E s) :
    UnR X f (rU fun i => .int (g i)) := by
  intro pins s σ H x v Q I rx h
  obtain ⟨i, rfl, q⟩ := h
  obtain ⟨t, rfl⟩ := rx
  exact rule i t s _ _ ⟨.int (g i), H, I.tok _, ⟨_, rfl⟩, q⟩
theorem un_neg : UnR X (unaryOp .USub) (rU fun i => .int (-i)) := unI fun _ _ _ _ _ q => neg_int q

/-! ### bools among ints: n += (a < b) -/
end

/-! ### comparisons -/
/-- the scalars that == tells apart as data does -/
def scal : V → V → Bool
  | .non, .non => true | .non, .int _ => true | .int _, .non => true | .non, .bl _ => true | .bl _, .non => true | .non, .str _ => true | .str _, .non => true
  | .int _, .int _ => true | .bl _, .bl _ => true | .str _, .str _ => true | .byt _, .byt _ => true
  | .int _, .str _ => true | .str _, .int _ => true | .bl _, .str _ => true | .str _, .bl _ => true
  | _, _ => false
def rEq : R2 := fun x y H Q => scal x y = true ∧ Q (.bl (decide (x = y))) H
def rNe : R2 := fun x y H Q => scal x y = true ∧ Q (.bl (!decide (x = y))) H

theorem dec_int {i j : Int} : decide (V.int i = V.int j) = (i == j) := by
  rw [Bool.eq_iff_iff]
  simp
theorem dec_bl {i j : Bool} : decide (V.bl i = V.bl j) = (i == j) := by
  rw [Bool.eq_iff_iff]
  simp
theorem dec_str {i j : Str} : decide (V.str i = V.str j) = (i == j) := by
  rw [Bool.eq_iff_iff]
  simp
theorem dec_byt {i j : Array UInt8} : decide (V.byt i = V.byt j) = (i.toList == j.toList) := by
  rw [Bool.eq_iff_iff]
  cases i
  cases j
  simp

section
variable {X : Cx} {a b c : Expr} {ta tb tc : TE} {pos : Pos}
theorem fin_bl {pins : List (Addr × Obj)} {σ : St} {H : Hp} {s : Shared} {Q : VK} {k k' : Bool} (I : Inv X pins σ H s) (q : Q (.bl k) H) (e : k = k') : EP X pins σ Q (.bool k') s := by
  subst e
  exact ⟨.bl k, H, I, rfl, q⟩
theorem op_eq : OpR X (compareOp .Eq) rEq := by
  intro pins s σ H x y v u Q I rx ry h
  obtain ⟨hs, q⟩ := h
  cases x with
  | non =>
    cases rx
    cases y with
    | non => cases ry; exact PySem.EqNone.eq_none_none (fin_bl I q (by simp))
    | bl j => cases ry; exact PySem.EqNone.eq_none_bool (fin_bl I q (by simp))
    | int j => obtain ⟨t', rfl⟩ := ry; exact PySem.EqNone.eq_none_int (fin_bl I q (by simp))
    | str j => obtain ⟨t', rfl⟩ := ry; exact PySem.EqNone.eq_none_str (fin_bl I q (by simp))
    | _ => exact absurd (show false = true from hs) Bool.false_ne_true
  | bl i =>
    cases rx
    cases y with
    | non => cases ry; exact PySem.EqNone.eq_bool_none (fin_bl I q (by simp))
    | bl j => cases ry; exact eq_bool (fin_bl I q dec_bl)
    | str j => obtain ⟨t', rfl⟩ := ry; exact PySem.EqMixed.eq_bool_str (fin_bl I q (by simp))
    | _ => exact absurd (show false = true from hs) Bool.false_ne_true
  | int i =>
    obtain ⟨t, rfl⟩ := rx
    cases y with
    | non => cases ry; exact PySem.EqNone.eq_int_none (fin_bl I q (by simp))
    | int j => obtain ⟨t', rfl⟩ := ry; exact eq_int (fin_bl I q dec_int)
    | str j => obtain ⟨t', rfl⟩ := ry; exact PySem.EqMixed.eq_int_str (fin_bl I q (by simp))
    | _ => exact absurd (show false = true from hs) Bool.false_ne_true
  | str i =>
    obtain ⟨t, rfl⟩ := rx
    cases y with
    | non => cases ry; exact PySem.EqNone.eq_str_none (fin_bl I q (by simp))
    | bl j => cases ry; exact PySem.EqMixed.eq_str_bool (fin_bl I q (by simp))
    | int j => obtain ⟨t', rfl⟩ := ry; exact PySem.EqMixed.eq_str_int (fin_bl I q (by simp))
    | str j => obtain ⟨t', rfl⟩ := ry; exact eq_str (fin_bl I q dec_str)
    | _ => exact absurd (show false = true from hs) Bool.false_ne_true
  | byt i =>
    obtain ⟨t, rfl⟩ := rx
    cases y with
    | byt j => obtain ⟨t', rfl⟩ := ry; exact PySem.W.eq_bytes (fin_bl I q dec_byt)
    | _ => exact absurd (show false = true from hs) Bool.false_ne_true
  | _ => cases y <;> exact absurd (show false = true from hs) Bool.false_ne_true
theorem op_ne : OpR X (compareOp .NotEq) rNe := by
  intro pins s σ H x y v u Q I rx ry h
  obtain ⟨hs, q⟩ := h
  cases x with
  | non =>
    cases rx
    cases y with
    | non => cases ry; exact PySem.EqNone.ne_none_none (fin_bl I q (by simp))
    | bl j => cases ry; exact PySem.EqNone.ne_none_bool (fin_bl I q (by simp))
    | int j => obtain ⟨t', rfl⟩ := ry; exact PySem.EqNone.ne_none_int (fin_bl I q (by simp))
    | str j => obtain ⟨t', rfl⟩ := ry; exact PySem.EqNone.ne_none_str (fin_bl I q (by simp))
    | _ => exact absurd (show false = true from hs) Bool.false_ne_true
  | bl i =>
    cases rx
    cases y with
    | non => cases ry; exact PySem.EqNone.ne_bool_none (fin_bl I q (by simp))
    | bl j => cases ry; exact ne_bool (fin_bl I q (congrArg not dec_bl))
    | str j => obtain ⟨t', rfl⟩ := ry; exact PySem.EqMixed.ne_bool_str (fin_bl I q (by simp))
    | _ => exact absurd (show false = true from hs) Bool.false_ne_true
  | int i =>
    obtain ⟨t, rfl⟩ := rx
    cases y with
    | non => cases ry; exact PySem.EqNone.ne_int_none (fin_bl I q (by simp))
    | int j => obtain ⟨t', rfl⟩ := ry; exact ne_int (fin_bl I q (congrArg not dec_int))
    | str j => obtain ⟨t', rfl⟩ := ry; exact PySem.EqMixed.ne_int_str (fin_bl I q (by simp))
    | _ => exact absurd (show false = true from hs) Bool.false_ne_true
  | str i =>
    obtain ⟨t, rfl⟩ := rx
    cases y with
    | non => cases ry; exact PySem.EqNone.ne_str_none (fin_bl I q (by simp))
    | bl j => cases ry; exact PySem.EqMixed.ne_str_bool (fin_bl I q (by simp))
    | int j => obtain ⟨t', rfl⟩ := ry; exact PySem.EqMixed.ne_str_int (fin_bl I q (by simp))
    | str j => obtain ⟨t', rfl⟩ := ry; exact ne_str (fin_bl I q (congrArg not dec_str))
    | _ => exact absurd (show false = true from hs) Bool.false_ne_true
  | byt i =>
    obtain ⟨t, rfl⟩ := rx
    cases y with
    | byt j => obtain ⟨t', rfl⟩ := ry; exact PySem.W.ne_bytes (fin_bl I q (congrArg not dec_byt))
    | _ => exact absurd (show false = true from hs) Bool.false_ne_true
  | _ => cases y <;> exact absurd (show false = true from hs) Bool.false_ne_true

theorem op_lt : OpR X (compareOp .Lt) (rI0 fun i j => .bl (decide (i < j))) := opB0 fun _ _ _ _ _ _ _ q => lt_int q
theorem op_gt : OpR X (compareOp .Gt) (rI0 fun i j => .bl (decide (j < i))) := opB0 fun _ _ _ _ _ _ _ q => gt_int q

/-- is None, is not None: the right side a value none -/
theorem op_isN : OpR X (compareOp .Is) (fun x y H Q => y = .non ∧ Q (.bl (decide (x = .non))) H) := by
  intro pins s σ H x y v u Q I rx ry h
  obtain ⟨rfl, q⟩ := h
  cases ry
  refine is_none_gen (fin_bl I q ?_)
  cases x <;> first
    | (cases rx; rfl)
    | (obtain ⟨t, rfl⟩ := rx; rfl)
theorem op_notN : OpR X (compareOp .IsNot) (fun x y H Q => y = .non ∧ Q (.bl (!decide (x = .non))) H) := by
  intro pins s σ H x y v u Q I rx ry h
  obtain ⟨rfl, q⟩ := h
  cases ry
  refine isnot_none_gen (fin_bl I q ?_)
  cases x <;> first
    | (cases rx; rfl)
    | (obtain ⟨t, rfl⟩ := rx; rfl)



theorem nomark (b : Expr) {op : CmpOp} (h : op ≠ .In := by decide) (h2 : op ≠ .NotIn := by decide) : behindInMarks op b = false := by
  have e1 : (op == CmpOp.In) = false := by cases op <;> first | rfl | exact absurd rfl h
  have e2 : (op == CmpOp.NotIn) = false := by cases op <;> first | rfl | exact absurd rfl h2
  cases b <;> simp [behindInMarks, e1, e2]
/-- a comparison as a value; hm: nomark b, or (for in, not in) by with_unfolding_all rfl -/
theorem pe_cmpR {op : CmpOp} {r : R2} (ho : OpR X (compareOp op) r) (ha : PE X a ta) (hb : PE X b tb) (hm : behindInMarks op b = false) : PE X (.Compare a [op] [b] pos) (tOp r ta tb) := by
  intro pins s σ H Q I h
  exact wpAny_Compare1 (binT ha hb I h fun v u s2 x y H2 I2 rx ry q => ho pins s2 σ H2 x y v u Q I2 rx ry q) hm
/-- a reading of a value as a test -/
def tTest (t : TE) : TT := fun σ H Q => t σ H fun x H' => ∃ k, x = .bl k ∧ Q k H'
theorem pt_cmpR {op : CmpOp} {r : R2} (ho : OpR X (compareOp op) r) (ha : PE X a ta) (hb : PE X b tb) (hm : behindInMarks op b = false) : PT X (.Compare a [op] [b] pos) (tTest (tOp r ta tb)) := by
  intro pins s σ H Q I h
  refine wpAny_isTrue_Compare1 (thn (ha pins s σ H _ I h) fun v s1 ⟨x, H1, I1, r1, q1⟩ => thn (hb pins s1 σ H1 _ I1 q1) fun u s2 ⟨y, H2, I2, r2, q2⟩ =>
    thn (ho pins s2 σ H2 x y v u _ I2 r1 r2 q2) fun c s3 ⟨z, H3, I3, r3, k, e, q3⟩ => ?_) hm
  subst e
  cases r3
  exact wpAny_truthy_bool ⟨H3, I3, q3⟩

/-! ### truth -/
/-- a value's truth by the abstract heap -/
def TruV (K : PySem.W.Frag) (x : V) (H : Hp) (k : Bool) : Prop :=
  match x with
  | .non => k = false
  | .bl b => k = b
  | .int i => k = (i != 0)
  | .str y => y.length ≤ sizeLine ∧ k = ((y.length : Int) != 0)
  | .byt y => y.size ≤ sizeLine ∧ k = ((y.size : Int) != 0)
  | .ref p => (∃ xs, SqL K H p xs ∧ k = !xs.isEmpty) ∨ (∃ xs, SqT K H p xs ∧ k = !xs.isEmpty) ∨ ∃ kvs, H p = some (.dK kvs) ∧ k = !kvs.isEmpty
  | _ => False
theorem isEmpty_kv {κ : Type} {kvs : List (κ × V)} {vs : List (κ × Value)} (r : KV kvs vs) : (!vs.isEmpty) = !kvs.isEmpty := by
  cases r <;> rfl
theorem isEmpty_of {xs : List V} {its : List Value} (r : Vals xs its) : (!its.toArray.isEmpty) = !xs.isEmpty := by
  cases r <;> simp
theorem line63 : (sizeLine : Nat) < 2 ^ 63 := by rw [sizeLine_eq]; decide
theorem tru_ok : TruR X (fun x H Q => ∃ k, TruV X.K x H k ∧ Q k H) := by
  intro pins s σ H x v Q I rx h
  obtain ⟨k, e, q⟩ := h
  have hl := line63
  have hs : sizeLine = 16777216 := sizeLine_eq
  cases x with
  | non =>
    cases rx
    have e' : k = false := e
    subst e'
    exact truthy_none ⟨H, I, q⟩
  | bl b =>
    cases rx
    have e' : k = b := e
    subst e'
    exact wpAny_truthy_bool ⟨H, I, q⟩
  | int i =>
    obtain ⟨t, rfl⟩ := rx
    have e' : k = (i != 0) := e
    subst e'
    exact PySem.P.truthy_int ⟨H, I, q⟩
  | str y =>
    obtain ⟨t, rfl⟩ := rx
    obtain ⟨hy, e'⟩ : y.length ≤ sizeLine ∧ k = ((y.length : Int) != 0) := e
    subst e'
    exact PySem.P.truthy_str (by omega) ⟨H, I.tok _, q⟩
  | byt y =>
    obtain ⟨t, rfl⟩ := rx
    obtain ⟨hy, e'⟩ : y.size ≤ sizeLine ∧ k = ((y.size : Int) != 0) := e
    subst e'
    exact PySem.W.truthy_bytes (by omega) ⟨H, I.tok _, q⟩
  | ref p =>
    cases rx
    have e' : (∃ xs, SqL X.K H p xs ∧ k = !xs.isEmpty) ∨ (∃ xs, SqT X.K H p xs ∧ k = !xs.isEmpty) ∨ ∃ kvs, H p = some (.dK kvs) ∧ k = !kvs.isEmpty := e
    rcases e' with ⟨xs, hx, e'⟩ | ⟨xs, hx, e'⟩ | ⟨kvs, hx, e'⟩
    · subst e'
      obtain ⟨its, r, pl, hz⟩ := I.list hx
      have hlen := r.length
      exact wpAny_truthy_list pl.isList (by simp only [List.size_toArray]; omega) ⟨H, I.tok _, by rw [isEmpty_of r]; exact q⟩
    · subst e'
      obtain ⟨its, r, pl, hz⟩ := I.tuple hx
      have hlen := r.length
      exact truthy_tuple pl (by simp only [List.size_toArray]; omega) ⟨H, I.tok _, by rw [isEmpty_of r]; exact q⟩
    · subst e'
      obtain ⟨hz, hS, vs, r, m⟩ : kvs.length ≤ sizeLine ∧ (p == sysModules) = false ∧ ∃ vs, KV kvs vs ∧ s.heap.DictOf (mixKind X.prog X.w) p vs := I.hok p _ hx
      have hlen : kvs.length = vs.length := Paired.length r
      exact wpAny_truthy_dict hS m (by omega) ⟨H, I.tok _, by rw [isEmpty_kv r]; exact q⟩
  | _ => exact (show False from e).elim
/-- any expression whose test is its value's truth (a name, a call, a subscript, a field ..: he by fun _ => rfl) -/
theorem pt_truth (ha : PE X a ta) (he : ∀ whole, isTrue a X.env whole = (do let v ← whole; standAt a.pos; holding [v] (truthy v))) :
    PT X a (fun σ H Q => ta σ H fun x H' => ∃ k, TruV X.K x H' k ∧ Q k H') := by
  intro pins s σ H Q I h
  exact isTrue_plain (thn (ha pins s σ H _ I h) fun v s1 ⟨x, H1, I1, r1, q1⟩ => tru_ok pins s1 σ H1 x v Q I1 r1 q1) (he _)

/-! ### strs and bytes -/
theorem op_add_str : OpR X (binaryOp .Add) (fun x y H Q => ∃ i j, x = .str i ∧ y = .str j ∧ i.length + j.length ≤ sizeLine ∧ Q (.str (i ++ j)) H) := by
  intro pins s σ H x y v u Q I rx ry h
  obtain ⟨i, j, rfl, rfl, hz, q⟩ := h
  obtain ⟨t, rfl⟩ := rx
  obtain ⟨t', rfl⟩ := ry
  exact add_str (fun t' tk => ⟨.str (i ++ j), H, I.tok _, ⟨_, rfl⟩, q⟩) hz


/-! ### scalar builtins, by CallR -/
theorem vals1 {x : V} {us : List Value} (r : Vals [x] us) : ∃ u, us = [u] ∧ RelV x u := by
  cases r with
  | cons r1 r2 => cases r2; exact ⟨_, rfl, r1⟩
theorem vals2 {x y : V} {us : List Value} (r : Vals [x, y] us) : ∃ u w', us = [u, w'] ∧ RelV x u ∧ RelV y w' := by
  cases r with
  | cons r1 r2 =>
    cases r2 with
    | cons r3 r4 => cases r4; exact ⟨_, _, rfl, r1, r3⟩
end
end L2

namespace L2
open PySem PySem.Spec PyProof.Rows

/-! ### an instance, its attributes a map -/
structure ObjM (h : Heap) (x dx C : Addr) (mA : Str → Option Value) : Prop where
  obj : h.get? x = some (PySem.W.instObj C dx)
  ns : h.Ns1 dx mA
  ne : dx ≠ x

theorem lookIn_ns {h : Heap} {dx : Addr} {mA : Str → Option Value} (n : h.Ns1 dx mA) : ∃ od, h.get? dx = some od ∧ ∀ name, PySem.W.lookIn name od = some (mA name) := by
  obtain ⟨o, es, ep, ho, hd, hk, _, hm⟩ := n
  refine ⟨o, ho, fun name => ?_⟩
  have e := hm name
  unfold nsFind findBy at e
  rw [← Array.find?_toList] at e
  unfold PySem.W.lookIn
  rw [hd]
  dsimp only
  split
  · rename_i y q
    rw [q] at e
    exact congrArg some e
  · rename_i q
    rw [q] at e
    have a : es.toList.any (·.refKey) = false := by
      rw [List.any_eq_false]
      intro y hy
      obtain ⟨z, t, hkey⟩ := hk y (Array.mem_toList_iff.mp hy)
      simp [DictEntry.refKey, hkey]
    have a' : ¬ es.toList.any (·.refKey) = true := by rw [a]; exact Bool.false_ne_true
    rw [if_neg a']
    exact congrArg some e

theorem ObjM.look {h : Heap} {x dx C : Addr} {mA : Str → Option Value} (I : ObjM h x dx C mA) : ∃ od, PySem.W.InstAt h x (PySem.W.instObj C dx) C (some od) ∧ ∀ name, PySem.W.lookIn name od = some (mA name) :=
  let ⟨od, ho, hl⟩ := lookIn_ns I.ns
  ⟨od, ⟨I.obj, rfl, rfl, ho⟩, hl⟩

section
variable {prog : Program} {w : World} {A : Around} {E : Value → Shared → Prop} {s : Shared} {K : PySem.W.Frag} {x dx C f : Addr} {mA : Str → Option Value} {name : Str} {v : Value}

theorem get_map {expr : Bool} {Q : Value → Shared → Prop} (X : K.In s.heap) (I : ObjM s.heap x dx C mA) (hg : PySem.W.plainGet K C name = true) (hh : PySem.W.hasDictIn K C = true)
    (ha : PySem.W.findIn K (.ref C) name = some none) (hv : mA name = some v) (hv' : PySem.W.handedIn v = true) (h : Q v { s with toks := s.toks + 1 }) :
    wpAny (model prog w) A (getAttr (.ref x) name expr) Q E s := by
  obtain ⟨od, J, hl⟩ := I.look
  exact PySem.W.get_value X J (PySem.W.plainGet_of hg).1 (PySem.W.findObj_own hh ha rfl (by rw [hl, hv])) hv' h


theorem get_meth {pl : Sem Bool} {Q : Value × List Value → Shared → Prop} (X : K.In s.heap) (I : ObjM s.heap x dx C mA) (hg : PySem.W.plainGet K C name = true)
    (hf : PySem.W.findIn K (.ref C) name = some (some (.ref f))) (ht : PySem.W.isFn K (.ref f) = true) (hv : mA name = none) (h : Q (.ref f, [.ref x]) s) :
    wpAny (model prog w) A (getMethod (.ref x) name pl) Q E s := by
  obtain ⟨od, J, hl⟩ := I.look
  exact PySem.W.method_fn X J (PySem.W.plainGet_of hg).1 (PySem.W.plainGet_of hg).2 hf (beq_iff_eq.mp ht) (by show (PySem.W.lookIn name od).map (·.isSome) = some false; rw [hl, hv]; rfl) h

theorem set_map {ns : List Str} {Q : Unit → Shared → Prop} (X : K.In s.heap) (I : ObjM s.heap x dx C mA)
    (hs : PySem.W.findIn K (.ref C) "__setattr__" = some (some (.builtin "object.__setattr__"))) (hp : PySem.W.plainOver K C = true) (ht : PySem.W.takerIn K C name = some none) (hh : PySem.W.hasDictIn K C = true)
    (hw : PySem.Within mA ns) (hsz : ns.length ≤ sizeLine)
    (h : ∀ h', ObjM h' x dx C (fun y => if y = name then some v else mA y) → Heap.SameBut dx s.heap h' → Q () { s with heap := h', toks := s.toks + 2 }) :
    wpAny (model prog w) A (setAttr (.ref x) name v) Q E s := by
  obtain ⟨od, J, hl⟩ := I.look
  refine PySem.W.set_plain X J hs (PySem.W.osa_open (s := { s with toks := s.toks + 1 }) (r := none) X J hp ht fun b => ?_)
  obtain ⟨cd, hc, hd'⟩ := PySem.W.any_some hh
  have hx : s.heap.get? x = some ⟨.ref C, some dx, .plain, #[]⟩ := I.obj
  refine wpAny_bind (wpAny_pure (wpAny_bind (wpAny_bind (wpAny_loadPart hx (wpAny_bind (PySem.W.Looks.here (s := { s with toks := s.toks + 1 }) (PySem.W.looks_clsIn X hc) ?_))))))
  rw [hd']
  refine wpAny_pure (a := some dx) (wpAny_bind (wpAny_pure (wpAny_bind ?_)))
  refine wpAny_nsSet1 (s := { s with toks := s.toks + 1 }) I.ns fun h' hn2 hs2 => ?_
  obtain ⟨oD, esD, epD, hoD, hdD, hcD⟩ := hn2.count (PySem.Within.cons name v hw)
  refine wpAny_bind (wpAny_lookBehind hoD (by rw [hdD]; exact pastItsLine_dict (Nat.le_trans hcD (by rw [List.length_cons]; omega))) ?_)
  exact wpAny_pure (h _ ⟨(hs2.2 _ (Ne.symm I.ne)).trans I.obj, hn2, I.ne⟩ hs2)

/-- C(..): the dict at the heap's end, the instance behind it; then its __init__ -/
theorem make_map {R : Result → Shared → Prop} {vs : List Value} {kw : List (Str × Value)} (X : K.In s.heap) (hm : PySem.W.makesIn K C = true)
    (hi : PySem.W.findIn K (.ref C) "__init__" = some (some (.ref f))) (hf : PySem.W.typeIn K (.ref f) = some (.type "function"))
    (h : codeAny (model prog w) (A.under (.builtin "type.__call__" ⟨.ref C :: vs, kw⟩)) (.call (.ref f) ⟨.ref (s.heap.objs.size + 1) :: vs, kw⟩) (PySem.W.InitBack (s.heap.objs.size + 1) R)
      { s with heap := (s.heap.push PySem.W.emptyDict).push (PySem.W.instObj C s.heap.objs.size) }) :
    codeAny (model prog w) A (.call (.ref C) ⟨vs, kw⟩) R s := by
  obtain ⟨hh, g, d, t, os⟩ := s
  exact PySem.W.make_core (PySem.W.makes_of X hm) (PySem.W.looks_findIn X hi) (fun self => PySem.W.bind_fn X self hf) (.inl rfl) h
end

/-! ### the attributes as a list of pairs -/
def putF (f : Str) (v : V) : List (Str × V) → List (Str × V)
  | [] => [(f, v)]
  | (g, x) :: r => if g = f then (g, v) :: r else (g, x) :: putF f v r
theorem lookup_putF (f g : Str) (v : V) : ∀ fs : List (Str × V), (putF f v fs).lookup g = if g = f then some v else fs.lookup g
  | [] => by
    show List.lookup g [(f, v)] = _
    by_cases h : g = f
    · have hb : (g == f) = true := beq_iff_eq.mpr h
      simp only [List.lookup, hb, if_pos h]
    · have hb : (g == f) = false := beq_eq_false_iff_ne.mpr h
      simp only [List.lookup, hb, if_neg h]
  | (k, x) :: r => by
    have ih := lookup_putF f g v r
    rw [show putF f v ((k, x) :: r) = (if k = f then (k, v) :: r else (k, x) :: putF f v r) from rfl]
    by_cases hk : k = f
    · rw [if_pos hk]
      by_cases h : g = k
      · have hb : (g == k) = true := beq_iff_eq.mpr h
        simp only [List.lookup, hb, if_pos (h.trans hk)]
      · have hb : (g == k) = false := beq_eq_false_iff_ne.mpr h
        simp only [List.lookup, hb, if_neg (fun e : g = f => h (e.trans hk.symm))]
    · rw [if_neg hk]
      by_cases h : g = k
      · have hb : (g == k) = true := beq_iff_eq.mpr h
        simp only [List.lookup, hb, if_neg (fun e : g = f => hk (h.symm.trans e))]
      · have hb : (g == k) = false := beq_eq_false_iff_ne.mpr h
        simp only [List.lookup, hb]
        exact ih
theorem keys_putF (f : Str) (v : V) : ∀ fs : List (Str × V), f ∈ (putF f v fs).map (·.1) ∧ ∀ g, g ∈ fs.map (·.1) → g ∈ (putF f v fs).map (·.1)
  | [] => ⟨by simp [putF], fun g h => by simp at h⟩
  | (k, x) :: r => by
    obtain ⟨i1, i2⟩ := keys_putF f v r
    rw [show putF f v ((k, x) :: r) = (if k = f then (k, v) :: r else (k, x) :: putF f v r) from rfl]
    by_cases hk : k = f
    · rw [if_pos hk]
      subst hk
      exact ⟨by simp, fun g h => by simpa using h⟩
    · rw [if_neg hk]
      refine ⟨?_, fun g h => ?_⟩
      · rw [List.map_cons]
        exact List.mem_cons_of_mem _ i1
      · rw [List.map_cons] at h ⊢
        rcases List.mem_cons.mp h with e | e
        · exact List.mem_cons.mpr (.inl e)
        · exact List.mem_cons_of_mem _ (i2 g e)
theorem length_putF (f : Str) (v : V) : ∀ fs : List (Str × V), (putF f v fs).length ≤ fs.length + 1
  | [] => by simp [putF]
  | (k, x) :: r => by
    have ih := length_putF f v r
    rw [show putF f v ((k, x) :: r) = (if k = f then (k, v) :: r else (k, x) :: putF f v r) from rfl]
    by_cases hk : k = f
    · rw [if_pos hk, List.length_cons, List.length_cons]; omega
    · rw [if_neg hk, List.length_cons, List.length_cons]; omega

theorem RelO.some_of {v : V} {o : Option Value} (r : RelO (some v) o) : ∃ u, o = some u ∧ RelV v u := by
  cases o with
  | none => exact (show False from r).elim
  | some u => exact ⟨u, rfl, r⟩
theorem RelO.none_of {o : Option Value} (r : RelO none o) : o = none := by
  cases o with
  | none => rfl
  | some u => exact (show False from r).elim
theorem handed_of {v : V} {u : Value} (r : RelV v u) : PySem.W.handedIn u = true := by
  cases v with
  | non => cases (show u = Value.none from r); rfl
  | bl b => cases (show u = Value.bool b from r); rfl
  | int i => obtain ⟨t, e⟩ := (show ∃ t, u = Value.int i t from r); cases e; rfl
  | str x => obtain ⟨t, e⟩ := (show ∃ t, u = Value.str x t from r); cases e; rfl
  | byt b => obtain ⟨t, e⟩ := (show ∃ t, u = Value.bytes b t from r); cases e; rfl
  | flt b => obtain ⟨t, e⟩ := (show ∃ t, u = Value.float b t from r); cases e; rfl
  | ref a => cases (show u = Value.ref a from r); rfl
  | ty n => cases (show u = Value.type n from r); rfl

section
variable {P : Program} {w : World} {H H' : Hp} {h h' : Heap} {a C dx : Addr} {fs fs' : List (Str × V)}
theorem ins_get (hok : HOk P w H h) (e : H a = some (.ins C dx fs)) : ∃ mA, ObjM h a dx C mA ∧ (∀ f, RelO (fs.lookup f) (mA f)) ∧ PySem.Within mA (fs.map (·.1)) ∧ fs.length ≤ 1000 ∧ H dx = some (.own a) := by
  obtain ⟨d, z, ne, ob, mA, n, r, q⟩ := (show ObjOk P w H h a (.ins C dx fs) from hok a _ e)
  exact ⟨mA, ⟨ob, n, ne⟩, r, q, z, d⟩
end

/-! ### what of the text a class must have -/
structure Cls (K : PySem.W.Frag) (C : Addr) : Prop where
  pg : PySem.W.plainGet K C Str.empty = true
  hd : PySem.W.hasDictIn K C = true
  po : PySem.W.plainOver K C = true
  sa : PySem.W.findIn K (.ref C) "__setattr__" = some (some (.builtin "object.__setattr__"))
theorem Cls.get {K : PySem.W.Frag} {C : Addr} (c : Cls K C) (f : Str) : PySem.W.plainGet K C f = true := c.pg
/-- no class of it has the name -/
def NoAttr (K : PySem.W.Frag) (C : Addr) (f : Str) : Prop := PySem.W.findIn K (.ref C) f = some none
theorem NoAttr.taker {K : PySem.W.Frag} {C : Addr} {f : Str} (n : NoAttr K C f) : PySem.W.takerIn K C f = some none := by
  unfold PySem.W.takerIn
  rw [show PySem.W.findIn K (.ref C) f = some none from n]
  rfl
/-- a constant of the class -/
structure Con (K : PySem.W.Frag) (C : Addr) (f : Str) (v : V) (u : Value) : Prop where
  at_ : PySem.W.findIn K (.ref C) f = some (some u)
  rel : RelV v u
  get : PySem.W.specialIn K u "__get__" = some none
  cp : PySem.W.copiedNames.contains f = false
/-- a method: a plain def of the class or of one above it -/
structure Meth (K : PySem.W.Frag) (C : Addr) (m : Str) (f : Addr) : Prop where
  at_ : PySem.W.findIn K (.ref C) m = some (some (.ref f))
  fn : PySem.W.isFn K (.ref f) = true
  kp : PySem.W.keepIn K (.ref f) = true

section
variable {X : Cx} {pins : List (Addr × Obj)} {σ : St} {H : Hp} {s : Shared} {a C dx : Addr} {fs : List (Str × V)} {f : Str} {v : V} {A : Around} {E : Value → Shared → Prop}

theorem getattr_ok {b : Bool} {Q : Value → Shared → Prop} (I : Inv X pins σ H s) (e : H a = some (.ins C dx fs)) (c : Cls X.K C) (n : NoAttr X.K C f) (l : fs.lookup f = some v)
    (h : ∀ u s', Inv X pins σ H s' → RelV v u → Q u s') : wpAny (model X.prog X.w) A (getAttr (.ref a) f b) Q E s := by
  obtain ⟨mA, O, r, _, _, _⟩ := ins_get I.hok e
  obtain ⟨u, hu, ru⟩ := RelO.some_of (v := v) (o := mA f) (by rw [← l]; exact r f)
  exact get_map I.kIn O (c.get f) c.hd n hu (handed_of ru) (h u _ (I.tok _) ru)


theorem getmeth_ok {m : Str} {g : Addr} {pl : Sem Bool} {Q : Value × List Value → Shared → Prop} (I : Inv X pins σ H s) (e : H a = some (.ins C dx fs)) (c : Cls X.K C) (k : Meth X.K C m g) (l : fs.lookup m = none)
    (h : Q (.ref g, [.ref a]) s) : wpAny (model X.prog X.w) A (getMethod (.ref a) m pl) Q E s := by
  obtain ⟨mA, O, r, _, _, _⟩ := ins_get I.hok e
  have hn : mA m = none := RelO.none_of (by rw [← l]; exact r m)
  exact get_meth I.kIn O (c.get m) k.at_ k.fn hn h

theorem setattr_ok {y : V} {u : Value} {Q : Unit → Shared → Prop} (I : Inv X pins σ H s) (e : H a = some (.ins C dx fs)) (c : Cls X.K C) (n : NoAttr X.K C f) (hl : fs.length < 1000) (ry : RelV y u)
    (h : ∀ s', Inv X pins σ (upd H a (.ins C dx (putF f y fs))) s' → Q () s') : wpAny (model X.prog X.w) A (setAttr (.ref a) f u) Q E s := by
  obtain ⟨mA, O, r, wi, _, ho⟩ := ins_get I.hok e
  have hz : (fs.map (·.1)).length ≤ sizeLine := by rw [List.length_map, sizeLine_eq]; omega
  refine set_map I.kIn O c.sa c.po n.taker c.hd wi hz fun h' O' sb => h _ ?_
  have hd : ∃ o, h'.get? dx = some o := let ⟨o, _, _, e', _⟩ := O'.ns; ⟨o, e'⟩
  refine I.write (x := a) (e := dx) (by rw [e]; exact True.intro) (.inr ho) (fun b q hb z => (sb.2 b hb).trans z) hd ?_
  refine ⟨by rw [upd_ne O.ne]; exact ho, ?_, O.ne, O'.obj, _, O'.ns, fun g => ?_, fun g hg => ?_⟩
  · have := length_putF f y fs; omega
  · show RelO ((putF f y fs).lookup g) (if g = f then some u else mA g)
    rw [lookup_putF]
    by_cases q : g = f
    · rw [if_pos q, if_pos q]; exact ry
    · rw [if_neg q, if_neg q]; exact r g
  · by_cases q : g = f
    · rw [q]; exact (keys_putF f y fs).1
    · refine (keys_putF f y fs).2 g (wi g fun z => hg ?_)
      show (if g = f then some u else mA g) = none
      rw [if_neg q]; exact z

/-- a new instance, tracked, without attributes -/
theorem Inv.made (I : Inv X pins σ H s) : Inv X pins σ (upd (upd H s.heap.objs.size (.own (s.heap.objs.size + 1))) (s.heap.objs.size + 1) (.ins C s.heap.objs.size []))
    { s with heap := (s.heap.push PySem.W.emptyDict).push (PySem.W.instObj C s.heap.objs.size) } := by
  have e1 : (s.heap.push PySem.W.emptyDict).get? s.heap.objs.size = some PySem.W.emptyDict := Heap.get?_push_size s.heap rfl
  have e2 : ((s.heap.push PySem.W.emptyDict).push (PySem.W.instObj C s.heap.objs.size)).get? (s.heap.objs.size + 1) = some (PySem.W.instObj C s.heap.objs.size) := by
    have := Heap.get?_push_size (s.heap.push PySem.W.emptyDict) (o := PySem.W.instObj C s.heap.objs.size) rfl
    rwa [Heap.size_push] at this
  have e3 : (s.heap.push PySem.W.emptyDict).Ns s.heap.objs.size (fun _ => none) := ⟨PySem.W.emptyDict, #[], _, e1, rfl, (fun e he => absurd he (by simp)), fun _ => rfl⟩
  have I1 := I.laid (a := s.heap.objs.size) (o := .own (s.heap.objs.size + 1)) (h' := s.heap.push PySem.W.emptyDict) (t' := s.toks) (fun b u q => Heap.get?_push_of_some _ q) (Nat.le_refl _) ⟨_, e1⟩
  refine I1.laid (a := s.heap.objs.size + 1) (o := .ins C s.heap.objs.size []) (t' := s.toks) (fun b u q => Heap.get?_push_of_some _ q) (Nat.le_of_eq (Heap.size_push _ _)) ?_
  have ne : s.heap.objs.size ≠ s.heap.objs.size + 1 := Nat.ne_of_lt (Nat.lt_succ_self _)
  refine ⟨by rw [upd_ne ne, upd_same], Nat.zero_le _, ne, e2, fun _ => none, (Heap.Ns1.of_empty e3).at fun o q => Heap.get?_push_of_some _ q, fun _ => True.intro, fun y hy => absurd rfl hy⟩

/-- e.f where nothing but the object is asked: through attributeBase (super) and the last hold -/
theorem attr_of {prog : Program} {w : World} {env : Env} {e : Expr} {f : Str} {pos : Pos} {s : Shared} {Q : Value → Shared → Prop} (hb : attributeBase e f env (eval e env) = eval e env)
    (h : wpAny (model prog w) A (eval e env) (fun o s₁ => wpAny (model prog w) A (getAttr o f true) Q E s₁) E s) : wpAny (model prog w) A (eval (.Attribute e f pos) env) Q E s :=
  Attribute_any_ h (by rw [arm_eval_Attribute, hb])
end

/-! ### readings and rules -/
/-- e.f, an attribute of the instance -/
def tFld (K : PySem.W.Frag) (ta : TE) (f : Str) : TE := fun σ H Q => ta σ H fun x H1 => ∃ a C dx fs v, x = .ref a ∧ H1 a = some (.ins C dx fs) ∧ Cls K C ∧ NoAttr K C f ∧ fs.lookup f = some v ∧ Q v H1
/-- e.f = value -/
def sFld (K : PySem.W.Frag) (ta tv : TE) (f : Str) : TS := fun D σ H => tv σ H fun y H1 => ta σ H1 fun x H2 => ∃ a C dx fs, x = .ref a ∧ H2 a = some (.ins C dx fs) ∧ Cls K C ∧ NoAttr K C f ∧ fs.length < 1000 ∧
  D.nx σ (upd H2 a (.ins C dx (putF f y fs)))

section
variable {X : Cx} {o e value : Expr} {f : Str} {pos pos' tpos : Pos} {ta tv : TE}
theorem pe_fld (he : PE X e ta) (hb : attributeBase e f X.env (eval e X.env) = eval e X.env) : PE X (.Attribute e f pos) (tFld X.K ta f) := by
  intro pins s σ H Q I h
  refine attr_of hb (thn (he pins s σ H _ I h) fun u s1 ⟨x, H1, I1, rx, a, C, dx, fs, v, ex, ea, c, n, l, q⟩ => ?_)
  subst ex
  obtain rfl : u = Value.ref a := rx
  exact getattr_ok I1 ea c n l fun u' s2 I2 ru => ⟨v, H1, I2, ru, q⟩
theorem ps_fld (ha : PE X o ta) (hv : PE X value tv) (hs : swapsWith value (some (.Attribute o f pos')) pos.line X.env = pure false) : PS X (.Assign [.Attribute o f pos'] value pos) (sFld X.K ta tv f) := by
  intro pins s σ H D I h
  refine plainObj_wpAny_Assign_Attribute (thn (hv pins s σ H _ I h) fun u s1 ⟨y, H1, I1, ry, q⟩ => thn (ha pins s1 σ H1 _ I1 q) fun ov s2 ⟨x, H2, I2, rx, a, C, dx, fs, ex, ea, c, n, l, q2⟩ => ?_) hs
  subst ex
  obtain rfl : ov = Value.ref a := rx
  exact setattr_ok I2 ea c n l ry fun s3 I3 => ⟨σ, _, I3, q2⟩

end

/-! ### isinstance -/
section
variable {X : Cx} {pins : List (Addr × Obj)} {σ : St} {H : Hp} {s : Shared} {A : Around} {E : Value → Shared → Prop} {Q : Value → Shared → Prop} {c : Value} {b : Bool}
/-- the type of a value, as the fragment's deciders take it; for an instance its class -/
inductive TyOf (K : PySem.W.Frag) (H : Hp) : V → Value → Prop where
  | non : TyOf K H .non (.type "NoneType")
  | bl (x : Bool) : TyOf K H (.bl x) (.type "bool")
  | int (i : Int) : TyOf K H (.int i) (.type "int")
  | str (x : Str) : TyOf K H (.str x) (.type "str")
  | flt (x : UInt64) : TyOf K H (.flt x) (.type "float")
  | lst {a : Addr} {xs : List V} (e : H a = some (.lst xs)) : TyOf K H (.ref a) (.type "list")
  | frz {a : Addr} {o : Obj} {xs : List V} (e : H a = some (.frz o (.lst xs))) : TyOf K H (.ref a) (.type "list")
  | tup {a : Addr} {xs : List V} (e : H a = some (.tup xs)) : TyOf K H (.ref a) (.type "tuple")
  | dK {a : Addr} {kvs : List (Key × V)} (e : H a = some (.dK kvs)) : TyOf K H (.ref a) (.type "dict")
  | dT {a : Addr} {kvs : List (List Key × V)} (e : H a = some (.dT kvs)) : TyOf K H (.ref a) (.type "dict")
  | ins {a C dx : Addr} {fs : List (Str × V)} (e : H a = some (.ins C dx fs)) (cl : Cls K C) (ha : PySem.W.findIn K (.ref C) "__class__" = some (some (.builtin "object.__class__")))
      (hn : PySem.W.specialIn K (.builtin "object.__class__") "__get__" = some (some (.builtin "getset_descriptor.__get__"))) (htk : PySem.W.takesIn K (.builtin "object.__class__") = some true)
      (hm : PySem.W.mroIn K C (.type "object") = some true) : TyOf K H (.ref a) (.ref C)
/-- isinstance(x, c) for one class c, a built-in or an own one: kitOne's answer -/
theorem isinst_ok {x : V} {u t : Value} (I : Inv X pins σ H s) (rx : RelV x u) (ty : TyOf X.K H x t) (e : PySem.W.kitOne X.K t c = some b) (h : ∀ tk, Q (.bool b) { s with toks := tk }) :
    wpAny (model X.prog X.w) A (call (.builtin "isinstance") [u, c]) Q E s := by
  cases ty with
  | non => cases (show u = Value.none from rx); exact PySem.W.kia_one PySem.W.kitx_none I.kIn True.intro e (fun z => nomatch z) h
  | bl y => cases (show u = Value.bool y from rx); exact PySem.W.kia_one PySem.W.kitx_bool I.kIn True.intro e (fun z => nomatch z) h
  | int i => obtain ⟨t, q⟩ := (show ∃ t, u = Value.int i t from rx); cases q; exact PySem.W.kia_one PySem.W.kitx_int I.kIn True.intro e (fun z => nomatch z) h
  | str y => obtain ⟨t, q⟩ := (show ∃ t, u = Value.str y t from rx); cases q; exact PySem.W.kia_one PySem.W.kitx_str I.kIn True.intro e (fun z => nomatch z) h
  | flt y => obtain ⟨t, q⟩ := (show ∃ t, u = Value.float y t from rx); cases q; exact PySem.W.kia_one PySem.W.kitx_float I.kIn True.intro e (fun z => nomatch z) h
  | @lst a xs ea =>
    cases (show u = Value.ref a from rx)
    obtain ⟨_, _, n, _, h1⟩ := (show ObjOk X.prog X.w H s.heap a (.lst xs) from I.hok a _ ea)
    exact PySem.W.kia_one PySem.W.kitx_list I.kIn ⟨_, h1, rfl⟩ e (fun z => nomatch z) h
  | @frz a ob xs ea =>
    cases (show u = Value.ref a from rx)
    obtain ⟨_, _, _, n, _, h1⟩ := (show ObjOk X.prog X.w H s.heap a (.frz ob (.lst xs)) from I.hok a _ ea)
    exact PySem.W.kia_one PySem.W.kitx_list I.kIn ⟨_, h1, rfl⟩ e (fun z => nomatch z) h
  | @tup a xs ea =>
    cases (show u = Value.ref a from rx)
    obtain ⟨_, _, _, p⟩ := (show ObjOk X.prog X.w H s.heap a (.tup xs) from I.hok a _ ea)
    obtain ⟨o, h1, h2, _⟩ := p
    exact PySem.W.kia_one PySem.W.kitx_tuple I.kIn ⟨o, h1, h2⟩ e (fun z => nomatch z) h
  | @dK a kvs ea =>
    cases (show u = Value.ref a from rx)
    obtain ⟨_, _, vs, _, p⟩ := (show ObjOk X.prog X.w H s.heap a (.dK kvs) from I.hok a _ ea)
    obtain ⟨o, es, ep, h1, h2, _⟩ := p
    exact PySem.W.kia_one PySem.W.kitx_dict I.kIn ⟨o, h1, h2.1⟩ e (fun z => nomatch z) h
  | @dT a kvs ea =>
    cases (show u = Value.ref a from rx)
    obtain ⟨_, _, xs, _, o, es, ep, h1, h2, _⟩ := (show ObjOk X.prog X.w H s.heap a (.dT kvs) from I.hok a _ ea)
    exact PySem.W.kia_one PySem.W.kitx_dict I.kIn ⟨o, h1, h2.1⟩ e (fun z => nomatch z) h
  | @ins a C dx fs ea cl ha hn htk hm =>
    cases (show u = Value.ref a from rx)
    obtain ⟨mA, O, _⟩ := ins_get I.hok ea
    obtain ⟨od, J, _⟩ := O.look
    exact PySem.W.kia_one (PySem.W.kitx_own (cl.get _) cl.hd ha hn htk hm) I.kIn J e (fun z => nomatch z) h
end
end L2

namespace L2
open PySem PySem.Spec PyProof.Rows

/-! ### room -/
structure Room (k : Nat) (A : Around) : Prop where
  hd : A.handled = none
  dp : A.depth + 3 * k + 5 < recursionLimit
  un : A.units + 16 * k + 200 < cLine
theorem Room.mono {j k : Nat} {A : Around} (r : Room k A) (h : j ≤ k) : Room j A := ⟨r.hd, by have := r.dp; omega, by have := r.un; omega⟩
theorem Room.deeper {k : Nat} {A : Around} (r : Room (k + 1) A) (env : Env) : Room k (A.deeper env) :=
  ⟨r.hd, by have := r.dp; show A.depth + 1 + 3 * k + 5 < _; omega, by have := r.un; show A.units + 3 + 16 * k + 200 < _; omega⟩
theorem make_depth {A : Around} {C : Addr} {us : List Value} {kw : List (Str × Value)} : (A.under (.builtin "type.__call__" ⟨.ref C :: us, kw⟩)).depth = A.depth + 1 := by
  first | rfl | simp [Around.under, Code.weight, Code.isCreation, Code.isGuard, Code.isCaller, Code.frames, Code.isFrame, guardIds]
theorem make_units {A : Around} {C : Addr} {us : List Value} {kw : List (Str × Value)} : (A.under (.builtin "type.__call__" ⟨.ref C :: us, kw⟩)).units = A.units + 1 := by
  first | rfl | simp [Around.under, Code.cUnits, Code.frames, Code.isFrame]
theorem Room.make {k : Nat} {A : Around} (r : Room (k + 1) A) (C : Addr) (us : List Value) (kw : List (Str × Value)) : Room k (A.under (.builtin "type.__call__" ⟨.ref C :: us, kw⟩)) :=
  ⟨r.hd, by have := r.dp; rw [make_depth]; omega, by have := r.un; rw [make_units]; omega⟩
theorem Room.depth {k : Nat} {A : Around} (r : Room k A) : A.depth < recursionLimit := by have := r.dp; omega
theorem Room.units {k : Nat} {A : Around} (r : Room k A) : A.units + 64 < cLine := by have := r.un; omega

/-! ### argument lists and displays -/
def tNil : TA := fun _ H Q => Q [] H
def tCons (ta : TE) (tr : TA) : TA := fun σ H Q => ta σ H fun x H1 => tr σ H1 fun xs H2 => Q (x :: xs) H2
section
variable {X : Cx} {e : Expr} {es : List Expr} {te : TE} {t : TA} {pos : Pos}
theorem pa_nil : PA X [] tNil := fun _ _ _ _ H Q I h => Calls.spliced_nil ⟨[], H, I, .nil, h⟩
theorem pa_cons (ha : PE X e te) (hr : PA X es t) (hs : starEach (e :: es) X.env = (false, eval e X.env) :: starEach es X.env := by rfl) : PA X (e :: es) (tCons te t) := by
  intro pos pins s σ H Q I h
  rw [hs]
  show wpAny _ _ (spliced ((false, eval e X.env) :: backTo pos (starEach es X.env))) _ _ s
  refine Calls.spliced_cons (thn (ha pins s σ H _ I h) fun u s1 ⟨x, H1, I1, r1, q1⟩ => ?_)
  exact thn (hr pos pins s1 σ H1 _ I1 q1) fun us s2 ⟨xs, H2, I2, r2, q2⟩ => ⟨x :: xs, H2, I2, .cons r1 r2, q2⟩

/-- a tuple, a list of written items -/
def tTup (t : TA) : TE := fun σ H Q => t σ H fun xs H1 => xs.length ≤ sizeLine ∧ ∀ p, H1 p = none → Q (.ref p) (upd H1 p (.tup xs))
def tLst (t : TA) : TE := fun σ H Q => t σ H fun xs H1 => xs.length ≤ sizeLine ∧ ∀ p, H1 p = none → Q (.ref p) (upd H1 p (.lst xs))
theorem pe_tup {x1} (h : PA X es t) : PE X (.Tuple es x1 pos) (tTup t) := by
  intro pins s σ H Q I hq
  refine wpAny_Tuple_spliced (thn (h pos pins s σ H _ I hq) fun us s1 ⟨xs, H1, I1, r, z, q⟩ => ⟨by rw [← r.length]; exact z, ?_⟩)
  have hf : H1 s1.heap.objs.size = none := I1.hok.fresh (Nat.le_refl _)
  refine ⟨.ref s1.heap.objs.size, upd H1 s1.heap.objs.size (.tup xs), I1.laid (t' := s1.toks) (fun b u e => Heap.get?_push_of_some _ e) (Nat.le_refl _) ?_, rfl, q _ hf⟩
  exact ⟨z, us, r, ⟨_, Heap.get?_push_size _ rfl, rfl, rfl, _, rfl⟩⟩
theorem pe_lst (h : PA X es t) : PE X (.List es pos) (tLst t) := by
  intro pins s σ H Q I hq
  refine wpAny_List_spliced (thn (h pos pins s σ H _ I hq) fun us s1 ⟨xs, H1, I1, r, z, q⟩ => ⟨by rw [← r.length]; exact z, ?_⟩)
  have hf : H1 s1.heap.objs.size = none := I1.hok.fresh (Nat.le_refl _)
  refine ⟨.ref s1.heap.objs.size, upd H1 s1.heap.objs.size (.lst xs), I1.laid (t' := s1.toks) (fun b u e => Heap.get?_push_of_some _ e) (Nat.le_refl _) ?_, rfl, q _ hf⟩
  exact ⟨z, us, 0, r, Heap.get?_push_size _ rfl⟩
end

/-! ### what a def promises -/
/-- a def's promise: the bound arguments in the parameters' order, the heap, the wanted end, the wanted exception -/
abbrev Sp := List V → Hp → VK → XK → Prop
/-- how an exception lies behind a call (file 08 gives it): the callers' frames, abstract heap and state ahead of the call, the wish, the exception, the state -/
abbrev CXT := List Env → Hp → Shared → XK → Value → Shared → Prop

/-- the state at a call -/
structure Env0 (P : Program) (w : World) (K : PySem.W.Frag) (mg : Str → Option Value) (base : Heap) (A : Around) (outer : List Env) (s : Shared) (H : Hp) : Prop where
  frames : A.frames = some outer
  mod : Mod K mg base
  bs : ∀ b o, base.get? b = some o → s.heap.get? b = some o ∧ H b = none
  bsz : base.objs.size ≤ s.heap.objs.size
  funs : s.heap.FunFrames base outer
  frf : ∀ b ∈ frs outer, H b = none
  hok : HOk P w H s.heap
  bare : AllBare s.gens
/-- a call's end -/
def CE (outer : List Env) (P : Program) (w : World) (H : Hp) (s : Shared) (Q : VK) (u : Value) (s' : Shared) : Prop :=
  ∃ v H', s'.os = s.os ∧ AllBare s'.gens ∧ Un (frs outer) [] H H' s.heap s'.heap ∧ HOk P w H' s'.heap ∧ RelV v u ∧ Q v H'
def CR (CX : CXT) (outer : List Env) (P : Program) (w : World) (H : Hp) (s : Shared) (Q : VK) (E : XK) (r : Result) (s' : Shared) : Prop :=
  match r with
  | .ok (.ret u) => CE outer P w H s Q u s'
  | .ok _ => False
  | .error e => CX outer H s E e s'
structure FnOk (P : Program) (w : World) (K : PySem.W.Frag) (mg : Str → Option Value) (base : Heap) (CX : CXT) (k : Nat) (f : Addr) (fd : FuncData) (ps : List Str) (sp : Sp) : Prop where
  len : ∀ vs H Q E, sp vs H Q E → vs.length = ps.length
  run : ∀ (A : Around) (outer : List Env) (s : Shared) (H : Hp) (args : Args) (us : List Value) (vs : List V) (Q : VK) (E : XK), Room k A → Env0 P w K mg base A outer s H → BindsTo s fd args (ps.zip us) → Vals vs us → sp vs H Q E →
    codeAny (model P w) A (.call (.ref f) args) (CR CX outer P w H s Q E) s

theorem Env0.make {P : Program} {w : World} {K : PySem.W.Frag} {mg : Str → Option Value} {base : Heap} {A : Around} {outer : List Env} {s : Shared} {H : Hp} (e : Env0 P w K mg base A outer s H) (C : Addr) (us : List Value) (kw : List (Str × Value)) :
    Env0 P w K mg base (A.under (.builtin "type.__call__" ⟨.ref C :: us, kw⟩)) outer s H := ⟨by first | exact e.frames | (simpa [Around.under, Code.envs, Code.isFrame, pushEnvs] using e.frames), e.mod, e.bs, e.bsz, e.funs, e.frf, e.hok, e.bare⟩

section
variable {X : Cx} {pins : List (Addr × Obj)} {σ : St} {H : Hp} {s s' : Shared}
/-- from a body: what a callee wants -/
theorem Inv.env0 (I : Inv X pins σ H s) : Env0 X.prog X.w X.K X.mg X.base X.A X.stack s H :=
  ⟨I.ok.frames, I.ok.mod, I.bs, Nat.le_trans I.ok.bsz I.sz, I.stack, I.stkFree, I.hok, I.bare⟩
/-- behind a call -/
theorem Inv.after {Q : VK} {u : Value} (I : Inv X pins σ H s) (h : CE X.stack X.prog X.w H s Q u s') : EP X pins σ Q u s' := by
  obtain ⟨v, H', os, bare, un, hok, r, q⟩ := h
  obtain ⟨hh, g, d, t, os'⟩ := s'
  obtain rfl : os' = s.os := os
  exact ⟨v, H', I.call (h' := hh) (g' := g) (d' := d) (t' := t) (ch := []) un hok bare (fun b z => absurd z (by simp)), r, q⟩
end

/-! ### calls -/
/-- f(..): the written arguments, then the defaults dvs; E: what is wanted of an exception -/
def tCall (sp : Sp) (dvs : List V) (E : XK) (t : TA) : TE := fun σ H Q => t σ H fun vs H1 => sp (vs ++ dvs) H1 Q E
/-- C(..): a new instance and its dict, then __init__ -/
def tMake (C : Addr) (sp : Sp) (dvs : List V) (E : XK) (t : TA) : TE := fun σ H Q => t σ H fun vs H1 => ∀ x dx, H1 x = none → H1 dx = none → dx ≠ x →
  sp (.ref x :: (vs ++ dvs)) (upd (upd H1 dx (.own x)) x (.ins C dx [])) (fun v H2 => v = .non ∧ Q (.ref x) H2) E

/-- how the parameters are bound: us the positional arguments, kw the keywords' values by name, ds the defaults that fill up -/
def Binds (K : PySem.W.Frag) (fd : FuncData) (ps : List Str) (ds : List Value) : Prop :=
  ∀ (s : Shared) (us : List Value), K.In s.heap → (us ++ ds).length = ps.length → BindsTo s fd ⟨us, []⟩ (ps.zip (us ++ ds))
/-- every parameter is given -/
theorem Binds.all {K : PySem.W.Frag} {fd : FuncData} {ps : List Str} (h : ∀ us : List Value, us.length = ps.length → bindArgs fd ⟨us, []⟩ = pure (ps.zip us)) : Binds K fd ps [] := fun s us _ hl => by
  rw [List.append_nil] at hl ⊢
  exact .of_eq (h us hl)

/-- an exception of a callee reaches what this body wants of exceptions -/
def Passes (CX : CXT) (X : Cx) (E : XK) : Prop := ∀ (pins : List (Addr × Obj)) (σ : St) (H : Hp) (s : Shared) (e : Value) (s' : Shared), Inv X pins σ H s → CX X.stack H s E e s' → X.xe e s'

section
variable {X : Cx} {CX : CXT} {k : Nat} {f C : Addr} {fd : FuncData} {ps : List Str} {sp : Sp} {dvs : List V} {ds : List Value} {E : XK} {x m : Str} {p pos apos : Pos} {e o : Expr} {es : List Expr} {ta : TE} {t : TA}

/-- the callee runs -/
theorem run_fn {pins : List (Addr × Obj)} {σ : St} {H : Hp} {s : Shared} {Q : VK} {us : List Value} {vs : List V} (F : FnOk X.prog X.w X.K X.mg X.base CX k f fd ps sp) (hr : Room k X.A) (hb : Binds X.K fd ps ds) (hd : Vals dvs ds) (hx : Passes CX X E)
    (I : Inv X pins σ H s) (r : Vals vs us) (h : sp (vs ++ dvs) H Q E) : wpAny (model X.prog X.w) X.A (call (.ref f) us) (EP X pins σ Q) X.xe s := by
  have r2 : Vals (vs ++ dvs) (us ++ ds) := r.append hd
  have hl : (us ++ ds).length = ps.length := by rw [← r2.length]; exact F.len _ _ _ _ h
  refine wpAny_call (codeAny_mono (F.run X.A X.stack s H ⟨us, []⟩ (us ++ ds) (vs ++ dvs) Q E hr I.env0 (hb s us I.kIn hl) r2 h) fun r s' hq => ?_)
  cases r with
  | error e => exact hx pins σ H s e s' I hq
  | ok fl =>
    cases fl with
    | ret u => exact I.after hq
    | next => exact False.elim hq
    | brk => exact False.elim hq
    | cont => exact False.elim hq

theorem pe_call (F : FnOk X.prog X.w X.K X.mg X.base CX k f fd ps sp) (hr : Room k X.A) (hg : Gl X x) (hm : X.mg x = some (.ref f)) (hk : PySem.W.keepIn X.K (.ref f) = true) (hb : Binds X.K fd ps ds) (hd : Vals dvs ds) (hx : Passes CX X E)
    (ha : PA X (e :: es) t) (hdb : (x == ("__debug__" : Str)) = false := by decide) (he : starEach (e :: es) X.env = (false, eval e X.env) :: starEach es X.env := by rfl) (hpl : (backTo pos (starEach es X.env)).any (·.1) = false := by rfl) :
    PE X (.Call (.Name x p) (e :: es) [] pos) (tCall sp dvs E t) := by
  intro pins s σ H Q I h
  refine wpAny_Call_Name_kw (ld_glob I hg hm ?_ hdb)
  refine PySem.W.callWith_K (h₀ := X.base) I.ok.mod.kin hk (thn (ha pos pins s σ H _ I h) fun us s1 ⟨vs, H1, I1, r, q⟩ => ⟨I1.kIn, ?_⟩) he hpl
  exact run_fn F hr hb hd hx I1 r q


/-- what a class must have to be made -/
structure Mk (K : PySem.W.Frag) (C f : Addr) : Prop where
  makes : PySem.W.makesIn K C = true
  init : PySem.W.findIn K (.ref C) "__init__" = some (some (.ref f))
  fn : PySem.W.isFn K (.ref f) = true
  kp : PySem.W.keepIn K (.ref C) = true

theorem run_make {pins : List (Addr × Obj)} {σ : St} {H : Hp} {s : Shared} {Q : VK} {us : List Value} {vs : List V} (M : Mk X.K C f) (F : FnOk X.prog X.w X.K X.mg X.base CX k f fd ps sp) (hr : Room (k + 1) X.A) (hb : Binds X.K fd ps ds) (hd : Vals dvs ds)
    (hx : Passes CX X E) (I : Inv X pins σ H s) (r : Vals vs us)
    (h : ∀ x dx, H x = none → H dx = none → dx ≠ x → sp (.ref x :: (vs ++ dvs)) (upd (upd H dx (.own x)) x (.ins C dx [])) (fun v H2 => v = .non ∧ Q (.ref x) H2) E) :
    wpAny (model X.prog X.w) X.A (call (.ref C) us) (EP X pins σ Q) X.xe s := by
  have hq := h (s.heap.objs.size + 1) s.heap.objs.size (I.hok.fresh (Nat.le_succ _)) (I.hok.fresh (Nat.le_refl _)) (Nat.ne_of_lt (Nat.lt_succ_self _))
  have I2 := Inv.made (C := C) I
  have r2 : Vals (V.ref (s.heap.objs.size + 1) :: (vs ++ dvs)) (Value.ref (s.heap.objs.size + 1) :: (us ++ ds)) := .cons rfl (r.append hd)
  have hl : (Value.ref (s.heap.objs.size + 1) :: us ++ ds).length = ps.length := by
    have e := r2.length
    rw [F.len _ _ _ _ hq] at e
    exact e.symm
  refine wpAny_call (make_map (f := f) I.kIn M.makes M.init (beq_iff_eq.mp M.fn) (codeAny_mono (F.run _ X.stack _ _ ⟨Value.ref (s.heap.objs.size + 1) :: us, []⟩ (Value.ref (s.heap.objs.size + 1) :: (us ++ ds)) _ _ E (hr.make C us [])
    (I2.env0.make C us []) (hb _ (Value.ref (s.heap.objs.size + 1) :: us) I2.kIn hl) r2 hq) fun r s' hq' => ?_))
  cases r with
  | error e => exact hx pins σ _ _ e s' I2 hq'
  | ok fl =>
    cases fl with
    | ret u =>
      obtain ⟨v, H', I3, rv, ev, q3⟩ := I2.after hq'
      subst ev
      exact ⟨rv, ⟨V.ref (s.heap.objs.size + 1), H', I3, rfl, q3⟩⟩
    | next => exact False.elim hq'
    | brk => exact False.elim hq'
    | cont => exact False.elim hq'
theorem pe_make (M : Mk X.K C f) (F : FnOk X.prog X.w X.K X.mg X.base CX k f fd ps sp) (hr : Room (k + 1) X.A) (hg : Gl X x) (hm : X.mg x = some (.ref C)) (hb : Binds X.K fd ps ds) (hd : Vals dvs ds) (hx : Passes CX X E)
    (ha : PA X (e :: es) t) (hdb : (x == ("__debug__" : Str)) = false := by decide) (he : starEach (e :: es) X.env = (false, eval e X.env) :: starEach es X.env := by rfl) (hpl : (backTo pos (starEach es X.env)).any (·.1) = false := by rfl) :
    PE X (.Call (.Name x p) (e :: es) [] pos) (tMake C sp dvs E t) := by
  intro pins s σ H Q I h
  refine wpAny_Call_Name_kw (ld_glob I hg hm ?_ hdb)
  refine PySem.W.callWith_K (h₀ := X.base) I.ok.mod.kin M.kp (thn (ha pos pins s σ H _ I h) fun us s1 ⟨vs, H1, I1, r, q⟩ => ⟨I1.kIn, ?_⟩) he hpl
  exact run_make M F hr hb hd hx I1 r q
end

/-! ### keywords -/
section
variable {X : Cx} {CX : CXT} {k : Nat} {f C : Addr} {fd : FuncData} {ps ks : List Str} {sp : Sp} {E : XK} {x m : Str} {p pos apos kpos : Pos} {e o : Expr} {es : List Expr} {kws : List Keyword} {te ta : TE} {t tk : TA} {nm : Option Str}

/-- how a call with keywords binds: g puts the positional values us and the keywords' values ws (names ks) in the parameters' order, defaults among them -/
structure KBinds (K : PySem.W.Frag) (fd : FuncData) (ps ks : List Str) (g : List Value → List Value → List Value) (gV : List V → List V → List V) : Prop where
  to : ∀ (s : Shared) (us ws : List Value), K.In s.heap → (g us ws).length = ps.length → BindsTo s fd ⟨us, ks.zip ws⟩ (ps.zip (g us ws))
  rel : ∀ {vs : List V} {us : List Value} {zs : List V} {ws : List Value}, Vals vs us → Vals zs ws → Vals (gV vs zs) (g us ws)
variable {g : List Value → List Value → List Value} {gV : List V → List V → List V}
end

/-! ### a def's body keeps its promise -/
/-- names: the parameters first -/
structure FnScope (N P : List Str) (sc : Scope) : Prop where
  kind : sc.kind = .function
  co : sc.isCoroutine = false
  gen : sc.isGenerator = false
  nd : N.Nodup
  pre : N.take P.length = P
  par : ∀ x ∈ P, sc.names.lookup x = some .local ∨ sc.names.lookup x = some .cell
  nofree : ∀ y ∈ sc.names, y.2 ≠ .free

theorem bindL_out {kindOf : Str → Option NameKind} {x : Str} : ∀ {binds : List (Str × Value)} {m : Str → Option Value}, (∀ v, (x, v) ∉ binds) → bindL kindOf binds m x = m x
  | [], _, _ => rfl
  | (n, v) :: r, m, h => by
    unfold bindL
    rw [bindL_out fun w hw => h w (List.mem_cons_of_mem _ hw)]
    split
    · have : x ≠ n := by rintro rfl; exact h v List.mem_cons_self
      simp [this]
    · rfl
theorem bindC_out {kindOf : Str → Option NameKind} {x : Str} : ∀ {binds : List (Str × Value)} {m : Str → Option Value}, (∀ v, (x, v) ∉ binds) → bindC kindOf binds m x = m x
  | [], _, _ => rfl
  | (n, v) :: r, m, h => by
    unfold bindC
    rw [bindC_out fun w hw => h w (List.mem_cons_of_mem _ hw)]
    split
    · rfl
    · have : x ≠ n := by rintro rfl; exact h v List.mem_cons_self
      simp [this]
theorem bindL_get {kindOf : Str → Option NameKind} {x : Str} {v : Value} : ∀ {P : List Str} {vs : List Value} {i : Nat} {m : Str → Option Value}, P.Nodup → P[i]? = some x → vs[i]? = some v → kindOf x = some .local →
    bindL kindOf (P.zip vs) m x = some v
  | [], _, _, _, _, h, _, _ => by simp at h
  | _ :: _, [], _, _, _, _, h, _ => by simp at h
  | p :: P, w :: vs, 0, m, nd, h1, h2, hk => by
    simp at h1 h2; subst h1; subst h2
    show bindL kindOf ((p, w) :: P.zip vs) m p = _
    unfold bindL
    rw [bindL_out fun v hv => (List.nodup_cons.mp nd).1 (List.of_mem_zip hv).1, if_pos hk]
    simp
  | p :: P, w :: vs, i + 1, m, nd, h1, h2, hk => by
    show bindL kindOf ((p, w) :: P.zip vs) m x = _
    unfold bindL
    exact bindL_get (i := i) (List.nodup_cons.mp nd).2 (by simpa using h1) (by simpa using h2) hk
theorem bindC_get {kindOf : Str → Option NameKind} {x : Str} {v : Value} : ∀ {P : List Str} {vs : List Value} {i : Nat} {m : Str → Option Value}, P.Nodup → P[i]? = some x → vs[i]? = some v → kindOf x ≠ some .local →
    bindC kindOf (P.zip vs) m x = some v
  | [], _, _, _, _, h, _, _ => by simp at h
  | _ :: _, [], _, _, _, _, h, _ => by simp at h
  | p :: P, w :: vs, 0, m, nd, h1, h2, hk => by
    simp at h1 h2; subst h1; subst h2
    show bindC kindOf ((p, w) :: P.zip vs) m p = _
    unfold bindC
    rw [bindC_out fun v hv => (List.nodup_cons.mp nd).1 (List.of_mem_zip hv).1, if_neg hk]
    simp
  | p :: P, w :: vs, i + 1, m, nd, h1, h2, hk => by
    show bindC kindOf ((p, w) :: P.zip vs) m x = _
    unfold bindC
    exact bindC_get (i := i) (List.nodup_cons.mp nd).2 (by simpa using h1) (by simpa using h2) hk

/-- the names' values at the entry -/
def start (N : List Str) (vs : List V) : St := vs.map some ++ List.replicate (N.length - vs.length) none

/-- the context of a def's body, at its entry; an exception leaves the frame, then lies as CX says -/
def cxOf (CX : CXT) (P : Program) (w : World) (K : PySem.W.Frag) (mg : Str → Option Value) (base : Heap) (N : List Str) (qual : Str) (scope : Scope) (f : Addr) (cd : Value) (A : Around) (outer : List Env) (s : Shared) (H : Hp) (E : XK) : Cx where
  prog := P
  w := w
  K := K
  mg := mg
  base := base
  A := A.deeper (envOfC qual scope s.heap.objs.size f cd)
  N := N
  s₀ := s
  H₀ := H
  env := envOfC qual scope s.heap.objs.size f cd
  outer := outer
  stack := envOfC qual scope s.heap.objs.size f cd :: outer
  ex := []
  calm := true
  fn := fun _ => true
  pn := []
  xe := fun e s' => wpAny (model P w) (A.deeper (envOfC qual scope s.heap.objs.size f cd)) (leaving (envOfC qual scope s.heap.objs.size f cd) e) (fun _ s'' => CX outer H s E e s'') (fun e' s'' => CX outer H s E e' s'') s'

theorem cell_has {sc : Scope} {n : Nat} {x : Str} (h : sc.names.lookup x = some .cell) : ∃ c, (cellsFrom n sc.names []).lookup x = some c := by
  have q := PySem.W.cellsFrom_some sc.names n [] (.inl h)
  exact Option.isSome_iff_exists.mp q

theorem inv_start {CX : CXT} {P : Program} {w : World} {K : PySem.W.Frag} {mg : Str → Option Value} {base : Heap} {N ps : List Str} {qual : Str} {scope : Scope} {f : Addr} {cd : Value} {A : Around} {outer : List Env} {s s1 : Shared} {H : Hp} {E : XK} {us : List Value} {vs : List V}
    (S : FnScope N ps scope) (hd : A.handled = none) (e0 : Env0 P w K mg base A outer s H) (hl : vs.length = ps.length) (r : Vals vs us)
    (x : InCallC s s.heap.objs.size (bindL (envOfC qual scope s.heap.objs.size f cd).kindOf (ps.zip us) fun _ => none) (cellsFrom (s.heap.objs.size + 1) scope.names []) (bindC (envOfC qual scope s.heap.objs.size f cd).kindOf (ps.zip us) fun _ => none) s1) :
    Inv (cxOf CX P w K mg base N qual scope f cd A outer s H E) [] (start N vs) H s1 := by
  have hpl : ps.length ≤ N.length := by have := congrArg List.length S.pre; rw [List.length_take] at this; omega
  obtain ⟨h1, tk, rfl, hk⟩ := x.done
  have noA : ∀ b : Addr, b ∉ (cxOf CX P w K mg base N qual scope f cd A outer s H E).ex := fun b z => absurd (show b ∈ ([] : List Addr) from z) (by simp)
  refine ⟨⟨e0.mod, S.kind, rfl, rfl, Nat.le_refl _, fun y z c h1 h2 => ?_, fun y hy => ?_, fun y c _ h => ?_, fun _ => hd, Around.frames_deeper e0.frames, .inr ⟨rfl, rfl⟩, fun b z => absurd z (noA b), e0.bs, e0.bsz, fun b _ _ => noA b, fun b z => absurd z (noA b), e0.funs, e0.frf⟩,
    rfl, e0.bare, Un.kept hk, ⟨_, x.toInCall.ns, fun i y v h1 h2 h3 => ?_⟩, fun y c h => ⟨_, x.cell y c h⟩, e0.hok.fresh (Nat.le_refl _), fun y c h => ?_, fun p hp => absurd (show p ∈ ([] : List (Addr × Obj)) from hp) (by simp), e0.hok.kept hk, ?_⟩
  · exact name_of_addr x.apart (PySem.mem_of_lookup h1) (PySem.mem_of_lookup h2)
  · have hy : scope.names.lookup y = some .cell ∨ scope.names.lookup y = some .free := hy
    rcases hy with hy | hy
    · exact cell_has hy
    · exact absurd rfl (S.nofree _ (PySem.mem_of_lookup hy))
  · exact Nat.le_of_lt (x.above y c (PySem.mem_of_lookup h))
  · have hi : i < vs.length := by
      unfold start at h2
      by_cases hi : i < vs.length
      · exact hi
      · rw [List.getElem?_append_right (by simpa using hi)] at h2
        rw [List.getElem?_replicate] at h2
        split at h2 <;> cases h2
    have ha : vs[i]? = some v := by
      unfold start at h2
      rw [List.getElem?_append_left (by simpa using hi), List.getElem?_map] at h2
      cases e : vs[i]? with
      | none => rw [e] at h2; cases h2
      | some a => rw [e] at h2; cases h2; rfl
    obtain ⟨u, hu, rv⟩ := r.get ha
    have hp : ps[i]? = some y := by
      rw [← S.pre, List.getElem?_take_of_lt (by omega)]; exact h1
    have ndP : ps.Nodup := by rw [← S.pre]; exact S.nd.sublist (List.take_sublist _ _)
    refine ⟨u, rv, ?_⟩
    rcases S.par y (List.mem_of_getElem? hp) with k | k
    · exact .inl ⟨k, bindL_get ndP hp hu k⟩
    · obtain ⟨c, e⟩ := cell_has (n := s.heap.objs.size + 1) k
      refine .inr ⟨.inl k, c, e, ?_⟩
      have q := x.cell y c e
      rw [bindC_get ndP hp hu (by show scope.names.lookup y ≠ _; rw [k]; decide)] at q
      exact q
  · exact e0.hok.fresh (Nat.le_of_lt (x.above y c (PySem.mem_of_lookup h)))
  · unfold start
    show _ = N.length
    rw [List.length_append, List.length_map, List.length_replicate]
    omega

/-- THE RULE: a def (or a method) of the text, by its body. The body's reading t is chosen for each entry; it is run at the parameters' values -/
theorem fn_of {CX : CXT} {P : Program} {w : World} {K : PySem.W.Frag} {mg : Str → Option Value} {base : Heap} {k : Nat} {f : Addr} {name qual : Str} {params : Arguments} {body : List Stmt} {scope : Scope} {dV kV doc pm cdv ct oc : Value} {an od : Option Addr}
    {osl : Array (Option Value)} {N ps : List Str} {sp : Sp} (lk : K.lookup f = some ⟨oc, od, .func (PySem.W.fnOf name qual params body scope dV kV doc pm an cdv ct), osl⟩) (hcd : PySem.W.codeIn K cdv qual = true) (S : FnScope N ps scope)
    (len : ∀ vs H Q E, sp vs H Q E → vs.length = ps.length)
    (hbody : ∀ (A : Around) (outer : List Env) (s : Shared) (H : Hp) (vs : List V) (Q : VK) (E : XK), Room k (A.deeper (envOfC qual scope s.heap.objs.size f cdv)) → sp vs H Q E →
      ∃ t, PSs (cxOf CX P w K mg base N qual scope f cdv A outer s H E) body t ∧ t { nx := fun _ H' => Q .non H', rt := Q } (start N vs) H) :
    FnOk P w K mg base CX (k + 1) f (PySem.W.fnOf name qual params body scope dV kV doc pm an cdv ct) ps sp := by
  refine ⟨len, fun A outer s H args us vs Q E hr e0 hb r hsp => ?_⟩
  have hl := len _ _ _ _ hsp
  have KX : K.In s.heap := e0.mod.kin.keeps fun b o e => (e0.bs b o e).1
  have lim : s.heap.NoLimit := e0.mod.nolimit.keeps fun b o e => (e0.bs b o e).1
  have hkind : ∀ y ∈ ps.zip us, scope.names.lookup y.1 = some .local ∨ (scope.names.lookup y.1 = some .cell ∧ ((cellsFrom (s.heap.objs.size + 1) scope.names []).lookup y.1).isSome = true) := fun ⟨n, v⟩ hy => by
    rcases S.par n (List.of_mem_zip hy).1 with q | q
    · exact .inl q
    · exact .inr ⟨q, PySem.W.cellsFrom_some _ _ _ (.inl q)⟩
  refine codeAny_call_function hr.depth (KX _ _ lk) rfl S.co S.gen rfl (PySem.W.codeRec_of KX hcd) (hb _ _ _ _ ?_)
  refine wpAny_newFunctionEnv_cells S.kind hkind fun env he s1 x => ?_
  subst he
  refine ⟨lim.keeps x.toInCall.keep, codeAny_func ?_⟩
  obtain ⟨t, ht, hq⟩ := hbody A outer s H vs Q E (hr.deeper _) hsp
  have I : Inv (cxOf CX P w K mg base N qual scope f cdv A outer s H E) [] (start N vs) H s1 := inv_start S hr.hd e0 hl r x
  refine wpAny_mono (ht [] s1 (start N vs) H _ I hq) (fun fl s' hs => ?_) fun e s' hs => hs
  have fin : ∀ {σ' : St} {H' : Hp} {v : V} {u : Value}, Inv (cxOf CX P w K mg base N qual scope f cdv A outer s H E) [] σ' H' s' → RelV v u → Q v H' → CE outer P w H s Q u s' :=
    fun {σ' H' v u} J rv q => ⟨v, H', J.os, J.bare, J.base, J.hok, rv, q⟩
  cases fl with
  | ret u =>
    obtain ⟨v, σ', H', J, rv, q⟩ := hs
    exact fin J rv q
  | next =>
    obtain ⟨σ', H', J, q⟩ := hs
    exact fin (v := V.non) (u := Value.none) J rfl q
  | brk =>
    obtain ⟨_, _, _, q⟩ := hs
    exact False.elim q
  | cont =>
    obtain ⟨_, _, _, q⟩ := hs
    exact False.elim q
end L2

namespace L2
open PySem PySem.Spec PyProof.Rows
section
variable {X : Cx} {x : Str} {p pos : Pos} {e : Expr} {es : List Expr} {t : TA} {id T : String} {r : List V → Hp → VK → Prop}

def tCB (r : List V → Hp → VK → Prop) (t : TA) : TE := fun σ H Q => t σ H fun vs H1 => r vs H1 Q
/-- f(e, ..), f a built-in function -/
theorem pe_callB (hc : CallR X (.builtin id) r) (hg : Gl X x) (hm : X.mg x = none) (hv : bootBuiltins x = some (.builtin id)) (ha : PA X (e :: es) t) (hn : x ≠ "__name__" := by decide) (hdb : (x == ("__debug__" : Str)) = false := by decide)
    (he : starEach (e :: es) X.env = (false, eval e X.env) :: starEach es X.env := by rfl) (hpl : (backTo pos (starEach es X.env)).any (·.1) = false := by rfl) : PE X (.Call (.Name x p) (e :: es) [] pos) (tCB r t) := by
  intro pins s σ H Q I h
  refine wpAny_Call_Name_kw (ld_blt I hg hm hv ?_ hn hdb)
  exact PyProof.Rows.callWith_builtin1 (thn (ha pos pins s σ H _ I h) fun us s1 ⟨vs, H1, I1, r1, q1⟩ => hc pins s1 σ H1 vs us Q I1 r1 q1) he hpl
/-- T(e, ..), T a built-in type -/
theorem pe_callTy (hc : CallR X (.type T) r) (hg : Gl X x) (hm : X.mg x = none) (hv : bootBuiltins x = some (.type T)) (ha : PA X (e :: es) t) (hn : x ≠ "__name__" := by decide) (hdb : (x == ("__debug__" : Str)) = false := by decide)
    (he : starEach (e :: es) X.env = (false, eval e X.env) :: starEach es X.env := by rfl) (hpl : (backTo pos (starEach es X.env)).any (·.1) = false := by rfl) : PE X (.Call (.Name x p) (e :: es) [] pos) (tCB r t) := by
  intro pins s σ H Q I h
  refine wpAny_Call_Name_kw (ld_blt I hg hm hv ?_ hn hdb)
  exact PyProof.Rows.callWith_type1 (thn (ha pos pins s σ H _ I h) fun us s1 ⟨vs, H1, I1, r1, q1⟩ => hc pins s1 σ H1 vs us Q I1 r1 q1) he hpl
end
end L2

namespace HT
open PySem PyProof.Rows



section
open PySem.SeqAt
open PySem.AutoSeq1 (wpAny_loadPart')
open PySem.MeetsSeq PySem.MeetsSeq2 PySem.MeetsSeq3

end

section
variable {prog : Program} {w : World} {A : Around} {E : Value → Shared → Prop} {s : Shared}



/-! ### t[a:b], not the whole -/
/-- a slice's bound as a place among n (d where it is left out) -/
def sIx (n d : Nat) : Option Int → Nat
  | none => d
  | some v => if v < 0 then (v + (n : Int)).toNat else min v.toNat n
theorem sIx_nat (n d k : Nat) : sIx n d (some (k : Int)) = min k n := by
  show (if (k : Int) < 0 then ((k : Int) + (n : Int)).toNat else min (k : Int).toNat n) = min k n
  rw [if_neg (by omega), Int.toNat_natCast]

end
end HT

namespace L2
open PySem PySem.Spec PyProof.Rows

/-! ### the parts of a slice -/
abbrev TO := St → Hp → (Option Int → Hp → Prop) → Prop
/-- a slice's part (left out, or an int) -/
def PO (X : Cx) (e : Option Expr) (t : TO) : Prop :=
  ∀ (pins : List (Addr × Obj)) (s : Shared) (σ : St) (H : Hp) (Q : Option Int → Hp → Prop), Inv X pins σ H s → t σ H Q →
    wpAny (model X.prog X.w) X.A (evalPart e X.env) (fun u s' => ∃ o H', Inv X pins σ H' s' ∧ IsPart u o ∧ Q o H') X.xe s
def tNoPart : TO := fun _ H Q => Q none H
def tPart (t : TE) : TO := fun σ H Q => t σ H fun x H1 => ∃ i, x = .int i ∧ Q (some i) H1

theorem intsAre_of {ns : List Int} : ∀ {us : List Value}, Vals (ns.map V.int) us → IntsAre us ns := by
  induction ns with
  | nil => intro us r; rw [List.map_nil] at r; cases r; exact .nil
  | cons n ns ih =>
    intro us r
    rw [List.map_cons] at r
    cases r with
    | cons r1 r2 =>
      obtain ⟨t, e⟩ := r1
      subst e
      exact .cons n t (ih r2)

section
variable {X : Cx} {e : Expr} {te : TE} {lo hi : Option Expr} {tl th : TO} {pos p2 : Pos}

theorem po_none : PO X none tNoPart := by
  intro pins s σ H Q I h
  rw [evalPart_none]
  exact wpAny_pure ⟨none, H, I, .none, h⟩
theorem po_some (h : PE X e te) : PO X (some e) (tPart te) := by
  intro pins s σ H Q I hw
  rw [evalPart_some]
  refine thn (h pins s σ H _ I hw) fun u s1 ⟨x, H1, I1, r1, q1⟩ => ?_
  obtain ⟨i, rfl, q⟩ := q1
  obtain ⟨t, rfl⟩ := r1
  exact ⟨some i, H1, I1, .int i t, q⟩

/-- what a slice of a value is, by values: the slice object stands at sl -/
def SlR (X : Cx) (r : V → Option Int → Option Int → Hp → VK → Prop) : Prop :=
  ∀ (pins : List (Addr × Obj)) (s : Shared) (σ : St) (H : Hp) (x : V) (v vl vu : Value) (lo hi : Option Int) (sl : Addr) (Q : VK), Inv X pins σ H s → RelV x v → s.heap.IsSliceOf sl vl vu .none → IsPart vl lo → IsPart vu hi → r x lo hi H Q →
    ∃ T id, typeLookup (.type T) "__getitem__" = pure (some (.builtin id)) ∧ s.TypeIs v T ∧ wpAny (model X.prog X.w) X.A (getItem v (.ref sl)) (EP X pins σ Q) X.xe s
def tSl (r : V → Option Int → Option Int → Hp → VK → Prop) (te : TE) (tl th : TO) : TE := fun σ H Q => te σ H fun x H1 => tl σ H1 fun l H2 => th σ H2 fun u H3 => r x l u H3 Q
/-- a[lo:hi], any a -/
theorem pe_slice {r : V → Option Int → Option Int → Hp → VK → Prop} (hr : SlR X r) (he : PE X e te) (hl : PO X lo tl) (hu : PO X hi th) : PE X (.Subscript e (.Slice lo hi none p2) pos) (tSl r te tl th) := by
  intro pins s σ H Q I h
  refine Subscript_ (thn (he pins s σ H _ I h) fun v s1 ⟨x, H1, I1, r1, q1⟩ => ?_)
  refine wpAny_Slice (thn (hl pins s1 σ H1 _ I1 q1) fun vl s2 ⟨l, H2, I2, pl, q2⟩ => thn (hu pins s2 σ H2 _ I2 q2) fun vu s3 ⟨u, H3, I3, pu, q3⟩ => ?_)
  rw [evalPart_none]
  refine wpAny_pure ?_
  have I4 : Inv X pins σ H3 { s3 with heap := s3.heap.push { cls := .type "slice", data := .fields #[vl, vu, .none] } } := I3.kept (t' := s3.toks) fun b ob q => Heap.get?_push_of_some _ q
  obtain ⟨T, id, hT, ht, hg⟩ := hr pins { s3 with heap := s3.heap.push { cls := .type "slice", data := .fields #[vl, vu, .none] } } σ H3 x v vl vu l u s3.heap.objs.size Q I4 r1 (Heap.IsSliceOf.new ..) pl pu q3
  show wpAny (model X.prog X.w) X.A (subscriptTail e (.Slice lo hi none p2) v (.ref s3.heap.objs.size)) (EP X pins σ Q) X.xe { s3 with heap := s3.heap.push { cls := .type "slice", data := .fields #[vl, vu, .none] } }
  exact tail_any (ops := [.ref s3.heap.objs.size, v]) ht hT hg (by with_unfolding_all rfl)

/-- the items of xs[lo:hi] -/
def cutV (xs : List V) (lo hi : Option Int) : List V := (xs.drop (HT.sIx xs.length 0 lo)).take (HT.sIx xs.length xs.length hi - HT.sIx xs.length 0 lo)
theorem cutV_length (xs : List V) (lo hi : Option Int) : (cutV xs lo hi).length ≤ xs.length := by
  unfold cutV
  rw [List.length_take, List.length_drop]
  omega

/-! ### t < u, t + u -/
end
end L2

namespace L2
open PySem PySem.Spec PyProof.Rows

/-! ### places -/
/-- the place that an index of any sign means -/
def ixN (n : Nat) (i : Int) : Option Nat := if 0 ≤ i then (if i < n then some i.toNat else none) else if -(n : Int) ≤ i then some (i + n).toNat else none
def atI {α : Type} (xs : List α) (i : Int) : Option α := (ixN xs.length i).bind fun j => xs[j]?
theorem ixN_seq {n : Nat} {i : Int} {j : Nat} (h : ixN n i = some j) : seqIndex? i n = some j ∧ j < n ∧ -(n : Int) ≤ i ∧ i < n := by
  unfold ixN at h
  by_cases h0 : 0 ≤ i
  · rw [if_pos h0] at h
    by_cases h1 : i < n
    · rw [if_pos h1] at h
      have e : i.toNat = j := Option.some.inj h
      exact ⟨by rw [seqIndex_of h0 h1, e], by omega, by omega, h1⟩
    · rw [if_neg h1] at h; cases h
  · rw [if_neg h0] at h
    by_cases h1 : -(n : Int) ≤ i
    · rw [if_pos h1] at h
      have e : (i + n).toNat = j := Option.some.inj h
      exact ⟨by rw [seqIndex_neg (by omega) h1, e], by omega, h1, by omega⟩
    · rw [if_neg h1] at h; cases h
theorem atI_get {α : Type} {xs : List α} {i : Int} {v : α} (h : atI xs i = some v) : ∃ j, seqIndex? i xs.length = some j ∧ xs[j]? = some v ∧ j < xs.length ∧ -(xs.length : Int) ≤ i ∧ i < xs.length := by
  unfold atI at h
  cases e : ixN xs.length i with
  | none => rw [e] at h; cases h
  | some j =>
    rw [e] at h
    obtain ⟨h1, h2, h3, h4⟩ := ixN_seq e
    exact ⟨j, h1, h, h2, h3, h4⟩
theorem atI_nat {α : Type} {xs : List α} {j : Nat} {v : α} (h : xs[j]? = some v) : atI xs (j : Int) = some v := by
  have hj : j < xs.length := (List.getElem?_eq_some_iff.mp h).1
  have e : ixN xs.length (j : Int) = some j := by
    unfold ixN
    rw [if_pos (by omega), if_pos (by omega)]; simp
  unfold atI; rw [e]; exact h

/-! ### what may be subscripted -/
/-- what stands as an index of a plain subscript -/
def PlainIx (b : Expr) : Prop := ∀ o i, subscripted b false o i = operate [o, i] (getItem o i)
/-- a subscript by values -/
def IxR (X : Cx) (r : R2) : Prop :=
  ∀ (value slice : Expr) (pins : List (Addr × Obj)) (s : Shared) (σ : St) (H : Hp) (x y : V) (v u : Value) (Q : VK), Inv X pins σ H s → RelV x v → RelV y u → r x y H Q →
    subscripted slice false v u = operate [v, u] (getItem v u) → wpAny (model X.prog X.w) X.A (subscriptTail value slice v u) (EP X pins σ Q) X.xe s
/-- a call of a builtin's method by values: the receiver, the arguments -/
def MtR (X : Cx) (id : String) (r : V → List V → Hp → VK → Prop) : Prop :=
  ∀ (pins : List (Addr × Obj)) (s : Shared) (σ : St) (H : Hp) (x : V) (xs : List V) (v : Value) (us : List Value) (Q : VK), Inv X pins σ H s → RelV x v → Vals xs us → r x xs H Q →
    wpAny (model X.prog X.w) X.A (call (.builtin id) (v :: us)) (EP X pins σ Q) X.xe s
section
variable {X : Cx} {a b : Expr} {ta tb : TE} {pos : Pos}
/-- a[b] -/
theorem pe_ix {r : R2} (hr : IxR X r) (ha : PE X a ta) (hb : PE X b tb) (hs : PlainIx b) : PE X (.Subscript a b pos) (tOp r ta tb) := by
  intro pins s σ H Q I h
  exact Subscript_ (binT ha hb I h fun v u s2 x y H2 I2 rx ry q => hr a b pins s2 σ H2 x y v u Q I2 rx ry q (hs _ _))

def rIxL (K : PySem.W.Frag) : R2 := fun x y H Q => ∃ p xs i v, x = .ref p ∧ y = .int i ∧ SqL K H p xs ∧ atI xs i = some v ∧ Q v H
def rIxT (K : PySem.W.Frag) : R2 := fun x y H Q => ∃ p xs i v, x = .ref p ∧ y = .int i ∧ SqT K H p xs ∧ atI xs i = some v ∧ Q v H
def rIxS : R2 := fun x y H Q => ∃ z i c, x = .str z ∧ y = .int i ∧ z.length ≤ sizeLine ∧ atI z.cps.toList i = some c ∧ Q (.str ⟨#[c]⟩) H
theorem ix_list : IxR X (rIxL X.K) := by
  intro value slice pins s σ H x y v u Q I rx ry h hs
  obtain ⟨p, xs, i, z, rfl, rfl, hq, he, q⟩ := h
  cases rx
  obtain ⟨t, rfl⟩ := ry
  obtain ⟨its, r, pl, hz⟩ := I.list hq
  obtain ⟨j, h1, h2, h3, h4, h5⟩ := atI_get he
  obtain ⟨w, ew, rw'⟩ := r.get h2
  have hl := r.length
  have hn := line63
  have fin : EP X pins σ Q w s := ⟨z, H, I, rw', q⟩
  by_cases h0 : 0 ≤ i
  · have hj : i.toNat = j := by
      rw [seqIndex_of h0 h5] at h1
      exact Option.some.inj h1
    exact item_listR pl.isList h0 (by omega) (by rw [hj]; simpa using ew) fin hs
  · have hj : (i + (its.toArray.size : Int)).toNat = j := by
      rw [seqIndex_neg (by omega) h4] at h1
      rw [List.size_toArray, ← hl]
      exact Option.some.inj h1
    exact subscriptTail_builtinR (x := w) pl.isList.typeIs slot_list_getitem.lookup
      (wpAny_getItem_list_neg (Q := fun r s' => r = w ∧ EP X pins σ Q r s') pl.isList (by omega) (by rw [List.size_toArray] <;> omega) (by omega) (by rw [hj]; simpa using ew) ⟨rfl, fin⟩) hs
theorem ix_tup : IxR X (rIxT X.K) := by
  intro value slice pins s σ H x y v u Q I rx ry h hs
  obtain ⟨p, xs, i, z, rfl, rfl, hq, he, q⟩ := h
  cases rx
  obtain ⟨t, rfl⟩ := ry
  obtain ⟨its, r, pl, hz⟩ := I.tuple hq
  obtain ⟨j, h1, h2, h3, h4, h5⟩ := atI_get he
  obtain ⟨w, ew, rw'⟩ := r.get h2
  have hl := r.length
  have hn := line63
  have fin : EP X pins σ Q w s := ⟨z, H, I, rw', q⟩
  exact subscriptTail_builtinR (x := w) pl.typeIs slot_tuple_getitem.lookup
    (getItem_tuple (j := j) (Q := fun r s' => r = w ∧ EP X pins σ Q r s') pl (by omega) (by omega) (by rw [List.size_toArray, ← hl]; exact h1) (by simpa using ew) ⟨rfl, fin⟩) hs
theorem ix_str : IxR X rIxS := by
  intro value slice pins s σ H x y v u Q I rx ry h hs
  obtain ⟨z, i, c, rfl, rfl, hz, he, q⟩ := h
  obtain ⟨t, rfl⟩ := rx
  obtain ⟨t', rfl⟩ := ry
  obtain ⟨j, h1, h2, h3, h4, h5⟩ := atI_get he
  have hl : z.cps.toList.length = z.length := by simp [Str.length]
  rw [hl] at h1 h4 h5
  have hn := line63
  exact tail_any (typeIs_str s z t) slot_str_getitem.lookup (getItem_str (c := c) (by
    have e1 : decide (i < -(2 ^ 63 : Int)) = false := decide_eq_false (by omega)
    have e2 : decide (i ≥ 2 ^ 63) = false := decide_eq_false (by omega)
    rw [e1, e2, Bool.or_false]) (by rw [h1]; simpa using h2) ⟨.str ⟨#[c]⟩, H, I.tok _, ⟨_, rfl⟩, q⟩) hs

/-! ### xs[i] = v, any sign -/
/-- the list's object behind a store -/
theorem mapSeq_set (its : List Value) (n j : Nat) (u : Value) : Obj.mapSeq (·.setIfInBounds j u) { cls := .type "list", data := .seq its.toArray n } = { cls := .type "list", data := .seq (its.set j u).toArray n } := by
  simp [Obj.mapSeq]
theorem Inv.lst {pins : List (Addr × Obj)} {σ : St} {H : Hp} {s : Shared} {p : Addr} {xs : List V} (I : Inv X pins σ H s) (h : H p = some (.lst xs)) :
    ∃ (its : List Value) (n : Nat), Vals xs its ∧ s.heap.get? p = some { cls := .type "list", data := .seq its.toArray n } ∧ xs.length ≤ sizeLine := by
  obtain ⟨z, its, n, r, e⟩ := I.hok p _ h
  exact ⟨its, n, r, e, z⟩
/-- the list at p is written by an update of its object -/
theorem Inv.lstUpd {pins : List (Addr × Obj)} {σ : St} {H : Hp} {s : Shared} {p : Addr} {xs ys : List V} {its its' : List Value} {n n' : Nat} {f : Obj → Obj} (I : Inv X pins σ H s) (h : H p = some (.lst xs))
    (ho : s.heap.get? p = some { cls := .type "list", data := .seq its.toArray n }) (hf : f { cls := .type "list", data := .seq its.toArray n } = { cls := .type "list", data := .seq its'.toArray n' }) (r : Vals ys its') (hz : ys.length ≤ sizeLine) (t : Nat) :
    Inv X pins σ (upd H p (.lst ys)) { s with heap := s.heap.update p f, toks := t } := by
  have e : (s.heap.update p f).get? p = some { cls := .type "list", data := .seq its'.toArray n' } := by
    rw [Heap.get?_update_self f ho (by rw [hf] <;> rfl), hf]
  refine I.write (x := p) (e := p) (by rw [h]; trivial) (.inl rfl) (fun b u hb q => (Heap.get?_update_other _ _ (Ne.symm hb)).trans q) ⟨_, e⟩ ?_
  exact ⟨hz, its', n', r, e⟩
def rSetL : V → V → V → Hp → (Hp → Prop) → Prop := fun o i v H Q => ∃ p xs k j, o = .ref p ∧ i = .int k ∧ H p = some (.lst xs) ∧ ixN xs.length k = some j ∧ Q (upd H p (.lst (xs.set j v)))
theorem set_list : PSet X rSetL := by
  intro pins s σ H o i v ov iv u Q I ro ri rv h
  obtain ⟨p, xs, k, j, rfl, rfl, hp, hj, q⟩ := h
  cases ro
  obtain ⟨t, rfl⟩ := ri
  obtain ⟨its, n, r, ho, hz⟩ := I.lst hp
  obtain ⟨h1, h2, h3, h4⟩ := ixN_seq hj
  have hl := r.length
  have hn := line63
  have I' : Inv X pins σ (upd H p (.lst (xs.set j v))) { s with heap := s.heap.update p (Obj.mapSeq (·.setIfInBounds j u)) } :=
    I.lstUpd hp ho (mapSeq_set its n j u) (r.set rv j) (by rw [List.length_set]; exact hz) s.toks
  by_cases h0 : 0 ≤ k
  · have hk : k.toNat = j := by
      rw [seqIndex_of h0 h4] at h1
      exact Option.some.inj h1
    exact PySem.W.ki_setAt ho h0 (by omega) (by rw [List.size_toArray, ← hl]; exact h4) (by rw [hk]; exact ⟨_, I', q⟩)
  · have hk : (k + (its.toArray.size : Int)).toNat = j := by
      rw [seqIndex_neg (by omega) h3] at h1
      rw [List.size_toArray, ← hl]
      exact Option.some.inj h1
    exact PySem.W.ki_setBack ho (by omega) (by rw [List.size_toArray, ← hl]; exact h3) (by omega) (by rw [hk]; exact ⟨_, I', q⟩)

/-! ### slices -/
theorem slice_bounds (lo hi : Option Int) (n : Nat) : (sliceBounds lo hi none n).1 = ((HT.sIx n 0 lo : Nat) : Int) ∧ (sliceBounds lo hi none n).2.1 = ((HT.sIx n n hi : Nat) : Int) ∧ (sliceBounds lo hi none n).2.2 = 1 := by
  refine ⟨?_, ?_, rfl⟩
  · cases lo with
    | none => simp [sliceBounds, HT.sIx]
    | some i =>
      simp only [sliceBounds, HT.sIx, Option.getD_none, show (1 : Int) > 0 by decide, if_true]
      by_cases h : i < 0
      · simp only [h, if_true] <;> omega
      · simp only [h, if_false] <;> omega
  · cases hi with
    | none => simp [sliceBounds, HT.sIx]
    | some i =>
      simp only [sliceBounds, HT.sIx, Option.getD_none, show (1 : Int) > 0 by decide, if_true]
      by_cases h : i < 0
      · simp only [h, if_true] <;> omega
      · simp only [h, if_false] <;> omega
theorem slicePick_cut (its : List Value) (lo hi : Option Int) : slicePick its.toArray lo hi none = ((its.drop (HT.sIx its.length 0 lo)).take (HT.sIx its.length its.length hi - HT.sIx its.length 0 lo)).toArray := by
  obtain ⟨h1, h2, h3⟩ := slice_bounds lo hi its.toArray.size
  unfold slicePick
  rw [h1, h2, h3]
  simp only [sliceRange_one, pick_run, List.size_toArray] <;> rfl
/-- xs[lo:hi] of a list: a new list -/
def rSlL (K : PySem.W.Frag) : V → Option Int → Option Int → Hp → VK → Prop := fun x lo hi H Q => ∃ a xs, x = .ref a ∧ SqL K H a xs ∧ ∀ p, H p = none → Q (.ref p) (upd H p (.lst (cutV xs lo hi)))
theorem sl_list : SlR X (rSlL X.K) := by
  intro pins s σ H x v vl vu lo hi sl Q I rx hs pl pu h
  obtain ⟨a, xs, rfl, hx, q⟩ := h
  cases rx
  obtain ⟨its, r, ht, hz⟩ := I.list hx
  have hlen := r.length
  refine ⟨"list", _, slot_list_getitem.lookup, ht.isList.typeIs, ?_⟩
  refine wpAny_getItem_list_slice ht.isList hs pl pu .none (by simp) ?_ (by rw [List.size_toArray] <;> omega)
  rw [slicePick_cut, ← hlen]
  refine ⟨.ref s.heap.objs.size, _, I.laid (t' := s.toks) (o := .lst (cutV xs lo hi)) (fun b ob q => Heap.get?_push_of_some _ q) (Nat.le_refl _) ?_, rfl, q _ (I.hok.fresh (Nat.le_refl _))⟩
  exact ⟨Nat.le_trans (cutV_length xs lo hi) hz, _, 0, (r.drop (HT.sIx xs.length 0 lo)).take (HT.sIx xs.length xs.length hi - HT.sIx xs.length 0 lo), Heap.get?_push_size _ rfl⟩

/-! ### in, not in: flat items -/
def flatV : V → Bool
  | .non => true
  | .bl _ => true
  | .int _ => true
  | .str _ => true
  | _ => false
/-- == of flat values -/
def eqV : V → V → Bool
  | .non, .non => true
  | .bl a, .bl b => a == b
  | .bl a, .int b => (if a then 1 else 0) == b
  | .int a, .bl b => a == (if b then 1 else 0)
  | .int a, .int b => a == b
  | .str a, .str b => a == b
  | _, _ => false
theorem eqAt_V {A : Around} {s : Shared} {y x : V} {u v : Value} (ry : RelV y u) (rx : RelV x v) (fy : flatV y = true) (fx : flatV x = true) : SeqAt.EqAt A s u v (eqV y x) := by
  cases y with
  | non =>
    cases ry
    cases x with
    | non => cases rx; exact SeqAt.EqAt.same _
    | bl b => cases rx; exact SeqAt.EqAt.none_bool b
    | int b => obtain ⟨t, rfl⟩ := rx; exact SeqAt.EqAt.none_int b t
    | str b => obtain ⟨t, rfl⟩ := rx; exact SeqAt.EqAt.none_str b t
    | _ => exact absurd (show false = true from fx) Bool.false_ne_true
  | bl a =>
    cases ry
    cases x with
    | non => cases rx; exact SeqAt.EqAt.bool_none a
    | bl b => cases rx; exact SeqAt.EqAt.bool_bool a b
    | int b => obtain ⟨t, rfl⟩ := rx; exact SeqAt.EqAt.bool_int a b t
    | str b => obtain ⟨t, rfl⟩ := rx; exact SeqAt.EqAt.bool_str a b t
    | _ => exact absurd (show false = true from fx) Bool.false_ne_true
  | int a =>
    obtain ⟨t', rfl⟩ := ry
    cases x with
    | non => cases rx; exact SeqAt.EqAt.int_none a t'
    | bl b => cases rx; exact SeqAt.EqAt.int_bool a t' b
    | int b => obtain ⟨t, rfl⟩ := rx; exact SeqAt.EqAt.int_int a t' b t
    | str b => obtain ⟨t, rfl⟩ := rx; exact SeqAt.EqAt.int_str a t' b t
    | _ => exact absurd (show false = true from fx) Bool.false_ne_true
  | str a =>
    obtain ⟨t', rfl⟩ := ry
    cases x with
    | non => cases rx; exact SeqAt.EqAt.str_none a t'
    | bl b => cases rx; exact SeqAt.EqAt.str_bool a t' b
    | int b => obtain ⟨t, rfl⟩ := rx; exact SeqAt.EqAt.str_int a t' b t
    | str b => obtain ⟨t, rfl⟩ := rx; exact SeqAt.EqAt.str_str a t' b t
    | _ => exact absurd (show false = true from fx) Bool.false_ne_true
  | _ => exact absurd (show false = true from fy) Bool.false_ne_true
/-- the items' answers, read off the values (a value's own answer does not lean on its token) -/
def eqU (x : V) (u : Value) : Bool := match u with
  | .none => eqV .non x
  | .bool b => eqV (.bl b) x
  | .int i _ => eqV (.int i) x
  | .str z _ => eqV (.str z) x
  | _ => false
theorem eqU_of {x y : V} {u : Value} (r : RelV y u) (f : flatV y = true) : eqU x u = eqV y x := by
  cases y with
  | non => cases r; rfl
  | bl b => cases r; rfl
  | int i => obtain ⟨t, rfl⟩ := r; rfl
  | str z => obtain ⟨t, rfl⟩ := r; rfl
  | _ => exact absurd (show false = true from f) Bool.false_ne_true
theorem any_eqU {x : V} : ∀ {xs : List V} {us : List Value}, Vals xs us → xs.all flatV = true → us.any (eqU x) = xs.any fun y => eqV y x
  | _, _, .nil, _ => rfl
  | y :: xs, u :: us, .cons r t, f => by
    rw [List.all_cons, Bool.and_eq_true] at f
    rw [List.any_cons, List.any_cons, eqU_of r f.1, any_eqU t f.2]
theorem mem_eqAt {A : Around} {s : Shared} {x : V} {v : Value} (rx : RelV x v) (fx : flatV x = true) : ∀ {xs : List V} {us : List Value}, Vals xs us → xs.all flatV = true → ∀ u ∈ us, SeqAt.EqAt A s u v (eqU x u)
  | _, _, .nil, _ => fun u hu => by cases hu
  | y :: xs, u :: us, .cons r t, f => fun u' hu => by
    rw [List.all_cons, Bool.and_eq_true] at f
    rcases List.mem_cons.mp hu with rfl | hu
    · rw [eqU_of r f.1]; exact eqAt_V r rx f.1 fx
    · exact mem_eqAt rx fx t f.2 u' hu
def inV (x : V) (xs : List V) : Bool := xs.any fun y => eqV y x
/-- x in a list or tuple of flat items -/
def rIn (K : PySem.W.Frag) (neg : Bool) : R2 := fun x y H Q => ∃ p xs, y = .ref p ∧ (SqL K H p xs ∨ SqT K H p xs) ∧ flatV x = true ∧ xs.all flatV = true ∧ Q (.bl (if neg then !inV x xs else inV x xs)) H
theorem op_in_seq : OpR X (compareOp .In) (rIn X.K false) := by
  intro pins s σ H x y v u Q I rx ry h
  obtain ⟨p, xs, rfl, hq, fx, fs, q⟩ := h
  cases ry
  rcases hq with hq | hq
  · obtain ⟨its, r, pl, hz⟩ := I.list hq
    refine SeqAt.in_listAt (eqU x) pl.isList (fun w hw => mem_eqAt rx fx r fs w (by simpa using hw)) ⟨.bl _, H, I, rfl, ?_⟩
    rw [show its.toArray.any (eqU x) = its.any (eqU x) by simp, any_eqU r fs]
    exact q
  · obtain ⟨its, r, pl, hz⟩ := I.tuple hq
    refine SeqAt.in_tupleAt (eqU x) pl (fun w hw => mem_eqAt rx fx r fs w (by simpa using hw)) ⟨.bl _, H, I, rfl, ?_⟩
    rw [show its.toArray.any (eqU x) = its.any (eqU x) by simp, any_eqU r fs]
    exact q
theorem op_notIn_seq : OpR X (compareOp .NotIn) (rIn X.K true) := by
  intro pins s σ H x y v u Q I rx ry h
  obtain ⟨p, xs, rfl, hq, fx, fs, q⟩ := h
  cases ry
  rcases hq with hq | hq
  · obtain ⟨its, r, pl, hz⟩ := I.list hq
    refine SeqAt.notIn_listAt (eqU x) pl.isList (fun w hw => mem_eqAt rx fx r fs w (by simpa using hw)) ⟨.bl _, H, I, rfl, ?_⟩
    rw [show its.toArray.any (eqU x) = its.any (eqU x) by simp, any_eqU r fs]
    exact q
  · obtain ⟨its, r, pl, hz⟩ := I.tuple hq
    refine SeqAt.notIn_tupleAt (eqU x) pl (fun w hw => mem_eqAt rx fx r fs w (by simpa using hw)) ⟨.bl _, H, I, rfl, ?_⟩
    rw [show its.toArray.any (eqU x) = its.any (eqU x) by simp, any_eqU r fs]
    exact q

/-! ### len, list(x), tuple(x) of any list or tuple that is read -/
theorem call_len_seq : CallR X (.builtin "len") (fun xs H Q => ∃ p ys, xs = [.ref p] ∧ (SqL X.K H p ys ∨ SqT X.K H p ys) ∧ Q (.int ys.length) H) := by
  intro pins s σ H xs us Q I r h
  obtain ⟨p, ys, rfl, hq, q⟩ := h
  obtain ⟨u, rfl, rx⟩ := vals1 r
  cases rx
  have hn := line63
  rcases hq with hq | hq
  · obtain ⟨its, r', pl, hz⟩ := I.list hq
    have hlen := r'.length
    exact Calls.call_len_list pl.isList (by simp only [List.size_toArray] <;> omega) ⟨.int ys.length, H, I.tok _, ⟨s.toks + 1, by rw [List.size_toArray, hlen]⟩, q⟩
  · obtain ⟨its, r', pl, hz⟩ := I.tuple hq
    have hlen := r'.length
    exact len_tuple pl (by simp only [List.size_toArray] <;> omega) ⟨.int ys.length, H, I.tok _, ⟨s.toks + 1, by rw [List.size_toArray, hlen]⟩, q⟩
theorem call_len_str : CallR X (.builtin "len") (fun xs H Q => ∃ z, xs = [.str z] ∧ z.length ≤ sizeLine ∧ Q (.int z.length) H) := by
  intro pins s σ H xs us Q I r h
  obtain ⟨z, rfl, hz, q⟩ := h
  obtain ⟨u, rfl, t, rfl⟩ := vals1 r
  have hn := line63
  exact len_str (by omega) ⟨.int z.length, H, I.tok _, ⟨_, rfl⟩, q⟩
theorem call_list_of : CallR X (.type "list") (fun xs H Q => ∃ p ys, xs = [.ref p] ∧ (SqL X.K H p ys ∨ SqT X.K H p ys) ∧ ∀ l, H l = none → Q (.ref l) (upd H l (.lst ys))) := by
  intro pins s σ H xs us Q I r h
  obtain ⟨p, ys, rfl, hq, q⟩ := h
  obtain ⟨u, rfl, rx⟩ := vals1 r
  cases rx
  have fin : ∀ (its : List Value), Vals ys its → ys.length ≤ sizeLine → ∀ (h' : Heap) (c' : Nat), (∀ b o', s.heap.get? b = some o' → h'.get? b = some o') →
      h'.get? s.heap.objs.size = some { cls := .type "list", dict := none, data := .seq its.toArray c', slots := #[] } → EP X pins σ Q (.ref s.heap.objs.size) { s with heap := h' } := fun its r' hz h' c' kp e =>
    ⟨.ref s.heap.objs.size, _, I.laid (t' := s.toks) kp (Nat.le_refl _) (show ObjOk X.prog X.w _ h' _ (.lst ys) from ⟨hz, its, c', r', e⟩), rfl, q _ (I.hok.fresh (Nat.le_refl _))⟩
  rcases hq with hq | hq
  · obtain ⟨its, r', pl, hz⟩ := I.list hq
    have hlen := r'.length
    obtain ⟨o, ho, hc, n, hd⟩ := pl.isList
    exact call_list_seq p (.inl rfl) ho hc hd (fun h' c' kp e => fin its r' hz h' c' kp e) (by simp only [List.size_toArray] <;> omega)
  · obtain ⟨its, r', pl, hz⟩ := I.tuple hq
    have hlen := r'.length
    obtain ⟨o, ho, hc, n, hd⟩ := pl
    exact call_list_seq p (.inr rfl) ho hc hd (fun h' c' kp e => fin its r' hz h' c' kp e) (by simp only [List.size_toArray] <;> omega)
theorem call_tuple_of : CallR X (.type "tuple") (fun xs H Q => ∃ p ys, xs = [.ref p] ∧ ((SqL X.K H p ys ∧ ∀ l, H l = none → Q (.ref l) (upd H l (.tup ys))) ∨ (SqT X.K H p ys ∧ Q (.ref p) H))) := by
  intro pins s σ H xs us Q I r h
  obtain ⟨p, ys, rfl, h⟩ := h
  obtain ⟨u, rfl, rx⟩ := vals1 r
  cases rx
  rcases h with ⟨hq, q⟩ | ⟨hq, q⟩
  · obtain ⟨its, r', pl, hz⟩ := I.list hq
    have hlen := r'.length
    refine call_tuple_list pl.isList (fun h' kp => ?_) (by simp only [List.size_toArray] <;> omega)
    have I1 : Inv X pins σ H { s with heap := h' } := I.kept (t' := s.toks) kp
    have I2 : Inv X pins σ (upd H h'.objs.size (.tup ys)) { s with heap := h'.push { cls := .type "tuple", data := .seq its.toArray } } :=
      I1.laid (t' := s.toks) (fun b o e => Heap.get?_push_of_some _ e) (Nat.le_refl _) (show ObjOk X.prog X.w _ _ _ (.tup ys) from ⟨hz, its, r', TupN.new _ _⟩)
    exact ⟨.ref h'.objs.size, _, I2, rfl, q _ (I1.hok.fresh (Nat.le_refl _))⟩
  · obtain ⟨its, r', pl, hz⟩ := I.tuple hq
    exact call_tuple_same pl ⟨.ref p, H, I, rfl, q⟩

/-! ### the call of a builtin's method: o.m(..) -/
/-- the value is of that builtin type -/
def tyV (K : PySem.W.Frag) (T : String) (x : V) (H : Hp) : Prop := match x with
  | .str _ => T = "str"
  | .int _ => T = "int"
  | .ref p => (T = "list" ∧ ∃ xs, SqL K H p xs) ∨ (T = "tuple" ∧ ∃ o, K.lookup p = some o ∧ o.cls = .type "tuple" ∧ o.dict = none) ∨
      (T = "dict" ∧ ((∃ kvs, H p = some (.dK kvs)) ∨ ∃ kvs, H p = some (.dT kvs))) ∨ (T = "set" ∧ ∃ S n, H p = some (.set S n))
  | _ => False
theorem tyV_is {pins : List (Addr × Obj)} {σ : St} {H : Hp} {s : Shared} {T : String} {x : V} {v : Value} (I : Inv X pins σ H s) (r : RelV x v) (ty : tyV X.K T x H) :
    s.TypeIs v T ∧ ∀ a, v = .ref a → ∃ ob, s.heap.get? a = some ob ∧ ob.dict = none := by
  cases x with
  | str z =>
    obtain ⟨t, rfl⟩ := r
    cases (show T = "str" from ty)
    exact ⟨typeIs_str s z t, fun _ e => nomatch e⟩
  | int i =>
    obtain ⟨t, rfl⟩ := r
    cases (show T = "int" from ty)
    exact ⟨typeIs_int s i t, fun _ e => nomatch e⟩
  | ref p =>
    cases r
    rcases ty with ⟨rfl, xs, hq⟩ | ⟨rfl, o, hk, hc, hd⟩ | ⟨rfl, hk⟩ | ⟨rfl, S, n, hk⟩
    · obtain ⟨its, _, pl, _⟩ := I.list hq
      refine ⟨pl.isList.typeIs, fun a e => ?_⟩
      cases e
      obtain ⟨o, n, e, c, hd, _⟩ := pl
      exact ⟨o, e, hd⟩
    · refine ⟨⟨o, I.kIn p o hk, hc⟩, fun a e => ?_⟩
      cases e
      exact ⟨o, I.kIn _ o hk, hd⟩
    · have z : ∃ o, s.heap.get? p = some o ∧ o.ExactDict := by
        rcases hk with ⟨kvs, hk⟩ | ⟨kvs, hk⟩
        · obtain ⟨_, _, _, _, o, _, _, e, ex, _⟩ := I.hok p _ hk
          exact ⟨o, e, ex⟩
        · obtain ⟨_, _, _, _, o, _, _, e, ex, _⟩ := I.hok p _ hk
          exact ⟨o, e, ex⟩
      obtain ⟨o, e, ex⟩ := z
      refine ⟨⟨o, e, ex.1⟩, fun a e2 => ?_⟩
      cases e2
      exact ⟨o, e, ex.2.1⟩
    · obtain ⟨o, _, _, _, e, ex, _⟩ := I.hok p _ hk
      refine ⟨⟨o, e, ex.1⟩, fun a e2 => ?_⟩
      cases e2
      exact ⟨o, e, ex.2.1⟩
  | _ => exact False.elim ty
def tBM (K : PySem.W.Frag) (T : String) (r : V → List V → Hp → VK → Prop) (to : TE) (t : TA) : TE := fun σ H Q => to σ H fun x H1 => tyV K T x H1 ∧ t σ H1 fun xs H2 => r x xs H2 Q
variable {o e : Expr} {es : List Expr} {to : TE} {t : TA} {name : Str} {apos cpos : Pos} {T id : String} {r : V → List V → Hp → VK → Prop}
theorem pe_bm (pa : PlainAttrs T) (slot : Slot T name id) (hty : typeOf (.builtin id) = pure (.type "method_descriptor")) (hm : MtR X id r) (ho : PE X o to) (ha : PA X (e :: es) t)
    (hbase : attributeBase o name X.env (eval o X.env) = eval o X.env := by rfl)
    (hfew : ((backTo cpos (starEach (e :: es) X.env)).all (fun x => !x.1) && (backToKw cpos (keywordEach [] X.env)).all (fun x => x.1.isSome)
      && decide ((e :: es).length + ([] : List Keyword).length + (if ([] : List Keyword).isEmpty then 0 else 1) < 30)) = true := by rfl)
    (hline : (apos.endLine == cpos.line) = true := by rfl) (hs : starEach (e :: es) X.env = (false, eval e X.env) :: starEach es X.env := by rfl) (hplain : (backTo cpos (starEach es X.env)).any (·.1) = false := by rfl) :
    PE X (.Call (.Attribute o name apos) (e :: es) [] cpos) (tBM X.K T r to t) := by
  intro pins s σ H Q I h
  refine wpAny_Call_method_late hbase hfew hline rfl (thn (ho pins s σ H _ I h) fun v s1 ⟨x, H1, I1, r1, ty, q1⟩ => ?_)
  obtain ⟨h1, h2⟩ := tyV_is I1 r1 ty
  refine ⟨T, id, pa, slot, hty, h1, h2, ?_⟩
  have hA := ha cpos pins s1 σ H1 _ I1 q1
  rw [hs] at hA ⊢
  refine Calls.callWith_builtin (by show (false || (backTo cpos (starEach es X.env)).any (·.1)) = false; rw [hplain] <;> rfl) (Calls.evalArgs_plain ?_)
  exact thn hA fun us s2 ⟨vs, H2, I2, r2, q2⟩ => hm pins s2 σ H2 x vs v us Q I2 r1 r2 q2
/- xs.append(e), list.index on a module's tuple .. are MtR facts of 06m -/
end
end L2

namespace L2
open PySem PySem.Spec PyProof.Rows

def MtM (X : Cx) (id : String) (r : V → List V → Hp → VK → Prop) : Prop :=
  ∀ (pins : List (Addr × Obj)) (s : Shared) (σ : St) (H : Hp) (x : V) (xs : List V) (v : Value) (us : List Value) (Q : VK), Inv X pins σ H s → RelV x v → Vals xs us → r x xs H Q →
    wpAny (model X.prog X.w) X.A (call (.builtin id) (v :: us)) (EP X pins σ Q) X.xe s

/-! ### lists of values -/
theorem Vals.one : ∀ {x : V} {us : List Value}, Vals [x] us → ∃ u, us = [u] ∧ RelV x u
  | _, _, .cons r .nil => ⟨_, rfl, r⟩

section
variable {X : Cx} {pins : List (Addr × Obj)} {σ : St} {H : Hp} {s : Shared} {l b : Addr} {xs ys zs : List V}

/-! ### the two steps: a tracked list is rewritten, a new list is laid -/
theorem Inv.lset {its its' : List Value} {n : Nat} {f : Array Value → Array Value} {t' : Nat} (I : Inv X pins σ H s) (hH : H l = some (.lst xs))
    (e : s.heap.get? l = some { cls := .type "list", data := .seq its.toArray n }) (hf : f its.toArray = its'.toArray) (hv : Vals ys its') (hz : ys.length ≤ sizeLine) :
    Inv X pins σ (upd H l (.lst ys)) { s with heap := s.heap.update l (Obj.mapSeq f), toks := t' } := by
  have q := PySem.IsL.update e f
  rw [hf] at q
  refine I.write (x := l) (e := l) (by rw [hH]; exact trivial) (.inl rfl) (fun b' u hb hu => (Heap.get?_update_other s.heap (Obj.mapSeq f) (Ne.symm hb)).trans hu) ⟨_, q⟩ ?_
  exact ⟨hz, its', _, hv, q⟩
theorem Inv.lnew {its : List Value} {t' : Nat} (I : Inv X pins σ H s) (hv : Vals ys its) (hz : ys.length ≤ sizeLine) :
    Inv X pins σ (upd H s.heap.objs.size (.lst ys)) { s with heap := s.heap.push { cls := .type "list", data := .seq its.toArray }, toks := t' } :=
  I.laid (fun _ _ q => Heap.get?_push_of_some _ q) (Nat.le_refl _) ⟨hz, its, 0, hv, Heap.get?_push_size _ rfl⟩
theorem Inv.fresh (I : Inv X pins σ H s) : H s.heap.objs.size = none := I.hok.fresh (Nat.le_refl _)
theorem Inv.lstM (I : Inv X pins σ H s) (hH : H l = some (.lst xs)) : xs.length ≤ sizeLine ∧ ∃ (its : List Value) (n : Nat), Vals xs its ∧ xs.length = its.length ∧ s.heap.get? l = some { cls := .type "list", data := .seq its.toArray n } := by
  obtain ⟨z, its, n, r, e⟩ := I.hok l _ hH
  exact ⟨z, its, n, r, r.length, e⟩

theorem notLongL {n : Nat} (h : n ≤ sizeLine) : Builtin.List.listTooLong n = false := by
  unfold Builtin.List.listTooLong
  exact decide_eq_false (by omega)
end

section
variable {X : Cx}

/-! ### methods -/
def rAppend : V → List V → Hp → VK → Prop := fun x vs H Q => ∃ l xs y, x = .ref l ∧ vs = [y] ∧ H l = some (.lst xs) ∧ xs.length < sizeLine ∧ Q .non (upd H l (.lst (xs ++ [y])))
theorem mt_append : MtM X "list.append" rAppend := by
  intro pins s σ H x vs v us Q I rx rv h
  obtain ⟨l, xs, y, rfl, rfl, hH, hz, q⟩ := h
  cases rx
  obtain ⟨u, rfl, ru⟩ := rv.one
  obtain ⟨z, its, n, r, hl, e⟩ := I.lstM hH
  refine call_meets F.slot_list_append ⟨_, e, rfl⟩ F.entry_list_append (F.args_list_append_2 _ _) (PySem.list_append l its.toArray n u (by rw [List.size_toArray]; omega)) ⟨e, ?_⟩
  refine ⟨.non, _, I.lset (its' := its ++ [u]) hH e (by simp) (r.append (.cons ru .nil)) ?_, rfl, q⟩
  rw [List.length_append, List.length_singleton]
  omega






/-! ### list + list, list += list, list * int -/
def rCat : R2 := fun x y H Q => ∃ l b xs zs, x = .ref l ∧ y = .ref b ∧ H l = some (.lst xs) ∧ H b = some (.lst zs) ∧ xs.length + zs.length ≤ sizeLine ∧ ∀ p, H p = none → Q (.ref p) (upd H p (.lst (xs ++ zs)))
theorem op_cat : OpR X (binaryOp .Add) rCat := by
  intro pins s σ H x y v u Q I rx ry h
  obtain ⟨l, b, xs, zs, rfl, rfl, hH, hB, hz, q⟩ := h
  cases rx
  cases ry
  obtain ⟨z, its, n, r, hl, e⟩ := I.lstM hH
  obtain ⟨z2, its2, n2, r2, hl2, e2⟩ := I.lstM hB
  refine PySem.P.add_list e e2 ?_ (by rw [List.size_toArray, List.size_toArray]; omega)
  have ea : its.toArray ++ its2.toArray = (its ++ its2).toArray := by simp
  rw [ea]
  exact ⟨.ref _, _, I.lnew (t' := s.toks) (r.append r2) (by rw [List.length_append]; omega), rfl, q _ I.fresh⟩

/-! ### del xs[i] -/
end

/-! ### xs[a:b] = ys -/
section
variable {prog : Program} {w : World} {A : Around} {E : Value → Shared → Prop} {s : Shared}
set_option maxRecDepth 100000 in
end

section
variable {X : Cx}
end
end L2

namespace L2
open PySem PySem.Spec PyProof.Rows

/-! ### lists of pairs as tables -/
section
variable {κ : Type} [DecidableEq κ]
def valV (kvs : List (κ × V)) (k : κ) : Option V := (kvs.find? fun kv => decide (kv.1 = k)).map (·.2)
/-- in its place, or at the end -/
def putK (kvs : List (κ × V)) (k : κ) (v : V) : List (κ × V) :=
  if (kvs.any fun kv => decide (kv.1 = k)) = true then kvs.map (fun kv => if kv.1 = k then (kv.1, v) else kv) else kvs ++ [(k, v)]

theorem valV_pos {p : κ × V} {r : List (κ × V)} {k : κ} (e : p.1 = k) : valV (p :: r) k = some p.2 := by simp [valV, List.find?_cons, e]
theorem valV_neg {p : κ × V} {r : List (κ × V)} {k : κ} (e : ¬ p.1 = k) : valV (p :: r) k = valV r k := by simp [valV, List.find?_cons, e]
theorem valV_any (k : κ) : ∀ kvs : List (κ × V), (kvs.any fun kv => decide (kv.1 = k)) = (valV kvs k).isSome
  | [] => rfl
  | p :: r => by
    rw [List.any_cons]
    by_cases e : p.1 = k
    · simp only [valV_pos e, decide_eq_true e, Bool.true_or, Option.isSome_some]
    · rw [valV_neg e, decide_eq_false e, Bool.false_or]; exact valV_any k r
theorem valV_map (k j : κ) (y : V) : ∀ kvs : List (κ × V), valV (kvs.map fun kv => if kv.1 = k then (kv.1, y) else kv) j = (valV kvs j).map fun x => if j = k then y else x
  | [] => rfl
  | p :: r => by
    have ih := valV_map k j y r
    rw [List.map_cons]
    by_cases h : p.1 = k
    · rw [if_pos h]
      by_cases e : p.1 = j
      · rw [valV_pos (p := (p.1, y)) e, valV_pos e, Option.map_some, if_pos (e.symm.trans h)]
      · rw [valV_neg (p := (p.1, y)) e, valV_neg e, ih]
    · rw [if_neg h]
      by_cases e : p.1 = j
      · rw [valV_pos (p := p) e, valV_pos e, Option.map_some, if_neg (fun z => h (e.trans z))]
      · rw [valV_neg (p := p) e, valV_neg e, ih]
theorem valV_snoc (k j : κ) (y : V) : ∀ kvs : List (κ × V), valV kvs k = none → valV (kvs ++ [(k, y)]) j = if j = k then some y else valV kvs j
  | [], _ => by
    by_cases e : k = j
    · rw [if_pos e.symm]; exact valV_pos (p := (k, y)) e
    · rw [if_neg (fun z => e z.symm)]; exact valV_neg (p := (k, y)) e
  | p :: r, hn => by
    rw [List.cons_append]
    have hk : ¬ p.1 = k := fun z => by rw [valV_pos z] at hn; cases hn
    rw [valV_neg hk] at hn
    have ih := valV_snoc k j y r hn
    by_cases e : p.1 = j
    · rw [valV_pos e, valV_pos e, if_neg (fun z => hk (e.trans z))]
    · rw [valV_neg e, valV_neg e, ih]
theorem valV_put (kvs : List (κ × V)) (k j : κ) (y : V) : valV (putK kvs k y) j = if j = k then some y else valV kvs j := by
  unfold putK
  by_cases a : (kvs.any fun kv => decide (kv.1 = k)) = true
  · rw [if_pos a, valV_map]
    rw [valV_any] at a
    by_cases e : j = k
    · obtain ⟨x, hx⟩ := Option.isSome_iff_exists.mp a
      rw [if_pos e, e, hx, Option.map_some, if_pos rfl]
    · rw [if_neg e]
      cases valV kvs j with
      | none => rfl
      | some x => rw [Option.map_some, if_neg e]
  · rw [if_neg a]
    refine valV_snoc k j y kvs ?_
    rw [valV_any] at a
    cases q : valV kvs k with
    | none => rfl
    | some x => rw [q] at a; exact (a rfl).elim
theorem length_putK (kvs : List (κ × V)) (k : κ) (v : V) : (putK kvs k v).length ≤ kvs.length + 1 := by
  unfold putK
  split
  · rw [List.length_map]; omega
  · rw [List.length_append, List.length_cons, List.length_nil]; omega

theorem RelO.isSome_eq {o : Option V} {u : Option Value} (r : RelO o u) : o.isSome = u.isSome := by
  cases o with
  | none => cases u with
    | none => rfl
    | some _ => exact (show False from r).elim
  | some _ => cases u with
    | none => exact (show False from r).elim
    | some _ => rfl

/-- raw tables of the same keys -/
theorem KV.val {kvs : List (κ × V)} {vs : List (κ × Value)} (r : KV kvs vs) (k : κ) : RelO (valV kvs k) (valueAt vs k) := by
  unfold KV at r
  induction r with
  | nil => exact True.intro
  | @cons p q ps qs h t ih =>
    obtain ⟨h1, h2⟩ := h
    by_cases e : p.1 = k
    · have e' : q.1 = k := h1.symm.trans e
      have b : valueAt (q :: qs) k = some q.2 := by simp [valueAt, List.find?_cons, e']
      rw [valV_pos e, b]; exact h2
    · have e' : ¬ q.1 = k := fun z => e (h1.trans z)
      have b : valueAt (q :: qs) k = valueAt qs k := by simp [valueAt, List.find?_cons, e']
      rw [valV_neg e, b]; exact ih
theorem KV.any {kvs : List (κ × V)} {vs : List (κ × Value)} (r : KV kvs vs) (k : κ) : (kvs.any fun kv => decide (kv.1 = k)) = vs.any fun kv => decide (kv.1 = k) := by
  unfold KV at r
  induction r with
  | nil => rfl
  | cons h t ih => rw [List.any_cons, List.any_cons, ih, h.1]
theorem KV.repl {kvs : List (κ × V)} {vs : List (κ × Value)} (r : KV kvs vs) (k : κ) {y : V} {u : Value} (ry : RelV y u) :
    KV (kvs.map fun kv => if kv.1 = k then (kv.1, y) else kv) (vs.map fun kv => if kv.1 = k then (kv.1, u) else kv) := by
  unfold KV at r ⊢
  induction r with
  | nil => exact .nil
  | @cons p q ps qs h t ih =>
    rw [List.map_cons, List.map_cons]
    refine .cons ?_ ih
    obtain ⟨h1, h2⟩ := h
    by_cases e : p.1 = k
    · rw [if_pos e, if_pos (h1.symm.trans e)]; exact ⟨h1, ry⟩
    · rw [if_neg e, if_neg (fun z => e (h1.trans z))]; exact ⟨h1, h2⟩
theorem KV.put {kvs : List (κ × V)} {vs : List (κ × Value)} (r : KV kvs vs) (k : κ) {y : V} {u : Value} (ry : RelV y u) : KV (putK kvs k y) (stored vs k u) := by
  unfold putK stored
  rw [r.any k]
  by_cases e : (vs.any fun kv => decide (kv.1 = k)) = true
  · rw [if_pos e, if_pos e]; exact r.repl k ry
  · rw [if_neg e, if_neg e]; exact Paired.snoc r ⟨rfl, ry⟩
theorem KV.length {kvs : List (κ × V)} {vs : List (κ × Value)} (r : KV kvs vs) : kvs.length = vs.length := Paired.length r
end


/-! ### a tracked dict, its keys ints and texts or tuples of these -/
theorem kV_is {P : Program} {w : World} {k : Key} {u : Value} (r : RelV (kV k) u) : (mixKind P w).is k u = true := by
  cases k with
  | inl i => obtain ⟨t, e⟩ := (show ∃ t, u = Value.int i t from r); subst e; exact mixKind_int P w i t
  | inr x => obtain ⟨t, e⟩ := (show ∃ t, u = Value.str x t from r); subst e; exact mixKind_str P w x t
theorem items_are {P : Program} {w : World} : ∀ {ks : List Key} {us : List Value}, Vals (ks.map kV) us → ItemsAre (mixKind P w) ks us
  | [], _, r => by rw [List.map_nil] at r; cases r; exact .nil
  | k :: ks, _, r => by
    rw [List.map_cons] at r
    cases r with
    | cons h t => exact .cons (kV_is h) (items_are t)

/-- raw entries of a dict with tuple keys -/
abbrev KT (H : Hp) : List (List Key × V) → List (List Key × Addr × Value) → Prop := Paired fun p q => p.1 = q.1 ∧ H q.2.1 = some (.tup (p.1.map kV)) ∧ RelV p.2 q.2.2
theorem KT.val {H : Hp} {kvs : List (List Key × V)} {xs : List (List Key × Addr × Value)} (r : KT H kvs xs) (k : List Key) : RelO (valV kvs k) ((atKey xs k).map (·.2)) := by
  induction r with
  | nil => exact True.intro
  | @cons p q ps qs h t ih =>
    obtain ⟨h1, _, h2⟩ := h
    by_cases e : p.1 = k
    · have e' : q.1 = k := h1.symm.trans e
      have b : atKey (q :: qs) k = some q.2 := by simp [atKey, List.find?_cons, e']
      rw [valV_pos e, b]; exact h2
    · have e' : ¬ q.1 = k := fun z => e (h1.trans z)
      have b : atKey (q :: qs) k = atKey qs k := by simp [atKey, List.find?_cons, e']
      rw [valV_neg e, b]; exact ih
theorem KT.repl {H : Hp} {kvs : List (List Key × V)} {xs : List (List Key × Addr × Value)} (r : KT H kvs xs) (k : List Key) {y : V} {u : Value} (ry : RelV y u) :
    KT H (kvs.map fun kv => if kv.1 = k then (kv.1, y) else kv) (xs.map (putAt k u)) := by
  induction r with
  | nil => exact .nil
  | @cons p q ps qs h t ih =>
    rw [List.map_cons, List.map_cons]
    refine .cons ?_ ih
    obtain ⟨h1, h2, h3⟩ := h
    unfold putAt
    by_cases e : p.1 = k
    · rw [if_pos e, if_pos (h1.symm.trans e)]; exact ⟨h1, h2, ry⟩
    · rw [if_neg e, if_neg (fun z => e (h1.trans z))]; exact ⟨h1, h2, h3⟩
theorem KT.put {H : Hp} {kvs : List (List Key × V)} {xs : List (List Key × Addr × Value)} (r : KT H kvs xs) (k : List Key) {b : Addr} {y : V} {u : Value} (hb : H b = some (.tup (k.map kV))) (ry : RelV y u) :
    KT H (putK kvs k y) (storedH xs k b u) := by
  have e : (kvs.any fun kv => decide (kv.1 = k)) = (atKey xs k).isSome := by
    rw [valV_any, (r.val k).isSome_eq, Option.isSome_map]
  unfold putK storedH
  rw [e]
  by_cases q : (atKey xs k).isSome = true
  · rw [if_pos q, if_pos q]; exact r.repl k ry
  · rw [if_neg q, if_neg q]; exact Paired.snoc r ⟨rfl, hb, ry⟩
theorem KT.keeps {H H' : Hp} {kvs : List (List Key × V)} {xs : List (List Key × Addr × Value)} (r : KT H kvs xs) (ht : ∀ b ys, H b = some (.tup ys) → H' b = some (.tup ys)) : KT H' kvs xs :=
  Paired.mapP r fun _ _ z => ⟨z.1, ht _ _ z.2.1, z.2.2⟩

section
variable {P : Program} {w : World} {H : Hp} {h : Heap} {a : Addr}
theorem rd_of {u : HO} (ok : HOk P w H h) (e : Rd H a u) : ObjOk P w H h a u := e.ok ok
theorem dk_rd {kvs : List (Key × V)} (ok : HOk P w H h) (e : Rd H a (.dK kvs)) : kvs.length ≤ sizeLine ∧ (a == sysModules) = false ∧ ∃ vs, KV kvs vs ∧ h.DictOf (mixKind P w) a vs :=
  show ObjOk P w H h a (.dK kvs) from rd_of ok e
theorem dk_of {kvs : List (Key × V)} (ok : HOk P w H h) (e : H a = some (.dK kvs)) : kvs.length ≤ sizeLine ∧ (a == sysModules) = false ∧ ∃ vs, KV kvs vs ∧ h.DictOf (mixKind P w) a vs := dk_rd ok (.inl e)
/-- a tracked tuple of ints and texts is a key -/
theorem key_of {ks : List Key} (ok : HOk P w H h) (e : H a = some (.tup (ks.map kV))) : (tupleKind (mixKind P w)).is h ks a := by
  obtain ⟨_, its, r, o, h1, h2, _, n, h3⟩ := (show ObjOk P w H h a (.tup (ks.map kV)) from ok a _ e)
  exact ⟨o, its.toArray, n, h1, h2, h3, by simpa using items_are r⟩
theorem dt_rd {kvs : List (List Key × V)} (ok : HOk P w H h) (e : Rd H a (.dT kvs)) : kvs.length ≤ sizeLine ∧ (a == sysModules) = false ∧
    ∃ xs, KT H kvs xs ∧ h.DictOfH (tupleKind (mixKind P w)) a xs := by
  obtain ⟨z, y, xs, r, o, es, ep, h1, h2, h3, h4, h5⟩ := (show ObjOk P w H h a (.dT kvs) from rd_of ok e)
  refine ⟨z, y, xs, r, o, es, ep, h1, h2, h3, h4, fun x hx => ?_, h5⟩
  have all : ∀ {l : List (List Key × V)} {m : List (List Key × Addr × Value)}, KT H l m → ∀ x ∈ m, (tupleKind (mixKind P w)).is h x.1 x.2.1 := by
    intro l m q
    induction q with
    | nil => intro x hx; exact nomatch hx
    | @cons p q ps qs hq t ih =>
      intro x hx
      rcases List.mem_cons.mp hx with e | hx
      · subst e
        exact key_of ok (by rw [← hq.1]; exact hq.2.1)
      · exact ih x hx
  exact all r x hx
theorem dt_of {kvs : List (List Key × V)} (ok : HOk P w H h) (e : H a = some (.dT kvs)) : kvs.length ≤ sizeLine ∧ (a == sysModules) = false ∧
    ∃ xs, KT H kvs xs ∧ h.DictOfH (tupleKind (mixKind P w)) a xs := dt_rd ok (.inl e)
end

/-- what the dict at a holds at the key y -/
def DGet (H : Hp) (a : Addr) (y : V) (r : Option V) : Prop :=
  (∃ kvs k, Rd H a (.dK kvs) ∧ y = kV k ∧ r = valV kvs k) ∨ ∃ kvs k b, Rd H a (.dT kvs) ∧ y = .ref b ∧ H b = some (.tup (k.map kV)) ∧ r = valV kvs k
/-- the heap behind a[y] = v -/
def DPut (H : Hp) (a : Addr) (y v : V) (H' : Hp) : Prop :=
  (∃ kvs k, H a = some (.dK kvs) ∧ y = kV k ∧ kvs.length < sizeLine ∧ H' = upd H a (.dK (putK kvs k v))) ∨
  ∃ kvs k b, H a = some (.dT kvs) ∧ y = .ref b ∧ H b = some (.tup (k.map kV)) ∧ kvs.length < sizeLine ∧ H' = upd H a (.dT (putK kvs k v))
theorem DGet.k {H : Hp} {a : Addr} {kvs : List (Key × V)} {k : Key} (e : H a = some (.dK kvs)) : DGet H a (kV k) (valV kvs k) := .inl ⟨kvs, k, .inl e, rfl, rfl⟩
theorem DPut.k {H : Hp} {a : Addr} {kvs : List (Key × V)} {k : Key} {v : V} (e : H a = some (.dK kvs)) (hl : kvs.length < sizeLine) : DPut H a (kV k) v (upd H a (.dK (putK kvs k v))) := .inl ⟨kvs, k, e, rfl, hl, rfl⟩


section
variable {X : Cx} {pins : List (Addr × Obj)} {σ : St} {H : Hp} {s : Shared} {a : Addr} {y v : V} {u r : Value} {o : Option V} {A : Around} {E : Value → Shared → Prop}

theorem Inv.big (I : Inv X pins σ H s) : sysModules < s.heap.objs.size := by
  have h : mainGlobals < s.heap.objs.size := (I.mod.glob.keeps I.bk).lt
  exact Nat.lt_trans (by decide) h

/-- d[y], there -/
theorem d_getItem {Q : Value → Shared → Prop} (hu : A.units + 1 < cLine) (I : Inv X pins σ H s) (g : DGet H a y (some v)) (ry : RelV y u) (h : ∀ w' s', Inv X pins σ H s' → RelV v w' → Q w' s') :
    wpAny (model X.prog X.w) A (getItem (.ref a) u) Q E s := by
  rcases g with ⟨kvs, k, e, ey, l⟩ | ⟨kvs, k, b, e, ey, eb, l⟩
  · subst ey
    obtain ⟨z, hd, vs, rel, dd⟩ := dk_rd I.hok e
    obtain ⟨w', hw, rw'⟩ := RelO.some_of (v := v) (o := valueAt vs k) (by rw [l]; exact rel.val k)
    exact wpAny_getItem_of (kV_is ry) dd.mapOf hw (h w' _ (I.tok _) rw')
  · subst ey
    cases (show u = Value.ref b from ry)
    obtain ⟨z, hd, xs, rel, dd⟩ := dt_rd I.hok e
    obtain ⟨w', hw, rw'⟩ := RelO.some_of (v := v) (o := (atKey xs k).map (·.2)) (by rw [l]; exact rel.val k)
    obtain ⟨p, hp, hp2⟩ := Option.map_eq_some_iff.mp hw
    refine wpAny_getItem_heap (tupleKind_room_in1 hu) (key_of I.hok eb) dd hp ?_
    rw [hp2]
    exact h w' _ (I.tok _) rw'
theorem d_notIn {Q : Value → Shared → Prop} (hu : A.units + 1 < cLine) (I : Inv X pins σ H s) (g : DGet H a y o) (ry : RelV y u) (h : ∀ s', Inv X pins σ H s' → Q (.bool (!o.isSome)) s') :
    wpAny (model X.prog X.w) A (compareOp .NotIn u (.ref a)) Q E s := by
  rcases g with ⟨kvs, k, e, ey, l⟩ | ⟨kvs, k, b, e, ey, eb, l⟩
  · subst ey
    obtain ⟨z, hd, vs, rel, dd⟩ := dk_rd I.hok e
    refine wpAny_notIn_of (kV_is ry) hd dd.mapOf ?_
    rw [← (rel.val k).isSome_eq, ← l]
    exact h _ (I.tok _)
  · subst ey
    cases (show u = Value.ref b from ry)
    obtain ⟨z, hd, xs, rel, dd⟩ := dt_rd I.hok e
    refine wpAny_notIn_heap (tupleKind_room_in1 hu) (key_of I.hok eb) hd dd ?_
    have q := (rel.val k).isSome_eq
    rw [Option.isSome_map] at q
    rw [← q, ← l]
    exact h _ (I.tok _)
/-- a dict's object is replaced -/
theorem d_write {h' : Heap} {t' : Nat} {ob : HO} (I : Inv X pins σ H s) (mu : Mut (H a)) (hs : Heap.SameBut a s.heap h') (he : ∃ q, h'.get? a = some q) (new : ObjOk X.prog X.w (upd H a ob) h' a ob) :
    Inv X pins σ (upd H a ob) { s with heap := h', toks := t' } :=
  I.write (x := a) (e := a) mu (.inl rfl) (fun b q hb z => (hs.2 b hb).trans z) he new
theorem dk_new {P : Program} {w : World} {H' : Hp} {h' : Heap} {kvs : List (Key × V)} {vs : List (Key × Value)} (z : kvs.length ≤ sizeLine) (hd : (a == sysModules) = false) (rel : KV kvs vs) (dd : h'.DictOf (mixKind P w) a vs) :
    ObjOk P w H' h' a (.dK kvs) := ⟨z, hd, vs, rel, dd⟩
/-- d[y] = v -/
theorem d_setItem {H' : Hp} {Q : Unit → Shared → Prop} (hu : A.units + 1 < cLine) (I : Inv X pins σ H s) (g : DPut H a y v H') (ry : RelV y u) (rv : RelV v r) (h : ∀ s', Inv X pins σ H' s' → Q () s') :
    wpAny (model X.prog X.w) A (setItem (.ref a) u r) Q E s := by
  rcases g with ⟨kvs, k, e, ey, l, eH⟩ | ⟨kvs, k, b, e, ey, eb, l, eH⟩
  · subst ey eH
    obtain ⟨z, hd, vs, rel, dd⟩ := dk_of I.hok e
    have hz : vs.length ≤ sizeLine := by rw [← rel.length]; exact z
    have hl : (putK kvs k v).length ≤ sizeLine := by have := length_putK kvs k v; omega
    refine wpAny_setItem_pairs (hsz := hz) (kV_is ry) dd fun h' dd' hs => h _ ?_
    have he : ∃ q, h'.get? a = some q := let ⟨q, _, _, hq, _⟩ := dd'; ⟨q, hq⟩
    exact d_write I (by rw [e]; exact True.intro) hs he (dk_new hl hd (rel.put k rv) dd')
  · subst ey eH
    cases (show u = Value.ref b from ry)
    obtain ⟨z, hd, xs, rel, dd⟩ := dt_of I.hok e
    have hz : xs.length ≤ sizeLine := by rw [← Paired.length rel]; exact z
    have hl : (putK kvs k v).length ≤ sizeLine := by have := length_putK kvs k v; omega
    refine wpAny_setItem_heap (hsz := hz) (tupleKind_room_in1 hu) (key_of I.hok eb) dd fun h' dd' hs => h _ ?_
    obtain ⟨q, es, ep, hq, h2, h3, h4, _, h5⟩ := dd'
    refine d_write I (by rw [e]; exact True.intro) hs ⟨q, hq⟩ ⟨hl, hd, _, (rel.put k eb rv).keeps fun c ys ec => ?_, q, es, ep, hq, h2, h3, h4, h5⟩
    rw [upd_ne (ne_of ec e (fun z => nomatch z))]
    exact ec
end

section
variable {X : Cx} {pins : List (Addr × Obj)} {σ : St} {H : Hp} {s : Shared} {a : Addr} {kvs : List (Key × V)} {k : Key} {u : Value} {A : Around} {E : Value → Shared → Prop}
end


/-! ### readings and rules -/
/-- the element of a subscription, not a slice -/
def NoSl (i : Expr) : Prop := ∀ ov iv, subscripted i false ov iv = operate [ov, iv] (getItem ov iv)
theorem subD_of {prog : Program} {w : World} {A : Around} {E : Value → Shared → Prop} {s : Shared} {env : Env} {value slice : Expr} {pos : Pos} {T id : String} {Q : Value → Shared → Prop}
    (hl : typeLookup (.type T) "__getitem__" = pure (some (.builtin id))) (hs : NoSl slice)
    (h : wpAny (model prog w) A (eval value env) (fun o s₁ => wpAny (model prog w) A (eval slice env) (fun i s₂ => s₂.TypeIs o T ∧ wpAny (model prog w) A (getItem o i) Q E s₂) E s₁) E s) :
    wpAny (model prog w) A (eval (.Subscript value slice pos) env) Q E s := by
  refine Subscript_ (wpAny_mono h (fun o s₁ h₁ => wpAny_mono h₁ (fun i s₂ h₂ => ?_) fun _ _ x => x) fun _ _ x => x)
  obtain ⟨hT, h₂⟩ := h₂
  unfold subscriptTail
  refine wpAny_bind ?_
  rw [getitemInPython_of_ne hT.not_modules]
  refine wpAny_bind (wpAny_specialOf hT hl ?_)
  have fin : wpAny (model prog w) A (subscripted slice false o i) (fun r s₃ => wpAny (model prog w) A (letTemporaryGo value o r >>= fun _ => pure r) Q E s₃) E s₂ := by
    rw [hs o i]
    exact wpAny_operating (wpAny_mono h₂ (fun r s₃ h₃ => wpAny_bind (wpAny_letTemporaryGo (wpAny_pure h₃))) fun _ _ x => x)
  first
    | exact wpAny_pure (wpAny_bind fin)
    | exact wpAny_bind (wpAny_pure (wpAny_bind fin))
    | exact wpAny_bind fin

theorem dict_typeIs {X : Cx} {pins : List (Addr × Obj)} {σ : St} {H : Hp} {s : Shared} {a : Addr} {y : V} {o : Option V} (I : Inv X pins σ H s) (g : DGet H a y o) : s.TypeIs (.ref a) "dict" := by
  rcases g with ⟨kvs, k, e, _, _⟩ | ⟨kvs, k, b, e, _, _, _⟩
  · obtain ⟨_, _, vs, _, dd⟩ := dk_rd I.hok e
    exact dd.typeIs
  · obtain ⟨_, _, xs, _, dd⟩ := dt_rd I.hok e
    exact dd.typeIs

/-- d[y] -/
def tDGet (td ty : TE) : TE := fun σ H Q => td σ H fun x H1 => ty σ H1 fun y H2 => ∃ a v, x = .ref a ∧ DGet H2 a y (some v) ∧ Q v H2
def tDNotIn (ty td : TE) : TE := fun σ H Q => ty σ H fun y H1 => td σ H1 fun x H2 => ∃ a o, x = .ref a ∧ DGet H2 a y o ∧ Q (.bl (!o.isSome)) H2
/-- d[y] = v -/
def sDPut (td ty tv : TE) : TS := fun D σ H => tv σ H fun v H1 => td σ H1 fun x H2 => ty σ H2 fun y H3 => ∃ a H4, x = .ref a ∧ DPut H3 a y v H4 ∧ D.nx σ H4

section
variable {X : Cx} {o i e value : Expr} {pos pos' tpos : Pos} {td ty tv : TE}
theorem pe_dget (hu : X.A.units + 1 < cLine) (ho : PE X o td) (hi : PE X i ty) (hs : NoSl i) : PE X (.Subscript o i pos) (tDGet td ty) := by
  intro pins s σ H Q I h
  refine subD_of PySem.F.slot_dict_getitem.lookup hs (thn (ho pins s σ H _ I h) fun u s1 ⟨x, H1, I1, rx, q1⟩ => thn (hi pins s1 σ H1 _ I1 q1) fun iv s2 ⟨y, H2, I2, ry, a, v, ex, g, q2⟩ => ?_)
  subst ex
  obtain rfl : u = Value.ref a := rx
  exact ⟨dict_typeIs I2 g, d_getItem hu I2 g ry fun w' s3 I3 rw' => ⟨v, H2, I3, rw', q2⟩⟩
theorem pc_dnotin (hu : X.A.units + 1 < cLine) (hi : PE X i ty) (ho : PE X o td) : PC X .NotIn i o (tDNotIn ty td) := by
  intro pins s σ H Q I h
  refine thn (hi pins s σ H _ I h) fun iv s1 ⟨y, H1, I1, ry, q1⟩ => thn (ho pins s1 σ H1 _ I1 q1) fun u s2 ⟨x, H2, I2, rx, a, ov, ex, g, q2⟩ => ?_
  subst ex
  obtain rfl : u = Value.ref a := rx
  exact d_notIn hu I2 g ry fun s3 I3 => ⟨.bl (!ov.isSome), H2, I3, rfl, q2⟩
theorem ps_dput (hu : X.A.units + 1 < cLine) (ho : PE X o td) (hi : PE X i ty) (hv : PE X value tv) (hs : swapsWith value (some (.Subscript o i pos')) pos.line X.env = pure false) :
    PS X (.Assign [.Subscript o i pos'] value pos) (sDPut td ty tv) := by
  intro pins s σ H D I h
  refine wpAny_Assign_Subscript (thn (hv pins s σ H _ I h) fun r s1 ⟨v, H1, I1, rv, q1⟩ => thn (ho pins s1 σ H1 _ I1 q1) fun u s2 ⟨x, H2, I2, rx, q2⟩ => thn (hi pins s2 σ H2 _ I2 q2) fun iv s3 ⟨y, H3, I3, ry, a, H4, ex, g, q3⟩ => ?_) hs
  subst ex
  obtain rfl : u = Value.ref a := rx
  exact d_setItem hu I3 g ry rv fun s4 I4 => ⟨σ, H4, I4, q3⟩
end


/-! ### displays -/
theorem dk_empty {P : Program} {w : World} {H : Hp} (h : Heap) (hb : sysModules < h.objs.size) : ObjOk P w H (h.push { cls := .type "dict", data := .dict #[] }) h.objs.size (.dK []) :=
  ⟨Nat.zero_le _, beq_eq_false_iff_ne.mpr (Ne.symm (Nat.ne_of_lt hb)), [], .nil, Heap.DictOf.new h⟩
/-- {}, to be a dict of the kind that is wanted -/
def tDNewK : TE := fun _ H Q => ∀ p, H p = none → Q (.ref p) (upd H p (.dK []))
section
variable {X : Cx} {pos : Pos}
theorem pe_dnewK : PE X (.Dict [] [] pos) tDNewK := fun pins s σ H Q I h =>
  wpAny_Dict_empty ⟨.ref s.heap.objs.size, _, I.laid (a := s.heap.objs.size) (o := .dK []) (t' := s.toks) (fun _ _ q => Heap.get?_push_of_some _ q) (Nat.le_refl _) (dk_empty s.heap I.big), rfl, h _ (I.hok.fresh (Nat.le_refl _))⟩
end




/-! ### methods -/
/-- a method call o.m(e) of a built-in, with one argument: what must be seen of the text -/
structure M1 (X : Cx) (o : Expr) (m : Str) (apos : Pos) (e : Expr) (cpos : Pos) : Prop where
  base : attributeBase o m X.env (eval o X.env) = eval o X.env
  few : ((backTo cpos (starEach [e] X.env)).all (fun x => !x.1) && (backToKw cpos (keywordEach [] X.env)).all (fun x => x.1.isSome)
    && decide (([e] : List Expr).length + ([] : List Keyword).length + (if ([] : List Keyword).isEmpty then 0 else 1) < 30)) = true
  line : (apos.endLine == cpos.line) = true
  trees : backTo cpos (starEach [e] X.env) = [(false, eval e X.env)]
structure M2 (X : Cx) (o : Expr) (m : Str) (apos : Pos) (e f : Expr) (cpos : Pos) : Prop where
  base : attributeBase o m X.env (eval o X.env) = eval o X.env
  few : ((backTo cpos (starEach [e, f] X.env)).all (fun x => !x.1) && (backToKw cpos (keywordEach [] X.env)).all (fun x => x.1.isSome)
    && decide (([e, f] : List Expr).length + ([] : List Keyword).length + (if ([] : List Keyword).isEmpty then 0 else 1) < 30)) = true
  line : (apos.endLine == cpos.line) = true
  trees : backTo cpos (starEach [e, f] X.env) = [(false, eval e X.env), (false, eval f X.env)]


section
variable {X : Cx} {pins : List (Addr × Obj)} {σ : St} {H : Hp} {s : Shared} {a : Addr} {y d : V} {u r : Value} {o : Option V} {A : Around} {E : Value → Shared → Prop}
end

section
variable {X : Cx} {o e f : Expr} {apos cpos : Pos} {td ty tx : TE}
end

/-! ### dict(d): a copy -/
section
variable {X : Cx} {pins : List (Addr × Obj)} {σ : St} {H : Hp} {s : Shared} {a : Addr} {kvs : List (Key × V)} {A : Around} {E : Value → Shared → Prop}
end


section
variable {X : Cx} {pins : List (Addr × Obj)} {σ : St} {H : Hp} {s : Shared} {a : Addr} {y : V} {u : Value} {A : Around} {E : Value → Shared → Prop}
end
end L2

namespace Att
open PySem PySem.W PySem.Calls PyProof.Rows

/-! ### the script -/
theorem ints_of_wellAll {P : Params} {h : Heap} : ∀ (ns : List Int) (vs : List Value), WellAll P h vs (ns.map WData.int) → IntsAre vs ns := by
  intro ns
  induction ns with
  | nil =>
    intro vs w
    rw [List.map_nil] at w
    cases w
    exact .nil
  | cons n ns ih =>
    intro vs w
    rw [List.map_cons] at w
    cases w with
    | cons a b =>
      cases a
      exact .cons _ _ (ih _ b)

theorem script_of {l : OpenLaw} {n : Nat} (hn : l.most = some n) {P : Params} {h : Heap} {args : List WData} {vals : List Value}
    (hpre : l.row.toRowW.claim.pre args = true) (hwl : WellAll P h vals args) :
    ∃ a vs ns, vals = [Value.ref a] ∧ args = [WData.list (ns.map WData.int)] ∧ h.get? a = some { cls := .type "list", data := .seq vs.toArray } ∧ IntsAre vs ns ∧ ns.length ≤ n := by
  have hsh : WShape.hasAll [] args [.list .int] = true := (pre_splitW hpre).1
  have hc : l.pre.holds [] { args := args } = true := (pre_splitW hpre).2
  obtain ⟨d, r, rfl, h1, h2⟩ := hasAllW_cons hsh
  obtain rfl := hasAllW_nil h2
  obtain ⟨xs, rfl, h3⟩ := hasW_list h1
  obtain ⟨ns, rfl⟩ := items_int h3
  have hlen : ns.length ≤ n := by
    unfold OpenLaw.pre at hc
    have h4 : (WTm.not (.lt (.lit (.int (n : Int))) (.len (.arg 0)))).holds [] { args := [.list (ns.map .int)] } = true := by
      have h4 := (holds_andW hc).1
      rw [hn] at h4
      exact h4
    have h5 := condW_of h4 (w_not (w_lt w_lit (w_len_list (w_arg rfl))))
    rw [List.length_map] at h5
    refine Nat.le_of_not_lt fun q => ?_
    have q' : (n : Int) < ((ns.length : Nat) : Int) := by omega
    first
      | (rw [decide_eq_true q'] at h5; exact absurd h5 (by decide))
      | (simp at h5; omega)
  cases hwl with
  | cons w1 w2 =>
    cases w2
    cases w1 with
    | list ho hall => exact ⟨_, _, ns, rfl, rfl, ho, ints_of_wellAll ns _ hall, hlen⟩

theorem post_true (l : OpenLaw) (args : List WData) : l.row.toRowW.claim.post args (.bool true) args = true :=
  postW_of (r := l.row.toRowW) (X := (true == true))
    (show WShape.has [] (.bool true) .bool = true by first | rfl | decide | simp [WShape.has, WShape.arms, WShape.armsAll])
    (show (WTm.eq .res (.lit (.bool true))).value [] { args := args, res := some (.bool true), after := args } = some (.bool (true == true)) from w_eq_bool (w_res rfl) w_lit) rfl

/-! ### the attachment: holds_open's last premise (the goal 'hc' behind k_head) from a wpAny of the law's body -/

/-- the same from a codeAny of the CALL (for a layer whose function contracts speak of calls) -/
theorem attach_call {l : OpenLaw} {n : Nat} {q : Program} {loose : List Str} {XP : (Str → Option Value) → Heap → Prop} {YP : World → Heap → Prop} {d : DefRec}
    (hn : l.most = some n) (hdf : d.params.defaults = [])
    (call : ∀ (w : World) (s₀ s₁ : Shared) (mg mb : Str → Option Value) (fa : Addr) (o : Obj) (pm cd doc : Value) (a : Addr) (vs : List Value) (ns : List Int),
      Ground q loose [] XP w s₀ mg mb s₁.heap → YP w s₁.heap →
      s₁.heap.get? fa = some o → o.data = .func (docDef d.name d.params d.body d.scope pm cd doc) → s₁.heap.CodeRec cd d.name → mg d.name = some (.ref fa) →
      s₁.heap.get? a = some { cls := .type "list", data := .seq vs.toArray } → IntsAre vs ns → ns.length ≤ n → s₁.gens = #[] →
      codeAny (model l.prog w) callerA (.call (.ref fa) ⟨[.ref a], []⟩) (fun r s' => r = .ok (.ret (.bool true)) ∧ OldK s₁.heap s'.heap ∧ s'.os = s₁.os ∧ AllBare s'.gens) s₁) :
    WalkO q loose XP YP l.row.toRowW d [] (fun f vs => PySem.call f vs) := by
  intro w s₀ s₁ mg mb G Y fa o pm cd doc dV kV ho hd hcd hD hmg hg args vals as hpre hlay hrd hwl hlo
  obtain rfl : dV = .none := Dflts.none hD hdf
  obtain rfl : kV = .none := Dflts.noKw hD
  obtain ⟨a, vs, ns, rfl, rfl, hobj, hints, hlen⟩ := script_of hn hpre hwl
  refine enter_call (codeAny_mono (call w s₀ s₁ mg mb fa o pm cd doc a vs ns G Y ho (fd_plain hd) hcd hmg hobj hints hlen hg) fun r s' hq => ?_)
  obtain ⟨rfl, h2, h3, h4⟩ := hq
  exact ⟨.inl ⟨.bool true, .bool true, [], rfl, fun _ => rfl, .bool true, post_true l _, fun _ => ⟨List.Pairwise.nil, fun _ hm => (nomatch hm)⟩⟩, h2, h3, h4⟩


/-! ### rules over ANY heap (no ledger) from facts about the written part K: the library's own take a ledger (News) for what they write -/
section
variable {prog : Program} {w : World} {A : Around} {E : Value → Shared → Prop} {s : Shared} {K : Frag}





/-! the whole heap as the ledger: makes every rule that writes through a ledger a rule over any heap -/

end
end Att

namespace L2
open PySem PySem.Spec PyProof.Rows

theorem vals_ints : ∀ {vs : List Value} {ns : List Int}, IntsAre vs ns → Vals (ns.map V.int) vs
  | _, _, .nil => .nil
  | _, _, .cons n t h => .cons ⟨t, rfl⟩ (vals_ints h)

/-- nothing is tracked but the script, known to the object (or it is an object of the module) -/
def Only (H : Hp) : Prop := ∀ b, H b = none ∨ ∃ o xs, H b = some (.frz o (.lst xs))

/-- THE HEAD: the law's promise, at the heap behind the top. F, the promise of the law's def, may use that base is part of the heap (so K.In base, base.Ns mainGlobals mg stand in Mod) -/
theorem law_call {P : Program} {w : World} {K : PySem.W.Frag} {mg mb : Str → Option Value} {CX : CXT} {k : Nat} {fa a : Addr} {fd : FuncData} {x : Str} {sp : Sp} {s₁ : Shared} {vs : List Value} {ns : List Int}
    (KX : K.In s₁.heap) (hns : s₁.heap.Ns mainGlobals mg) (hb : s₁.heap.Ns builtinsNs mb) (hbb : ∀ x : Str, x ≠ "__name__" → mb x = bootBuiltins x) (hlim : s₁.heap.NoLimit) (hg : s₁.gens = #[])
    (ha : s₁.heap.get? a = some { cls := .type "list", data := .seq vs.toArray }) (hi : IntsAre vs ns) (hl : ns.length ≤ sizeLine) (hr : Room k callerA)
    (F : ∀ base : Heap, K.In base → base.Ns mainGlobals mg → FnOk P w K mg base CX k fa fd [x] sp) (hbind : ∀ (s : Shared) (u : Value), BindsTo s fd ⟨[u], []⟩ [(x, u)])
    (hsp : ∀ H : Hp, Only H → SqL K H a (ns.map V.int) → sp [.ref a] H (fun v _ => v = .bl true) fun _ _ _ => False)
    (hCX : ∀ H e s', CX [] H s₁ (fun _ _ _ => False) e s' → False) :
    codeAny (model P w) callerA (.call (.ref fa) ⟨[.ref a], []⟩) (fun r s' => r = .ok (.ret (.bool true)) ∧ OldK s₁.heap s'.heap ∧ s'.os = s₁.os ∧ AllBare s'.gens) s₁ := by
  have rv := vals_ints hi
  have lenV := hi.length
  -- from an abstract heap in which nothing but the script may be tracked
  have core : ∀ H : Hp, Only H → SqL K H a (ns.map V.int) → HOk P w H s₁.heap → (∀ b, H b ≠ none → b = a) → (H a ≠ none → K.lookup a = none) →
      codeAny (model P w) callerA (.call (.ref fa) ⟨[.ref a], []⟩) (fun r s' => r = .ok (.ret (.bool true)) ∧ OldK s₁.heap s'.heap ∧ s'.os = s₁.os ∧ AllBare s'.gens) s₁ := by
    intro H hO hS hok hA hK
    have base_of : ∀ {b : Addr} {o : Obj}, s₁.heap.get? b = some o → H b = none → (hidT s₁.heap H).get? b = some o := fun e n => hidT_get e n
    have noA : ∀ {b : Addr} {o : Obj} {es : Array DictEntry} {ep : Nat}, s₁.heap.get? b = some o → o.data = .dict es ep → H b = none := fun {b o es ep} e d => by
      cases q : H b with
      | none => rfl
      | some u =>
        have e' : b = a := hA b (by rw [q]; simp)
        subst e'
        rw [ha] at e; cases e
        have d' : Data.seq vs.toArray _ = Data.dict es ep := d
        cases d'
    have nsK : ∀ {b : Addr} {m : Str → Option Value}, s₁.heap.Ns b m → (hidT s₁.heap H).Ns b m := fun {b m} ⟨o, es, ep, e, d, r⟩ => ⟨o, es, ep, base_of e (noA e d), d, r⟩
    have hKb : K.In (hidT s₁.heap H) := fun b o e => base_of (KX b o e) (by
      cases q : H b with
      | none => rfl
      | some u =>
        have e' : b = a := hA b (by rw [q]; simp)
        subst e'
        rw [hK (by rw [q]; simp)] at e; cases e)
    have hM : Mod K mg (hidT s₁.heap H) := ⟨hKb, nsK hns, ⟨mb, nsK hb, hbb⟩, let ⟨mc, h1, h2⟩ := hlim; ⟨mc, nsK h1, h2⟩⟩
    have e0 : Env0 P w K mg (hidT s₁.heap H) callerA [] s₁ H := ⟨rfl, hM, fun b o e => of_hidT e, Nat.le_of_eq (hidT_size _ _), trivial, fun b hb => absurd (show b ∈ ([] : List Addr) from hb) (by simp), hok, .of_eq hg⟩
    refine codeAny_mono ((F _ hKb (nsK hns)).run callerA [] s₁ H ⟨[.ref a], []⟩ [.ref a] [.ref a] _ _ hr e0 (hbind s₁ (.ref a)) (.cons rfl .nil) (hsp H hO hS)) fun r s' h => ?_
    cases r with
    | error e => exact (hCX H e s' h).elim
    | ok fl =>
      cases fl with
      | next => exact False.elim h
      | brk => exact False.elim h
      | cont => exact False.elim h
      | ret u =>
        obtain ⟨v, H', os, bare, un, hok', r', q⟩ := h
        have q' : v = .bl true := q
        subst q'
        obtain rfl : u = Value.bool true := r'
        refine ⟨rfl, OldK.of_keep fun b o e => ?_, os, bare⟩
        cases q : H b with
        | none => exact un.keep b o e q (by intro z; exact absurd (show b ∈ ([] : List Addr) from z) (by simp)) (by simp)
        | some u =>
          rcases hO b with z | ⟨ob, xs, z⟩
          · rw [q] at z; cases z
          · have z2 := un.frzs b ob _ z
            obtain ⟨e1, _⟩ := hok b _ z
            obtain ⟨e2, _⟩ := hok' b _ z2
            rw [e] at e1; cases e1
            exact e2
  cases hk : K.lookup a with
  | some o =>
    -- the script is one of the module's own objects
    have e := KX a o hk
    rw [ha] at e
    cases e
    refine core (fun _ => none) (fun _ => .inl rfl) (.inr ⟨_, vs.toArray, _, hk, rfl, rfl, rfl, by rw [List.size_toArray, lenV]; exact hl, by simpa using rv⟩) (fun b u z => by have z' : (none : Option HO) = some u := z; cases z') (fun b z => absurd rfl z) fun z => absurd rfl z
  | none =>
    refine core (fun b => if b = a then some (.frz { cls := .type "list", data := .seq vs.toArray } (.lst (ns.map V.int))) else none) (fun b => ?_) (.inl (.inr ⟨{ cls := .type "list", data := .seq vs.toArray }, if_pos rfl⟩)) (fun b u z => ?_) (fun b z => ?_) fun _ => hk
    · by_cases hb : b = a
      · exact .inr ⟨_, _, if_pos hb⟩
      · exact .inl (if_neg hb)
    · by_cases hb : b = a
      · have z' := (if_pos hb).symm.trans z
        cases z'
        subst hb
        exact ⟨ha, by rw [List.length_map]; exact hl, vs, _, rv, ha⟩
      · have z' := (if_neg hb).symm.trans z
        cases z'
    · by_cases hb : b = a
      · exact hb
      · exact absurd (if_neg hb) z
end L2

namespace L2
open PySem PySem.Spec PyProof.Rows


/-- the goal that k_head leaves (case hc), from the law's promise. F gives the function object fd (K's own) once, then the promise over every base -/
theorem walk_of {l : PySem.W.OpenLaw} {n k : Nat} {q : Program} {loose : List Str} {XP : (Str → Option Value) → Heap → Prop} {YP : World → Heap → Prop} {d : DefRec} {K : Params → PySem.W.Frag} {CX : World → CXT} {sp : World → Sp} {x : Str}
    (hn : l.most = some n) (hn2 : n ≤ sizeLine) (hdf : d.params.defaults = []) (hr : Room k callerA)
    (hY : ∀ (w : World) (h : Heap), YP w h → (K w.params).In h)
    (F : ∀ (w : World) (mg : Str → Option Value) (fa : Addr) (h : Heap), (K w.params).In h → h.Ns mainGlobals mg → mg d.name = some (.ref fa) →
      ∃ fd : FuncData, (∀ (s : Shared) (u : Value), BindsTo s fd ⟨[u], []⟩ [(x, u)]) ∧
        ∀ base : Heap, (K w.params).In base → base.Ns mainGlobals mg → FnOk l.prog w (K w.params) mg base (CX w) k fa fd [x] (sp w))
    (hsp : ∀ (w : World) (H : Hp) (a : Addr) (ns : List Int), ns.length ≤ n → Only H → SqL (K w.params) H a (ns.map V.int) → sp w [.ref a] H (fun v _ => v = .bl true) fun _ _ _ => False)
    (hCX : ∀ (w : World) (H : Hp) (s : Shared) (e : Value) (s' : Shared), CX w [] H s (fun _ _ _ => False) e s' → False) :
    PySem.W.WalkO q loose XP YP l.row.toRowW d [] (fun f vs => PySem.call f vs) := by
  refine Att.attach_call hn hdf fun w s₀ s₁ mg mb fa o pm cd doc a vs ns G Y ho hd hcd hmg hobj hints hlen hg => ?_
  have KX := hY w _ Y
  obtain ⟨fd, hb, hF⟩ := F w mg fa _ KX G.T.g hmg
  exact law_call KX G.T.g G.T.b G.T.builtins G.T.nolimit hg hobj hints (Nat.le_trans hlen hn2) hr hF hb (fun H hO hS => hsp w H a ns hlen hO hS) fun H e s' => hCX w H s₁ e s'
end L2

/- THE LAST THEOREM (shape; LID, My.* are yours):
   My.Adr: a structure of the addresses that your layer names (classes, functions); My.Txt K t: a structure (Prop) of the equations over K;
   My.txt_mk : {K} {implicit addresses ..} (e1 : nsIn K mainGlobals "law" = some (some (.ref f))) (e2 : K.lookup f = some ⟨oc, od, .func (fnOf "law" "law" params body scope dV kV doc pm an cdv ct), sl⟩) (e3 : codeIn K cdv "law" = true) .. : ∃ t, My.Txt K t

set_option maxRecDepth 100000 in
set_option maxHeartbeats 0 in
theorem PySem.Challenge.cw_LID_holds : PySem.Challenge.rw_LID.Holds := by
  w_on; o_law; k_head; (case hw => w_witness2)
  k_fill
  refine L2.walk_of (l := PySem.Challenge.rw_LID) (n := 63) (k := 40) (x := "script") (CX := fun w => ..) (sp := fun _ => My.sp_law) rfl (by decide) rfl ⟨rfl, by decide, by decide⟩ (fun w h Y => PySem.W.kIn_of Y) ?F ?S ?C
  case F =>
    intro w mg fa h KX G hmg
    have T : ∃ t, My.Txt (L2.KOf KX) t := by
      dsimp only [L2.KOf]                          -- K must stand as «<heap const> w.params» for k_is
      refine' My.txt_mk ?e1 ?e2 ?e3 ..
      (case e1 => PySem.W.k_is)                    -- in the order: a name -> its address -> its object -> its parts
      (case e2 => PySem.W.k_is)
      ..
    obtain ⟨t, T⟩ := T
    have e0 := hmg.symm.trans (PySem.W.mg_of KX G T.law)
    cases e0                                       -- fa is the law's own address
    exact ⟨_, fun s u => .of_eq rfl, fun base kb nb => My.law_fn T kb nb⟩     -- if «.of_eq rfl» comes too early: refine' ⟨_, ?b, fun base kb nb => My.law_fn T kb nb⟩; exact fun s u => .of_eq rfl
  case S => exact fun w H a ns hl hO hS => ..
  case C => exact ..
(the tactic k_is has no namespace: write k_is) -/

/-! SHORT WORDS over the layer: a def of the text, its body, what a loop and a test want. -/
namespace L2
open PySem PySem.Spec PyProof.Rows

/-! ### the text by places -/
/-- the j-th statement of a class's body -/
def inClass (s : Stmt) (j : Nat) : Stmt := match s with
  | .ClassDef _ _ _ body _ _ _ _ _ _ _ => body.getD j (.Pass ⟨0, 0, 0, 0⟩)
  | _ => .Pass ⟨0, 0, 0, 0⟩
def defArgs (s : Stmt) : Arguments := match s with
  | .FunctionDef _ a _ _ _ _ _ _ _ _ => a
  | _ => { posonlyargs := [], args := [], vararg := none, kwonlyargs := [], kw_defaults := [], kwarg := none, defaults := [] }
def defBody (s : Stmt) : List Stmt := match s with
  | .FunctionDef _ _ b _ _ _ _ _ _ _ => b
  | _ => []
def defScope (s : Stmt) : Scope := match s with
  | .FunctionDef _ _ _ _ _ _ sc _ _ _ => sc
  | _ => { kind := .function, names := [], isGenerator := false, isCoroutine := false }

/-! ### no exception leaves a def -/
abbrev CX0 : CXT := fun _ _ _ _ _ _ => False
abbrev E0 : XK := fun _ _ _ => False
theorem pass0 {X : Cx} : Passes CX0 X E0 := fun _ _ _ _ _ _ _ h => h.elim

/-! ### a def (or method) of the text as it stands behind the top -/
structure Fun (K : PySem.W.Frag) (x qual : Str) (st : Stmt) (f : Addr) (fd : FuncData) : Prop where
  ex : ∃ (oc : Value) (od : Option Addr) (kV doc pm : Value) (an : Option Addr) (cdv ct : Value) (osl : Array (Option Value)),
    fd = PySem.W.fnOf x qual (defArgs st) (defBody st) (defScope st) .none kV doc pm an cdv ct ∧ K.lookup f = some ⟨oc, od, .func fd, osl⟩ ∧ PySem.W.codeIn K cdv qual = true
  kp : PySem.W.keepIn K (.ref f) = true
section
variable {P : Program} {w : World} {K : PySem.W.Frag} {mg : Str → Option Value} {base : Heap}
/-- THE RULE for a def: its body as a term of rules, and the reading of that term -/
theorem Fun.ok {x qual : Str} {st : Stmt} {f : Addr} {fd : FuncData} {N ps : List Str} {k : Nat} {sp : Sp} (F : Fun K x qual st f fd) (S : FnScope N ps (defScope st)) (len : ∀ vs H Q E, sp vs H Q E → vs.length = ps.length)
    (hbody : ∀ (cdv : Value) (A : Around) (outer : List Env) (s : Shared) (H : Hp) (vs : List V) (Q : VK) (E : XK), Room k (A.deeper (envOfC qual (defScope st) s.heap.objs.size f cdv)) → sp vs H Q E →
      ∃ t, PSs (cxOf CX0 P w K mg base N qual (defScope st) f cdv A outer s H E).nox (defBody st) t ∧ t { nx := fun _ H' => Q .non H', rt := Q } (start N vs) H) : FnOk P w K mg base CX0 (k + 1) f fd ps sp := by
  obtain ⟨oc, od, kV, doc, pm, an, cdv, ct, osl, rfl, lk, hcd⟩ := F.ex
  refine fn_of lk hcd S len fun A outer s H vs Q E hr hsp => ?_
  obtain ⟨t, h, q⟩ := hbody cdv A outer s H vs Q E hr hsp
  exact ⟨t, h.nox, q⟩
/-- how its arguments bind (no defaults): h is «fun _ _ _ _ _ _ us hl => match us, hl with | [_, _], _ => rfl», one _ a parameter -/
theorem Fun.binds {x qual : Str} {st : Stmt} {f : Addr} {fd : FuncData} {ps : List Str} (F : Fun K x qual st f fd)
    (h : ∀ (kV doc pm : Value) (an : Option Addr) (cdv ct : Value) (us : List Value), us.length = ps.length → bindArgs (PySem.W.fnOf x qual (defArgs st) (defBody st) (defScope st) .none kV doc pm an cdv ct) ⟨us, []⟩ = pure (ps.zip us)) : Binds K fd ps [] := by
  obtain ⟨oc, od, kV, doc, pm, an, cdv, ct, osl, rfl, lk, hcd⟩ := F.ex
  exact .all (h kV doc pm an cdv ct)
theorem fun_mk {x qual : Str} {st : Stmt} {f : Addr} {oc : Value} {od an : Option Addr} {osl : Array (Option Value)} {kV doc pm cdv ct : Value} (l : K.lookup f = some ⟨oc, od, .func (PySem.W.fnOf x qual (defArgs st) (defBody st) (defScope st) .none kV doc pm an cdv ct), osl⟩)
    (c : PySem.W.codeIn K cdv qual = true) (k : PySem.W.keepIn K (.ref f) = true) : Fun K x qual st f (PySem.W.fnOf x qual (defArgs st) (defBody st) (defScope st) .none kV doc pm an cdv ct) := ⟨⟨oc, od, kV, doc, pm, an, cdv, ct, osl, rfl, l, c⟩, k⟩
end
theorem hu_of {A : Around} {k : Nat} (hr : Room k A) : A.units + 1 < cLine := Nat.lt_of_le_of_lt (Nat.add_le_add_left (by decide : 1 ≤ 64) _) hr.units
theorem small1000 {n : Nat} (h : n ≤ 1000) : n < sizeLine := Nat.lt_of_le_of_lt h (by decide)

/-! ### expressions in short: the name that stands in the i-th slot -/
section
variable {X : Cx}
theorem pv (i : Nat) {x : Str} {pos : Pos} (hN : X.N[i]? = some x := by rfl) (hv : Vis X.env.scope x := by first | exact Or.inl rfl | exact Or.inr (Or.inl rfl) | exact Or.inr (Or.inr rfl)) (hd : (x == ("__debug__" : Str)) = false := by decide)
    (hcd : (x == ("__classdict__" : Str)) = false := by decide) : PE X (.Name x pos) (tVar i) := pe_var hN hv hd hcd
end

/-! ### tests -/
theorem iteF {A B : Prop} (h : B) : if false = true then A else B := by
  rw [if_neg Bool.false_ne_true]
  exact h
theorem iteT {A B : Prop} (h : A) : if true = true then A else B := by
  rw [if_pos rfl]
  exact h
theorem ite2 {c A B : Prop} [Decidable c] (h1 : c → A) (h2 : ¬ c → B) : if c then A else B := by
  by_cases h : c
  · rw [if_pos h]
    exact h1 h
  · rw [if_neg h]
    exact h2 h

/-! ### heaps -/
/-- all that was tracked is as it was -/
def Same (H H' : Hp) : Prop := ∀ b o, H b = some o → H' b = some o
theorem Same.refl (H : Hp) : Same H H := fun _ _ h => h
theorem Same.trans {H H1 H2 : Hp} (a : Same H H1) (b : Same H1 H2) : Same H H2 := fun c o h => b c o (a c o h)
theorem Same.seq {K : PySem.W.Frag} {H H' : Hp} {a : Addr} {xs : List V} (e : Same H H') (h : SqL K H a xs) : SqL K H' a xs := by
  rcases h with (h | ⟨o, h⟩) | h
  · exact .inl (.inl (e _ _ h))
  · exact .inl (.inr ⟨o, e _ _ h⟩)
  · exact .inr h

/-! ### a dict's pairs: keys that differ -/
section
variable {κ : Type} [DecidableEq κ]
end
end L2
namespace L2
open PySem PySem.Spec PyProof.Rows
section
variable {X : Cx}
/-- text[lo:hi] -/
def rSlS : V → Option Int → Option Int → Hp → VK → Prop := fun x lo hi H Q => ∃ z, x = .str z ∧ z.length ≤ sizeLine ∧ Q (.str (Txt.slice z lo hi)) H
theorem part_val {v : Value} {o : Option Int} (p : IsPart v o) : ∃ q : Option (Int × Tok), v = partValue q ∧ o = q.map (·.1) := by
  cases p with
  | none => exact ⟨none, rfl, rfl⟩
  | int i t => exact ⟨some (i, t), rfl, rfl⟩
theorem sl_str : SlR X rSlS := by
  intro pins s σ H x v vl vu lo hi sl Q I rx hs pl pu h
  obtain ⟨z, rfl, hz, q⟩ := h
  obtain ⟨t, rfl⟩ := rx
  obtain ⟨l, rfl, rfl⟩ := part_val pl
  obtain ⟨u, rfl, rfl⟩ := part_val pu
  refine ⟨"str", _, PySem.F.slot_str_getitem.lookup, typeIs_str _ _ _, ?_⟩
  have hq : ∀ t' k, EP X pins σ Q (.str (Txt.slice z (l.map (·.1)) (u.map (·.1))) t') { s with toks := k } := fun t' k => ⟨.str _, H, I.tok k, ⟨t', rfl⟩, q⟩
  have hl := Nat.le_trans (Txt.slice_le z (l.map (·.1)) (u.map (·.1))) hz
  cases l <;> cases u <;> exact wpAny_getItem_str_slice (st := none) hs rfl (post_val_or_str ⟨hl, fun t' k => hq t' k⟩)
end

/-! ### two lists that hold the same, lists and dicts within -/
/-- the two are equal here -/
def EqW (P : Program) (w : World) (A : Around) (s : Shared) (y x : Value) : Prop := ∀ (E : Value → Shared → Prop) (Q : Bool → Shared → Prop), Q true s → wpAny (model P w) A (eqBool y x) Q E s
section
variable {P : Program} {w : World} {A : Around} {s : Shared}
theorem EqW.of {y x : Value} (h : SeqAt.EqAt A s y x true) : EqW P w A s y x := fun E Q q => h P w E Q q
theorem EqW.refs {l b : Addr} (hne : l ≠ b) (h : ∀ (E : Value → Shared → Prop) (Q : Value → Shared → Prop), Q (.bool true) s → wpAny (model P w) A (richCompare .Eq (.ref l) (.ref b)) Q E s) : EqW P w A s (.ref l) (.ref b) := by
  intro E Q q
  unfold eqBool
  refine wpAny_holding ?_
  refine wpAny_ite_split (fun z => absurd (by have := eq_of_beq z; injection this) hne) (fun _ => ?_)
  exact wpAny_bind (h E _ (wpAny_truthy_bool q))
end
section
open AutoSeq1 (wpAny_loadPart')
open MeetsSeq MeetsSeq2 MeetsSeq3
theorem ne_loopW (P : Program) (w : World) (a b : Addr) (us vs : Array Value) (n1 n2 : Nat) (d1 d2 : Option Addr) (s1 s2 : Array (Option Value)) (hz : us.size = vs.size) (m : Nat) :
    ∀ i : Nat, us.size - i = m → MeetsIn P w (Builtin.«list.__eq__.loop» ⟨[.ref a, .ref b, rawInt i, rawInt 3], []⟩)
      (fun A R s => s.heap.get? a = some { cls := .type "list", dict := d1, data := .seq us n1, slots := s1 } ∧ s.heap.get? b = some { cls := .type "list", dict := d2, data := .seq vs n2, slots := s2 } ∧
        (∀ j (h1 : j < us.size) (h2 : j < vs.size), EqW P w A.in1 s us[j] vs[j]) ∧ R (.ok (.ret (.bool false))) s) := by
  induction m with
  | zero =>
    intro i hm A R st hh
    obtain ⟨k0, k1, k2, k3, k4⟩ := st
    obtain ⟨hA, hB, hE, hR⟩ := hh
    wp_walk using wpAny_loadPart' hA, wpAny_loadPart' hB
    have e1 : us[((i : Nat) : Int).toNat]? = none := by simp; omega
    have e2 : vs[((i : Nat) : Int).toNat]? = none := by simp; omega
    rw [e1, e2]
    wp_walk using wpAny_loadPart' hA, wpAny_loadPart' hB
    show R (.ok (.ret (.bool (us.size != vs.size)))) _
    rw [hz]
    simpa using hR
  | succ m ih =>
    intro i hm A R st hh
    obtain ⟨k0, k1, k2, k3, k4⟩ := st
    obtain ⟨hA, hB, hE, hR⟩ := hh
    wp_walk using wpAny_loadPart' hA, wpAny_loadPart' hB
    have l1 : i < us.size := by omega
    have l2 : i < vs.size := by omega
    have e1 : us[((i : Nat) : Int).toNat]? = some us[i] := by simp [l1]
    have e2 : vs[((i : Nat) : Int).toNat]? = some vs[i] := by simp [l2]
    have e3 : ((i : Int) + 1) = ((i + 1 : Nat) : Int) := by push_cast; rfl
    rw [e1, e2]
    refine wpAny_bind (hE i l1 l2 _ _ ?_)
    wp_walk
    rw [e3]
    exact ⟨plainId_quiet plain_eq_loop _, codeAny_builtin entry_eq_loop (by
      rw [Around.under_plainId plain_eq_loop _]
      exact ih (i + 1) (by omega) A R _ ⟨hA, hB, hE, hR⟩)⟩
theorem list_neW (P : Program) (w : World) (a b : Addr) (us vs : Array Value) (n1 n2 : Nat) (d1 d2 : Option Addr) (s1 s2 : Array (Option Value)) (hz : us.size = vs.size) :
    MeetsIn P w (Builtin.«list.__ne__» ⟨[.ref a, .ref b], []⟩)
      (fun A R s => s.heap.get? a = some { cls := .type "list", dict := d1, data := .seq us n1, slots := s1 } ∧ s.heap.get? b = some { cls := .type "list", dict := d2, data := .seq vs n2, slots := s2 } ∧
        (∀ j (h1 : j < us.size) (h2 : j < vs.size), EqW P w A.in1 s us[j] vs[j]) ∧ R (.ok (.ret (.bool false))) s) := by
  intro A R st hh
  obtain ⟨k0, k1, k2, k3, k4⟩ := st
  obtain ⟨hA, hB, hE, hR⟩ := hh
  have fs := AutoSeq1.sub_list_list
  have hn : ¬ (us.size != vs.size) = true := by simp [hz]
  wp_walk using wpAny_loadPart' hA, wpAny_loadPart' hB
  exact ⟨plainId_quiet plain_eq_loop _, codeAny_builtin entry_eq_loop (by
    rw [Around.under_plainId plain_eq_loop _]
    exact ne_loopW P w a b us vs n1 n2 d1 d2 s1 s2 hz _ 0 rfl A R _ ⟨hA, hB, hE, hR⟩)⟩
end
/-- equal, down to lists and dicts of flat things -/
inductive EqT (K : PySem.W.Frag) (H : Hp) : V → V → Prop
  | flat {x : V} : flatV x = true → EqT K H x x
  | lst {a b : Addr} {xs : List V} : SqL K H a xs → SqL K H b xs → (∀ x ∈ xs, flatV x = true) → EqT K H (.ref a) (.ref b)
  | dk {a b : Addr} {kvs : List (Key × V)} : H a = some (.dK kvs) → H b = some (.dK kvs) → (kvs.map (·.1)).Nodup → (∀ p ∈ kvs, flatV p.2 = true) → EqT K H (.ref a) (.ref b)
theorem eqV_self {x : V} (h : flatV x = true) : eqV x x = true := by
  cases x <;> first | (simp [eqV]; done) | (simp [flatV] at h; done) | (simp [eqV, flatV] at *)
theorem valV_mem {κ : Type} [DecidableEq κ] {k : κ} {v : V} : ∀ {kvs : List (κ × V)}, (kvs.map (·.1)).Nodup → (k, v) ∈ kvs → valV kvs k = some v
  | [], _, h => by cases h
  | p :: r, hn, h => by
    have hn : (p.1 :: r.map (·.1)).Nodup := hn
    obtain ⟨h1, h2⟩ := List.nodup_cons.mp hn
    rcases List.mem_cons.mp h with e | h
    · subst e; exact valV_pos rfl
    · rw [valV_neg fun e => h1 (e ▸ List.mem_map.mpr ⟨_, h, rfl⟩)]
      exact valV_mem h2 h
section
variable {X : Cx} {pins : List (Addr × Obj)} {σ : St} {H : Hp} {s : Shared} {A : Around}
theorem hits_all {A : Around} {s : Shared} {kb : List (Key × Value)} : ∀ (ka : List (Key × Value)), (∀ p ∈ ka, ∃ y, valueAt kb p.1 = some y ∧ SeqAt.EqAt A s p.2 y true) → PySem.W.KeqHits A s kb ka true
  | [], _ => .nil
  | (k, v) :: r, h => by
    obtain ⟨y, e1, e2⟩ := h (k, v) List.mem_cons_self
    exact .hit (e := true) (b := true) e1 e2 (hits_all r fun p hp => h p (List.mem_cons_of_mem _ hp))
theorem kv_mem {κ : Type} : ∀ {kvs : List (κ × V)} {vs : List (κ × Value)}, KV kvs vs → ∀ q ∈ vs, ∃ p ∈ kvs, p.1 = q.1 ∧ RelV p.2 q.2
  | _, _, .nil, q, h => by cases h
  | _, _, .cons r t, q, h => by
    rcases List.mem_cons.mp h with e | h
    · subst e; exact ⟨_, List.mem_cons_self, r⟩
    · obtain ⟨p, hp, z⟩ := kv_mem t q h
      exact ⟨p, List.mem_cons_of_mem _ hp, z⟩
theorem eqT_w {x y : V} {u v : Value} (I : Inv X pins σ H s) (e : EqT X.K H x y) (ru : RelV x u) (rv : RelV y v) (hu : A.units + 4 < cLine) : EqW X.prog X.w A s u v := by
  cases e with
  | flat f =>
    have z := eqAt_V (A := A) (s := s) ru rv f f
    rw [eqV_self f] at z
    exact .of z
  | @lst a b xs h1 h2 hf =>
    cases ru
    cases rv
    by_cases hab : a = b
    · subst hab
      exact .of (SeqAt.EqAt.same _)
    · obtain ⟨i1, r1, p1, z1⟩ := I.list h1
      obtain ⟨i2, r2, p2, z2⟩ := I.list h2
      have l1 := r1.length
      have l2 := r2.length
      have q := SeqAt.RcAt.lists (A := A) (e := fun _ => true) p1.isList p2.isList (by simp; omega) (by omega) (fun j j1 j2 => by
        have j1' : j < i1.length := by simpa using j1
        have j2' : j < i2.length := by simpa using j2
        have jx : j < xs.length := by omega
        obtain ⟨u1, e1, w1⟩ := r1.get (i := j) (x := xs[j]) (List.getElem?_eq_getElem jx)
        obtain ⟨u2, e2, w2⟩ := r2.get (i := j) (x := xs[j]) (List.getElem?_eq_getElem jx)
        rw [List.getElem?_eq_getElem j1'] at e1
        rw [List.getElem?_eq_getElem j2'] at e2
        have f := hf _ (List.getElem_mem jx)
        have z := eqAt_V (A := A.in1) (s := s) w1 w2 f f
        rw [eqV_self f] at z
        have g1 : i1.toArray[j] = u1 := by simpa using Option.some.inj e1
        have g2 : i2.toArray[j] = u2 := by simpa using Option.some.inj e2
        rw [g1, g2]
        exact z)
      have qt : ((List.range i1.toArray.size).all fun _ => true) = true := by simp
      rw [qt] at q
      exact .of (SeqAt.EqAt.of_refs hab q)
  | @dk a b kvs h1 h2 hn hf =>
    cases ru
    cases rv
    by_cases hab : a = b
    · subst hab
      exact .of (SeqAt.EqAt.same _)
    · obtain ⟨z1, y1, v1, k1, d1⟩ := dk_of I.hok h1
      obtain ⟨z2, y2, v2, k2, d2⟩ := dk_of I.hok h2
      refine EqW.refs hab fun E Q q => ?_
      refine PySem.W.keq_eq (r := true) y1 y2 d1 d2 (by omega) (fun _ => hits_all _ fun p hp => ?_) ?_
      · obtain ⟨p', hp', e1, e2⟩ := kv_mem k1 p hp
        have hv : valV kvs p.1 = some p'.2 := valV_mem hn (by rw [← e1]; exact hp')
        have hr := k2.val p.1
        rw [hv] at hr
        obtain ⟨y, ey, ry⟩ := RelO.some_of hr
        have f := hf p' hp'
        have z := eqAt_V (A := A.in1) (s := s) e2 ry f f
        rw [eqV_self f] at z
        exact ⟨y, ey, z⟩
      · have e : (v1.length == v2.length) = true := by
          rw [← k1.length, ← k2.length]
          exact beq_self_eq_true _
        rw [e]
        exact q
/-- xs != ys, which hold the same -/
theorem op_ne_deep (hu : X.A.units + 8 < cLine) : OpR X (compareOp .NotEq) (fun x y H Q => ∃ a b xs ys, x = .ref a ∧ y = .ref b ∧ SqL X.K H a xs ∧ SqL X.K H b ys ∧ Paired (EqT X.K H) xs ys ∧ Q (.bl false) H) := by
  intro pins s σ H x y v u Q I r1 r2 h
  obtain ⟨a, b, xs, ys, rfl, rfl, h1, h2, hp, q⟩ := h
  cases r1
  cases r2
  obtain ⟨i1, w1, p1, z1⟩ := I.list h1
  obtain ⟨i2, w2, p2, z2⟩ := I.list h2
  have l1 := w1.length
  have l2 := w2.length
  have l3 := Paired.length hp
  obtain ⟨⟨c1, g1, t1, o1⟩, e1, f1, n1, m1⟩ := id p1.isList
  obtain ⟨⟨c2, g2, t2, o2⟩, e2, f2, n2, m2⟩ := id p2.isList
  simp only at f1 m1 f2 m2
  subst f1 m1 f2 m2
  have pg : ∀ {xs ys : List V}, Paired (EqT X.K H) xs ys → ∀ (j : Nat) (x y : V), xs[j]? = some x → ys[j]? = some y → EqT X.K H x y := by
    intro xs ys h
    induction h with
    | nil => intro j x y e; simp at e
    | cons r _ ih =>
      intro j x y e e'
      cases j with
      | zero => simp at e e'; subst e; subst e'; exact r
      | succ j => exact ih j x y (by simpa using e) (by simpa using e')
  refine wpAny_richCompare_same_room (op := .NotEq) ⟨_, e1, rfl⟩ ⟨_, e2, rfl⟩ PySem.F.slot_list_ne (call_meetsIn PySem.F.slot_list_ne ⟨_, e1, rfl⟩ PySem.F.entry_list_ne (PySem.F.args_list_ne_2 _ _)
    (list_neW X.prog X.w a b i1.toArray i2.toArray _ _ _ _ _ _ (by simp; omega)) ⟨e1, e2, fun j j1 j2 => ?_, ?_⟩) (by omega)
  · have j1' : j < i1.length := by simpa using j1
    have j2' : j < i2.length := by simpa using j2
    have jx : j < xs.length := by omega
    have jy : j < ys.length := by omega
    obtain ⟨u1, q1, t1⟩ := w1.get (i := j) (x := xs[j]) (List.getElem?_eq_getElem jx)
    obtain ⟨u2, q2, t2⟩ := w2.get (i := j) (x := ys[j]) (List.getElem?_eq_getElem jy)
    rw [List.getElem?_eq_getElem j1'] at q1
    rw [List.getElem?_eq_getElem j2'] at q2
    have g1 : i1.toArray[j] = u1 := by simpa using Option.some.inj q1
    have g2 : i2.toArray[j] = u2 := by simpa using Option.some.inj q2
    rw [g1, g2]
    exact eqT_w I (pg hp j _ _ (List.getElem?_eq_getElem jx) (List.getElem?_eq_getElem jy)) t1 t2 (by show X.A.units + 1 + 4 < cLine; omega)
  · show Value.bool false ≠ Value.notImplemented ∧ _
    exact ⟨(fun z => nomatch z), ⟨.bl false, H, I, rfl, q⟩⟩
/-- xs != [] -/
theorem op_ne_nil (hu : X.A.units + 8 < cLine) : OpR X (compareOp .NotEq) (fun x y H Q => ∃ a b xs, x = .ref a ∧ y = .ref b ∧ SqL X.K H a xs ∧ SqL X.K H b [] ∧ Q (.bl (!xs.isEmpty)) H) := by
  intro pins s σ H x y v u Q I r1 r2 h
  obtain ⟨a, b, xs, rfl, rfl, h1, h2, q⟩ := h
  cases r1
  cases r2
  obtain ⟨i1, w1, p1, z1⟩ := I.list h1
  obtain ⟨i2, w2, p2, z2⟩ := I.list h2
  cases w2
  cases xs with
  | nil =>
    cases w1
    exact SeqAt.RcNeAt.lists (A := X.A) (e := fun _ => true) p1.isList p2.isList rfl (by omega) (fun j j1 => absurd j1 (Nat.not_lt_zero _)) _ _ _ _ ⟨.bl false, H, I, rfl, q⟩
  | cons x r =>
    have l1 := w1.length
    refine SeqAt.RcNeAt.lists_lengths (A := X.A) p1.isList p2.isList ?_ (by omega) _ _ _ _ ⟨.bl true, H, I, rfl, q⟩
    simp only [List.size_toArray, ← l1]
    rfl
end

/-! ### [elt for target in iter], no name of the def around within -/
section
variable {X : Cx}
end
end L2
namespace L2
open PySem PySem.Spec PyProof.Rows
/-! ### [elt for target in iter if test], names of the def around within -/
section
variable {X : Cx}
def cxLG (X : Cx) (N' : List Str) (scope : Scope) (cl : List (Str × Addr)) (s : Shared) (H : Hp) (ex : List Addr) : Cx where
  prog := X.prog
  w := X.w
  K := X.K
  mg := X.mg
  base := X.base
  A := X.A
  N := N'
  s₀ := s
  H₀ := H
  env := compEnvC scope cl s.heap.objs.size X.env
  outer := X.stack
  stack := X.stack
  ex := ex
  calm := true
  fn := fun _ => false
  pn := []
  xe := fun _ _ => False
/-- the names of the def around that stand within: name, its place there -/
inductive Caps (X : Cx) (scope : Scope) (cl : List (Str × Addr)) : List (Str × Nat) → Prop
  | nil : Caps X scope cl []
  | cons {x : Str} {j : Nat} {r : List (Str × Nat)} : X.N[j]? = some x → (X.env.kindOf x = some .cell ∨ X.env.kindOf x = some .free) → (cl.lookup x = X.env.cells.lookup x) → Caps X scope cl r → Caps X scope cl ((x, j) :: r)
theorem Caps.get {scope : Scope} {cl : List (Str × Addr)} : ∀ {caps : List (Str × Nat)}, Caps X scope cl caps → ∀ q ∈ caps, X.N[q.2]? = some q.1 ∧ (X.env.kindOf q.1 = some .cell ∨ X.env.kindOf q.1 = some .free) ∧ cl.lookup q.1 = X.env.cells.lookup q.1
  | _, .nil, q, h => by cases h
  | _, .cons a b c r, q, h => by
    rcases List.mem_cons.mp h with rfl | h
    · exact ⟨a, b, c⟩
    · exact r.get q h
def capV (σ : St) (caps : List (Str × Nat)) : St := caps.map fun p => (σ[p.2]?).join
/-- the tests -/
def PIf (X : Cx) (ifs : List Expr) (t : TT) : Prop :=
  ∀ (pins : List (Addr × Obj)) (s : Shared) (σ : St) (H : Hp) (Q : Bool → Hp → Prop), Inv X pins σ H s → t σ H Q →
    wpAny (model X.prog X.w) X.A (forIn ifs true fun c r => if r = true then do let ok ← isTrue c X.env (eval c X.env); pure (ForInStep.yield ok) else pure (ForInStep.yield r)) (TP X pins σ Q) X.xe s
def tYes : TT := fun _ H Q => Q true H
theorem pif_nil : PIf X [] tYes := fun _ _ _ H _ I h => wpAny_tests_nil ⟨H, I, h⟩
theorem pif_one {c : Expr} {t : TT} (h : PT X c t) : PIf X [c] t := fun pins s σ H Q I hw => wpAny_tests_one (h pins s σ H Q I hw)
def tLG (n : Nat) (caps : List (Str × Nat)) (wi : TI) (g : TG) (tt : TT) (te : TE) : TE := fun σ H Q => wi σ H fun J H1 => ∀ D, H1 D = none →
  ∃ W : Nat → Nat → St → Hp → Prop, (∃ m, W 0 m (List.replicate n none ++ capV σ caps) (upd H1 D (.lst []))) ∧ ∀ i m σ' H', W i m σ' H' →
    (J.stop i H' ∧ Q (.ref D) H') ∨ (J.go i H' ∧ ∃ N : St → Hp → Prop, (∀ σ2 H2, N σ2 H2 → ∃ m', m' < m ∧ W (i + 1) m' σ2 H2) ∧
      ∀ x H2, J.yld i H' x H2 → g x σ' H2 fun σ3 H3 => tt σ3 H3 fun b H4 => if b = true then te σ3 H4 fun y H5 => ∃ xs, H5 D = some (.lst xs) ∧ xs.length < sizeLine ∧ N σ3 (upd H5 D (.lst (xs ++ [y]))) else N σ3 H4)
structure LcOk (X : Cx) (scope : Scope) (cl : List (Str × Addr)) (caps : List (Str × Nat)) : Prop where
  kind : scope.kind = .function
  cell : ∀ x ∈ scope.names, x.2 ≠ .cell
  names : ∀ x ∈ scope.names, x.2 = .local → scope.names.lookup x.1 = some .local
  clos : closureFor scope X.env = pure cl
  cap : Caps X scope cl caps
  sub : (cl.all fun p => caps.any fun q => q.1 == p.1) = true
  has : ((relabel scope X.env).names.all fun p => p.2 == .local || p.2 == .globalImplicit || (cl.lookup p.1).isSome) = true
  own : (caps.all fun q => ((relabel scope X.env).names.lookup q.1 == some .cell) || ((relabel scope X.env).names.lookup q.1 == some .free)) = true
theorem LcOk.at {scope : Scope} {cl : List (Str × Addr)} {caps : List (Str × Nat)} (h : LcOk X scope cl caps) {x : Str} {c : Addr} (e : cl.lookup x = some c) : X.env.cells.lookup x = some c := by
  have h1 := List.all_eq_true.mp h.sub _ (PySem.mem_of_lookup e)
  obtain ⟨q, hq, e1⟩ := List.any_eq_true.mp h1
  have e2 : q.1 = x := by simpa using e1
  have := (h.cap.get q hq).2.2
  rw [e2] at this
  rw [← this]; exact e
theorem lcg_start {pins : List (Addr × Obj)} {σ : St} {H : Hp} {s : Shared} {h4 : Heap} {m : Str → Option Value} {tk : Nat} {own : List Str} {caps : List (Str × Nat)} {cl : List (Str × Addr)} {scope : Scope} {fp : List Addr} (hc : X.calm = true) (I : Inv X pins σ H s)
    (f : ∀ b ∈ fp, FpOk X pins H b) (fo : ∀ b ∈ fp, ∃ o, s.heap.get? b = some o) (L : LcOk X scope cl caps)
    (hn : h4.Ns s.heap.objs.size m) (kp : ∀ b o, s.heap.get? b = some o → h4.get? b = some o) : Inv (cxLG X (own ++ caps.map (·.1)) scope cl s H fp) [] (List.replicate own.length none ++ capV σ caps) H { s with heap := h4, toks := tk } := by
  refine ⟨⟨I.ok.mod, L.kind, I.ok.glob, I.ok.blt, Nat.le_refl _, fun x y c e1 e2 => I.ok.inj x y c (L.at e1) (L.at e2), fun x z => ?_, (fun x c e => by cases e), fun _ => I.ok.hd hc, I.ok.frames, .inl rfl, fun b hb => ⟨?_, fun x c e => ?_⟩, I.bs,
    Nat.le_trans I.ok.bsz I.sz, fun b o e hb => ?_, fun b hb hm => ?_, I.stack, I.stkFree⟩, rfl, I.bare, Un.kept kp, ⟨m, hn, fun i x v e1 e2 e3 => ?_⟩, fun x c e => ?_, I.hok.fresh (Nat.le_refl _), fun x c e => I.freeC x c (L.at e), (fun p hp => nomatch hp), I.hok.kept kp, ?_⟩
  · have z' : (relabel scope X.env).names.lookup x = some .cell ∨ (relabel scope X.env).names.lookup x = some .free := z
    have key : ∀ k, (k = NameKind.cell ∨ k = NameKind.free) → (relabel scope X.env).names.lookup x = some k → ∃ c, cl.lookup x = some c := by
      intro k hk hz
      have h1 := List.all_eq_true.mp L.has _ (PySem.mem_of_lookup hz)
      rcases hk with rfl | rfl
      · have : (cl.lookup x).isSome = true := by simpa using h1
        exact Option.isSome_iff_exists.mp this
      · have : (cl.lookup x).isSome = true := by simpa using h1
        exact Option.isSome_iff_exists.mp this
    rcases z' with z' | z'
    · exact key _ (.inl rfl) z'
    · exact key _ (.inr rfl) z'
  · obtain ⟨o, e⟩ := fo b hb
    exact Nat.ne_of_lt (Heap.lt_size e)
  · exact (f b hb).2.2.2.2.1 x c (L.at e)
  · obtain ⟨_, _, _, z, _⟩ := f b hb
    rcases z with z | z
    · exact I.ok.noex b o e z
    · exact absurd (Nat.lt_of_lt_of_le (Heap.lt_size e) (Nat.le_trans I.ok.bsz z)) (Nat.lt_irrefl _)
  · obtain ⟨_, z1, z2, _⟩ := f b hb
    rcases List.mem_cons.mp (I.stkSub b hm) with z | z
    · exact z1 z
    · exact z2 z
  · have hlt : own.length ≤ i := by
      rcases Nat.lt_or_ge i own.length with z | z
      · rw [List.getElem?_append_left (by simpa using z), List.getElem?_replicate] at e2
        rw [if_pos z] at e2; cases e2
      · exact z
    rw [List.getElem?_append_right (by simpa using hlt), List.length_replicate] at e2
    have e1' : (caps.map (·.1))[i - own.length]? = some x := by
      have : (own ++ caps.map (·.1))[i]? = some x := e1
      rw [List.getElem?_append_right hlt] at this; exact this
    unfold capV at e2
    rw [List.getElem?_map] at e1' e2
    cases hq : caps[i - own.length]? with
    | none => rw [hq] at e1'; cases e1'
    | some q =>
      rw [hq] at e1' e2
      have ex : q.1 = x := Option.some.inj e1'
      have hqm := List.mem_of_getElem? hq
      obtain ⟨a1, a2, a3⟩ := L.cap.get q hqm
      have hv : (σ[q.2]?).join = some v := Option.some.inj e2
      have hv2 : σ[q.2]? = some (some v) := by
        cases z : σ[q.2]? with
        | none => rw [z] at hv; cases hv
        | some w => rw [z] at hv; exact congrArg some hv
      obtain ⟨m0, hn0, hl0⟩ := I.loc
      rw [ex] at a1 a2 a3
      obtain ⟨u, ru, lk⟩ := hl0 q.2 x v a1 hv2 (by rcases a2 with a2 | a2; exact .inr (.inl a2); exact .inr (.inr a2))
      refine ⟨u, ru, .inr ⟨?_, ?_⟩⟩
      · have h1 := List.all_eq_true.mp L.own q hqm
        rw [ex] at h1
        show (relabel scope X.env).names.lookup x = some .cell ∨ (relabel scope X.env).names.lookup x = some .free
        simpa using h1
      · rcases lk with ⟨k, _⟩ | ⟨_, c, ec, ic⟩
        · rcases a2 with a2 | a2 <;> rw [a2] at k <;> cases k
        · refine ⟨c, a3.trans ec, ?_⟩
          obtain ⟨o, ho, hd⟩ := ic
          exact ⟨o, kp _ _ ho, hd⟩
  · obtain ⟨v, o, ho, hd⟩ := I.cell x c (L.at e)
    exact ⟨v, o, kp _ _ ho, hd⟩
  · show _ = (own ++ caps.map (·.1)).length
    simp [capV]
theorem lcg_end {pins : List (Addr × Obj)} {σ σ' : St} {H H' : Hp} {s s' : Shared} {h' : Heap} {N' : List Str} {scope : Scope} {cl : List (Str × Addr)} {fp : List Addr} (I : Inv X pins σ H s) (f : ∀ b ∈ fp, FpOk X pins H b)
    (J : Inv (cxLG X N' scope cl s H fp) [] σ' H' s') (sb : Heap.SameBut s.heap.objs.size s'.heap h') : Inv X pins σ H' { s' with heap := h' } := by
  have U : Un (frs X.stack) fp H H' s.heap s'.heap := J.base
  have ne : ∀ b o, s.heap.get? b = some o → b ≠ s.heap.objs.size := fun b o e => Nat.ne_of_lt (Heap.lt_size e)
  have nH : ∀ b o, H' b = some o → b ≠ s.heap.objs.size := fun b o e z => by
    have q : H' s.heap.objs.size = none := J.free
    rw [z, q] at e
    cases e
  have U' : Un (frs X.stack) fp H H' s.heap h' := ⟨fun b o e n hb hx => (sb.2 b (ne b o e)).trans (U.keep b o e n hb hx), fun b o e n hb hx => by
      obtain ⟨sl, z⟩ := U.slot b o e n hb hx
      exact ⟨sl, (sb.2 b (ne b o e)).trans z⟩, U.free, fun b o e hx => by
      obtain ⟨o', z⟩ := U.there b o e hx
      exact ⟨o', (sb.2 b (ne b o e)).trans z⟩, U.tups, U.frzs, U.tbls⟩
  have hok : HOk X.prog X.w H' h' := fun a o e => (J.hok a o e).stay (fun b u hb q => (sb.2 b (by
      rcases hb with hb | hb
      · rw [hb]; exact nH a o e
      · exact nH b _ hb)).trans q) (fun _ q => q) fun _ _ q => q
  refine I.call' (s' := { s' with heap := h' }) (ch := fp) J.os U' hok J.bare fun b hb => ?_
  obtain ⟨_, z1, z2, z3, z4, z5⟩ := f b hb
  exact ⟨z3, z1, z4, z5⟩
/-- the block, up to what is done with its list -/
theorem lcg_core {elt target iter : Expr} {ifs : List Expr} {scope : Scope} {cl : List (Str × Addr)} {pos : Pos} {own : List Str} {caps : List (Str × Nat)} {wi : TI} {g : TG} {tt : TT} {te : TE} {use : Option (Value → Sem Unit)} (hc : X.calm = true) (hi : PI X target iter wi) (L : LcOk X scope cl caps)
    (hg : ∀ s H ex, PG (cxLG X (own ++ caps.map (·.1)) scope cl s H ex) target g) (ht : ∀ s H ex, PIf (cxLG X (own ++ caps.map (·.1)) scope cl s H ex) ifs tt) (he : ∀ s H ex, PE (cxLG X (own ++ caps.map (·.1)) scope cl s H ex) elt te)
    {pins : List (Addr × Obj)} {s : Shared} {σ : St} {H : Hp} {Q : VK} {Q' : Value → Shared → Prop} (I : Inv X pins σ H s) (h : tLG own.length caps wi g tt te σ H Q)
    (hs : ∀ x, foldedSetIterable iter X.env x = pure x)
    (fin : ∀ (D : Addr) (s3 s' : Shared) (H3 H' : Hp) (σ' : St) (fp : List Addr), Inv X pins σ H3 s3 → (∀ b ∈ fp, FpOk X pins H3 b) → Inv (cxLG X (own ++ caps.map (·.1)) scope cl s3 H3 fp) [] σ' H' s' → Q (.ref D) H' →
      compPost (model X.prog X.w) X.A X.xe use Q' (.ref D) s3.heap.objs.size (.ok .next) s') :
    wpAny (model X.prog X.w) X.A (comprehension (.ListComp elt [⟨target, iter, ifs, 0⟩] scope pos) scope X.env iter.pos (newList []) false (eval iter X.env) use) Q' X.xe s := by
  refine wpAny_comprehension_free (g := ⟨target, iter, ifs, 0⟩) (gs := []) rfl hs L.clos L.kind L.names (thn (hi pins s σ H _ I h) fun v s1 h1 => thn h1 fun itv s2 h2 => ?_)
  obtain ⟨it, fp, tn, J, H2, rfl, I2, T, st2, f2, R⟩ := h2
  have hD : H2 s2.heap.objs.size = none := I2.hok.fresh (Nat.le_refl _)
  obtain ⟨W, ⟨m0, w0⟩, turn⟩ := R _ hD
  refine wpAny_newList ?_ (Nat.zero_le _)
  have I3 : Inv X pins σ (upd H2 s2.heap.objs.size (.lst [])) { s2 with heap := s2.heap.push { cls := .type "list", data := .seq ([] : List Value).toArray } } := I2.lnew (t' := s2.toks) .nil (Nat.zero_le _)
  have o2 := T.obj 0 _ st2
  have lt2 : ∀ b ∈ fp, b < s2.heap.objs.size := fun b hb => by
    obtain ⟨o, e, _⟩ := o2 b hb
    exact Heap.lt_size e
  have f3 : ∀ b ∈ fp, FpOk X pins (upd H2 s2.heap.objs.size (.lst [])) b := fun b hb => ⟨by rw [upd_ne (Nat.ne_of_lt (lt2 b hb))]; exact (f2 b hb).1, (f2 b hb).2⟩
  have st3 : tn 0 (s2.heap.push { cls := .type "list", data := .seq ([] : List Value).toArray }) := T.keep 0 _ _ st2 fun b hb o e => Heap.get?_push_of_some _ e
  generalize hs3 : ({ s2 with heap := s2.heap.push { cls := .type "list", data := .seq ([] : List Value).toArray } } : Shared) = s3 at I3 ⊢
  have st3' : tn 0 s3.heap := by rw [← hs3]; exact st3
  generalize hH3 : upd H2 s2.heap.objs.size (.lst []) = H3 at I3 f3 w0
  generalize hDD : s2.heap.objs.size = D at *
  have o3 : ∀ b ∈ fp, ∃ o, s3.heap.get? b = some o := fun b hb => by
    obtain ⟨o, e, _⟩ := T.obj 0 _ st3' b hb
    exact ⟨o, e⟩
  refine wpAny_newFunctionEnv L.cell (fun x hx => nomatch hx) (fun h4 hn4 sb4 => ?_) L.kind
  have kp4 : ∀ b o, s3.heap.get? b = some o → h4.get? b = some o := fun b o e => (sb4.2 b (Nat.ne_of_lt (Heap.lt_size e))).trans (Heap.get?_push_of_some _ e)
  have I4 : Inv (cxLG X (own ++ caps.map (·.1)) scope cl s3 H3 fp) [] (List.replicate own.length none ++ capV σ caps) H3 { s3 with heap := h4, toks := s3.toks + ([] : List (Str × Value)).length } := lcg_start hc I3 f3 o3 L hn4 kp4
  have stat : ∀ {H' : Hp}, (∀ b ∈ fp, H' b = none) → ∀ b ∈ fp, FpOk (cxLG X (own ++ caps.map (·.1)) scope cl s3 H3 fp) [] H' b := fun hn b hb => by
    obtain ⟨o, e⟩ := o3 b hb
    obtain ⟨_, z1, z2, _, z4, _⟩ := f3 b hb
    refine ⟨hn b hb, Nat.ne_of_lt (Heap.lt_size e), fun hm => ?_, .inl hb, fun x c e => z4 x c (L.at e), (fun p hp => nomatch hp)⟩
    rcases List.mem_cons.mp (I3.stkSub b hm) with z | z
    · exact z1 z
    · exact z2 z
  have LL : ∀ Rr : Result → Shared → Prop, (∀ s' H' σ', Inv (cxLG X (own ++ caps.map (·.1)) scope cl s3 H3 fp) [] σ' H' s' → Q (.ref D) H' → Rr (.ok .next) s') →
      codeAny (model X.prog X.w) X.A (.compLoop (.ListComp elt [⟨target, iter, ifs, 0⟩] scope pos) 0 (.ref it) (.ref D) (cxLG X (own ++ caps.map (·.1)) scope cl s3 H3 fp).env) Rr { s3 with heap := h4, toks := s3.toks + ([] : List (Str × Value)).length } := by
    intro Rr hR
    refine codeAny_loop rfl (fun n s' => ∃ i σ' H', Inv (cxLG X (own ++ caps.map (·.1)) scope cl s3 H3 fp) [] σ' H' s' ∧ tn i s'.heap ∧ (∀ b ∈ fp, H' b = none) ∧ W i n σ' H') ?_ m0
      ⟨0, _, H3, I4, T.keep 0 _ _ st3' fun b _ o e => kp4 b o e, fun b hb => (f3 b hb).1, w0⟩
    rintro n s5 ⟨i, σ5, H5, I5, st5, fr5, w5⟩
    show wpAny _ X.A ((compTurn (.ListComp elt [⟨target, iter, ifs, 0⟩] scope pos) 0 (.ref it) (.ref D) (cxLG X (own ++ caps.map (·.1)) scope cl s3 H3 fp).env).onRaise (fun x => do noteFrame x (cxLG X (own ++ caps.map (·.1)) scope cl s3 H3 fp).env; theTreesLotGoes x)) _ _ s5
    refine wpAny_noted ?_
    rw [compTurn_list]
    refine wpAny_bind (wpAny_standAt ?_)
    rcases turn i n σ5 H5 w5 with ⟨stop, qn⟩ | ⟨go, N, hN, stp⟩
    · refine wpAny_bind (thn (T.done (cxLG X (own ++ caps.map (·.1)) scope cl s3 H3 fp) rfl rfl rfl rfl i [] s5 σ5 H5 _ I5 (stat fr5) st5 stop) fun r s6 ⟨hr, I6⟩ => ?_)
      subst hr
      exact wpAny_pure (hR s6 H5 σ5 I6 qn)
    · refine wpAny_bind (thn (T.item (cxLG X (own ++ caps.map (·.1)) scope cl s3 H3 fp) rfl rfl rfl rfl i [] s5 σ5 H5 _ I5 (stat fr5) st5 go) fun r s6 ⟨u, hr, h6⟩ => ?_)
      subst hr
      refine wpAny_bind (thn h6 fun _ s7 ⟨x, H7, I7, r7, y7, st7, fr7⟩ => ?_)
      have I7' := I7.pinned (stat fr7) (T.obj _ _ st7)
      refine wpAny_bind (wpAny_mono (hg s3 H3 fp _ s7 σ5 H7 x u _ I7' r7 (stp x H7 y7)) (fun _ s8 ⟨σ8, H8, I8, q8⟩ => ?_) fun _ _ z => False.elim z)
      refine wpAny_bind (wpAny_mono (ht s3 H3 fp _ s8 σ8 H8 _ I8 q8) (fun ok s8' ⟨H8', I8', q8'⟩ => ?_) fun _ _ z => False.elim z)
      have back : ∀ (s10 : Shared) (H10 : Hp), Inv (cxLG X (own ++ caps.map (·.1)) scope cl s3 H3 fp) ([] ++ pinsAt fp s7.heap) σ8 H10 s10 → N σ8 H10 →
          ∃ m', m' < n ∧ ∃ i σ' H', Inv (cxLG X (own ++ caps.map (·.1)) scope cl s3 H3 fp) [] σ' H' s10 ∧ tn i s10.heap ∧ (∀ b ∈ fp, H' b = none) ∧ W i m' σ' H' := by
        intro s10 H10 I10 n10
        obtain ⟨m', hm, w10⟩ := hN σ8 H10 n10
        refine ⟨m', hm, i + 1, σ8, H10, I10.unpinned, T.keep _ _ _ st7 fun b hb o e => (I10.pin (b, o) (List.mem_append_right _ (List.mem_append_right _ (mem_pinsAt hb e)))).1, fun b hb => ?_, w10⟩
        obtain ⟨o, e, d⟩ := T.obj _ _ st7 b hb
        exact (I10.pin (b, o) (List.mem_append_right _ (List.mem_append_right _ (mem_pinsAt hb e)))).2.1
      cases ok with
      | false =>
        have q9 : N σ8 H8' := q8'
        exact wpAny_pure ⟨rfl, back _ _ I8' q9⟩
      | true =>
        have q9 := q8'
        rw [if_pos rfl] at q9
        refine wpAny_bind (wpAny_bind (wpAny_mono (he s3 H3 fp _ s8' σ8 H8' _ I8' q9) (fun y s9 ⟨yv, H9, I9, r9, q9⟩ => ?_) fun _ _ z => False.elim z))
        obtain ⟨xs, hx, hz, q9⟩ := q9
        refine wpAny_bind (wpAny_mono (mt_append (X := cxLG X (own ++ caps.map (·.1)) scope cl s3 H3 fp) _ s9 σ8 H9 (.ref D) [yv] (.ref D) [y] (fun v H' => N σ8 H') I9 rfl (.cons r9 .nil) ⟨D, xs, yv, rfl, rfl, hx, hz, q9⟩) (fun _ s10 ⟨_, H10, I10, _, n10⟩ => ?_) fun _ _ z => False.elim z)
        exact wpAny_pure (wpAny_pure ⟨rfl, back _ _ I10 n10⟩)
  have fin' : ∀ s' H' σ', Inv (cxLG X (own ++ caps.map (·.1)) scope cl s3 H3 fp) [] σ' H' s' → Q (.ref D) H' → compPost (model X.prog X.w) X.A X.xe use Q' (.ref D) s3.heap.objs.size (.ok .next) s' := fun s' H' σ' J q => fin D s3 s' H3 H' σ' fp I3 f3 J q
  refine codeAny_compStart_list (LL _ fin') ?_
  exact T.self _ 0 _ _ _ (T.keep 0 _ _ st3' fun b _ o e => kp4 b o e) (LL _ fin')
/-- as a value -/
theorem pe_lcG {elt target iter : Expr} {ifs : List Expr} {scope : Scope} {cl : List (Str × Addr)} {pos : Pos} (own : List Str) {caps : List (Str × Nat)} {wi : TI} {g : TG} {tt : TT} {te : TE} (hc : X.calm = true) (hi : PI X target iter wi) (L : LcOk X scope cl caps)
    (hg : ∀ s H ex, PG (cxLG X (own ++ caps.map (·.1)) scope cl s H ex) target g) (ht : ∀ s H ex, PIf (cxLG X (own ++ caps.map (·.1)) scope cl s H ex) ifs tt) (he : ∀ s H ex, PE (cxLG X (own ++ caps.map (·.1)) scope cl s H ex) elt te)
    (hs : ∀ x, foldedSetIterable iter X.env x = pure x := by intro _; rfl) : PE X (.ListComp elt [⟨target, iter, ifs, 0⟩] scope pos) (tLG own.length caps wi g tt te) := by
  intro pins s σ H Q I h
  rw [eval_ListComp]
  refine lcg_core (use := none) hc hi L hg ht he I h hs fun D s3 s' H3 H' σ' fp I3 f3 J q => ?_
  obtain ⟨m, hn, _⟩ := J.loc
  exact ⟨m, hn, fun h' sb => ⟨.ref D, H', lcg_end I3 f3 J sb, rfl, q⟩⟩
/-- name = [..] -/
theorem ps_setLC {elt target iter : Expr} {ifs : List Expr} {scope : Scope} {cl : List (Str × Addr)} {pos : Pos} {i : Nat} {y : Str} {py spos : Pos} (own : List Str) {caps : List (Str × Nat)} {wi : TI} {g : TG} {tt : TT} {te : TE} (hc : X.calm = true) (hN : X.N.Nodup) (hy : X.N[i]? = some y) (hl : X.env.scope.names.lookup y = some .local)
    (hi : PI X target iter wi) (L : LcOk X scope cl caps)
    (hg : ∀ s H ex, PG (cxLG X (own ++ caps.map (·.1)) scope cl s H ex) target g) (ht : ∀ s H ex, PIf (cxLG X (own ++ caps.map (·.1)) scope cl s H ex) ifs tt) (he : ∀ s H ex, PE (cxLG X (own ++ caps.map (·.1)) scope cl s H ex) elt te)
    (hsw : swapsWith (.ListComp elt [⟨target, iter, ifs, 0⟩] scope pos) (some (.Name y py)) spos.line X.env = pure true)
    (hs : ∀ x, foldedSetIterable iter X.env x = pure x := by intro _; rfl) : PS X (.Assign [.Name y py] (.ListComp elt [⟨target, iter, ifs, 0⟩] scope pos) spos) (tAsg (tLG own.length caps wi g tt te) (gName i)) := by
  intro pins s σ H D I h
  rw [exec_Assign_Name_used _ _ _ _ hsw]
  refine wpAny_bind (wpAny_standAt (wpAny_bind ?_))
  show wpAny _ _ (do let _ ← comprehension (.ListComp elt [⟨target, iter, ifs, 0⟩] scope pos) scope X.env _ (newList []) false (eval iter X.env) (some (assign (.Name y py) X.env))) _ _ s
  refine wpAny_bind (wpAny_mono (lcg_core (use := some (assign (.Name y py) X.env)) (Q := fun v H' => D.nx (σ.set i (some v)) H') (Q' := fun _ s' => SP X pins D .next s') hc hi L hg ht he I h hs fun D' s3 s' H3 H' σ' fp I3 f3 J q => ?_) (fun _ s' hq => wpAny_pure (wpAny_pure hq)) fun _ _ e => e)
  obtain ⟨m, hn, _⟩ := J.loc
  obtain ⟨oC, es, ep, hoC, hdC, hrest⟩ := id hn
  have hCC : (cxLG X (own ++ caps.map (·.1)) scope cl s3 H3 fp).env.locals = s3.heap.objs.size := rfl
  rw [hCC] at hoC hn
  have I5 : Inv X pins σ H' s' := lcg_end I3 f3 J (Heap.SameBut.refl _ _)
  have fok : FpOk X pins H' s3.heap.objs.size := I3.fpOk (Nat.le_refl _) J.free
  obtain ⟨k1, k2, k3, k4, k5, k6⟩ := fok
  have I6 : Inv X (pins ++ [(s3.heap.objs.size, oC)]) σ H' s' := I5.pins_of fun p hp => by
    rcases List.mem_append.mp hp with z | z
    · exact I5.pin p (List.mem_append_right _ z)
    · have e : p = (s3.heap.objs.size, oC) := by simpa using z
      subst e
      exact ⟨hoC, k1, k2, k3, fun v e => by rw [hdC] at e; cases e⟩
  show wpAny _ _ (assign (.Name y py) X.env (.ref D')) _ _ s'
  refine wpAny_assign_Name (store_ok I6 hN hy (Or.inl hl) (show RelV (.ref D') (.ref D') from rfl) (fun s'' I7 => ?_) (.inr hl))
  have pC := (I7.pin (s3.heap.objs.size, oC) (List.mem_append_right _ (List.mem_append_right _ (List.mem_singleton.mpr rfl)))).1
  refine ⟨m, ⟨oC, es, ep, pC, hdC, hrest⟩, fun h' sb => ?_⟩
  have I8 : Inv X pins (σ.set i (some (.ref D'))) H' s'' := I7.pins_of fun p hp => I7.pin p (List.mem_append_right _ (List.mem_append_left _ hp))
  have I9 := I8.turned (t' := s''.toks) (it := s3.heap.objs.size) (h' := h') (fun b o hb e => (sb.2 b hb).trans e) k1 k2 k4 k5 k6
  exact ⟨_, H', I9, q⟩
end
end L2
namespace L2
open PySem
/-! ### a set's table -/
def Rise (xs : Array Nat) : Prop := xs.toList.Pairwise (· < ·)
theorem Rise.lt {xs : Array Nat} (h : Rise xs) {i j : Nat} (hi : i < xs.size) (hj : j < xs.size) (hij : i < j) : xs[i] < xs[j] := by
  have := List.pairwise_iff_getElem.mp h i j (by simpa using hi) (by simpa using hj) hij
  simpa using this
theorem below_go {xs : Array Nat} (hr : Rise xs) (j : Nat) : ∀ (fuel lo hi : Nat), lo ≤ hi → hi ≤ xs.size → hi - lo ≤ fuel → (∀ i (h : i < xs.size), i < lo → xs[i] < j) → (∀ i (h : i < xs.size), hi ≤ i → j ≤ xs[i]) →
    SetTable.below.go xs j fuel lo hi ≤ xs.size ∧ (∀ i (h : i < xs.size), i < SetTable.below.go xs j fuel lo hi → xs[i] < j) ∧ (∀ i (h : i < xs.size), SetTable.below.go xs j fuel lo hi ≤ i → j ≤ xs[i])
  | 0, lo, hi, h1, h2, h3, a, b => by
    have e : lo = hi := by omega
    unfold SetTable.below.go
    exact ⟨by omega, a, e ▸ b⟩
  | fuel + 1, lo, hi, h1, h2, h3, a, b => by
    unfold SetTable.below.go
    by_cases hlt : lo < hi
    · rw [if_pos hlt]
      have hm : (lo + hi) / 2 < xs.size := by omega
      have e : xs.getD ((lo + hi) / 2) j = xs[(lo + hi) / 2] := by simp [hm]
      dsimp only
      rw [e]
      by_cases hc : xs[(lo + hi) / 2] < j
      · rw [if_pos hc]
        refine below_go hr j fuel _ hi (by omega) h2 (by omega) (fun i h q => ?_) b
        rcases Nat.lt_or_ge i ((lo + hi) / 2) with z | z
        · exact Nat.lt_trans (hr.lt h hm z) hc
        · have : i = (lo + hi) / 2 := by omega
          subst this; exact hc
      · rw [if_neg hc]
        refine below_go hr j fuel lo _ (by omega) (by omega) (by omega) a (fun i h q => ?_)
        rcases Nat.lt_or_ge ((lo + hi) / 2) i with z | z
        · exact Nat.le_trans (Nat.le_of_not_lt hc) (Nat.le_of_lt (hr.lt hm h z))
        · have : i = (lo + hi) / 2 := by omega
          subst this; exact Nat.le_of_not_lt hc
    · rw [if_neg hlt]
      have e : lo = hi := by omega
      exact ⟨by omega, a, e ▸ b⟩
theorem below_spec {xs : Array Nat} (hr : Rise xs) (j : Nat) : SetTable.below xs j ≤ xs.size ∧ (∀ i (h : i < xs.size), i < SetTable.below xs j → xs[i] < j) ∧ (∀ i (h : i < xs.size), SetTable.below xs j ≤ i → j ≤ xs[i]) := by
  unfold SetTable.below
  exact below_go hr j _ 0 xs.size (Nat.zero_le _) (Nat.le_refl _) (by omega) (fun i h q => absurd q (Nat.not_lt_zero _)) (fun i h q => absurd h (by omega))
theorem below_zero {xs : Array Nat} (hr : Rise xs) : SetTable.below xs 0 = 0 := by
  obtain ⟨h1, h2, h3⟩ := below_spec hr 0
  rcases Nat.eq_zero_or_pos (SetTable.below xs 0) with h | h
  · exact h
  · exact absurd (h2 0 (by omega) h) (Nat.not_lt_zero _)
theorem below_succ {xs : Array Nat} (hr : Rise xs) {i : Nat} (hi : i < xs.size) : SetTable.below xs (xs[i] + 1) = i + 1 := by
  obtain ⟨h1, h2, h3⟩ := below_spec hr (xs[i] + 1)
  rcases Nat.lt_trichotomy (SetTable.below xs (xs[i] + 1)) (i + 1) with h | h | h
  · have := h3 i hi (by omega); omega
  · exact h
  · have hi' : i + 1 < xs.size := by omega
    have h4 := h2 (i + 1) hi' h
    have h5 := hr.lt hi hi' (Nat.lt_succ_self i)
    omega
theorem not_mem_of_slot {xs : Array Nat} (hr : Rise xs) {j : Nat} (h : xs[SetTable.below xs j]? ≠ some j) : ∀ i (hi : i < xs.size), xs[i] ≠ j := by
  intro i hi e
  obtain ⟨h1, h2, h3⟩ := below_spec hr j
  have hb : SetTable.below xs j = i := by
    rcases Nat.lt_trichotomy (SetTable.below xs j) i with z | z | z
    · have hb : SetTable.below xs j < xs.size := by omega
      have := h3 _ hb (Nat.le_refl _)
      have := hr.lt hb hi z
      omega
    · exact z
    · have := h2 i hi z; omega
  apply h
  rw [hb, Array.getElem?_eq_getElem hi, e]
theorem rise_insert {xs : Array Nat} (hr : Rise xs) {j : Nat} (hj : ∀ i (hi : i < xs.size), xs[i] ≠ j) : Rise (SetTable.insertAt xs (SetTable.below xs j) j) := by
  obtain ⟨h1, h2, h3⟩ := below_spec hr j
  unfold Rise
  rw [SetTable.toList_insertAt]
  have hl : ∀ x ∈ xs.toList.take (SetTable.below xs j), x < j := by
    intro x hx
    obtain ⟨i, hi, e⟩ := List.mem_iff_getElem.mp hx
    rw [List.length_take] at hi
    rw [List.getElem_take] at e
    have hi2 : i < xs.size := by have : xs.toList.length = xs.size := by simp
                                 omega
    have := h2 i hi2 (by omega)
    rw [← e]; simpa using this
  have hg : ∀ x ∈ xs.toList.drop (SetTable.below xs j), j < x := by
    intro x hx
    obtain ⟨i, hi, e⟩ := List.mem_iff_getElem.mp hx
    rw [List.length_drop] at hi
    rw [List.getElem_drop] at e
    have hi2 : SetTable.below xs j + i < xs.size := by have : xs.toList.length = xs.size := by simp
                                                       omega
    have a := h3 _ hi2 (by omega)
    have b := hj _ hi2
    have : xs[SetTable.below xs j + i] = x := by rw [← e]; simp
    omega
  rw [List.pairwise_append]
  refine ⟨hr.sublist (List.take_sublist _ _), List.pairwise_cons.mpr ⟨hg, hr.sublist (List.drop_sublist _ _)⟩, fun a ha b hb => ?_⟩
  rcases List.mem_cons.mp hb with rfl | hb
  · exact hl a ha
  · exact Nat.lt_trans (hl a ha) (hg b hb)
/-- a table as a set of this text keeps it -/
structure TabOk (led : Bool) (t : SetTable) : Prop where
  led : t.led = led
  rise : Rise t.place
  nod : t.dummies = #[]
theorem rise_range (n : Nat) : Rise (Array.range n) := by
  unfold Rise
  rw [Array.toList_range]
  exact List.pairwise_lt_range
theorem TabOk.standIn {led : Bool} {t : SetTable} (h : TabOk led t) (n : Nat) : TabOk led (t.standIn n) := ⟨h.led, rise_range n, rfl⟩
theorem TabOk.orStandIn {led : Bool} {t : SetTable} (h : TabOk led t) (n : Nat) : TabOk led (t.orStandIn n) := by
  unfold SetTable.orStandIn
  split
  · exact h
  · exact h.standIn n
theorem TabOk.unplain {led : Bool} {t : SetTable} (h : TabOk led t) : TabOk led { t with plain := false } := ⟨h.led, h.rise, h.nod⟩
theorem has_none (j : Nat) : SetTable.has #[] j = false := by simp [SetTable.has]
theorem slot_nodummy {t : SetTable} (h : t.dummies = #[]) (j : Nat) : t.slot j ≠ .dummy := by
  unfold SetTable.slot
  rw [h, has_none]
  dsimp only
  split
  · intro e; cases e
  · intro e; simp at e
theorem slot_empty {t : SetTable} {j : Nat} (h : t.slot j = .empty) : t.place[SetTable.below t.place j]? ≠ some j := by
  intro e
  unfold SetTable.slot at h
  simp [e] at h
theorem adv_dummy {t : SetTable} {p : SetTable.Probe} (h : p.dummy = none) : (t.advance p).dummy = none := by
  unfold SetTable.advance
  split <;> exact h
theorem probe_go {t : SetTable} (hn : t.dummies = #[]) {hashAt : Nat → Int} {h : Int} : ∀ (fuel : Nat) (p : SetTable.Probe), p.dummy = none → ∀ j d, SetTable.probe.go t hashAt h fuel p = some (.empty j d) → d = none ∧ t.slot j = .empty
  | 0, p, _, j, d, e => by simp [SetTable.probe.go] at e
  | fuel + 1, p, hp, j, d, e => by
    unfold SetTable.probe.go at e
    cases hs : t.slot p.j with
    | empty =>
      rw [hs] at e
      simp at e
      obtain ⟨rfl, rfl⟩ := e
      exact ⟨hp, hs⟩
    | dummy => exact absurd hs (slot_nodummy hn _)
    | live i =>
      rw [hs] at e
      dsimp only at e
      split at e
      · cases e
      · exact probe_go hn fuel _ (adv_dummy hp) j d e
theorem free_ok {t : SetTable} (hn : t.dummies = #[]) {h : Int} {s : Nat} {b : Bool} (e : t.freeSlot h = some (s, b)) : t.slot s = .empty := by
  unfold SetTable.freeSlot SetTable.probe at e
  split at e
  · rename_i j d hq
    obtain ⟨rfl, h2⟩ := probe_go hn _ _ rfl j d hq
    simp at e
    obtain ⟨rfl, rfl⟩ := e
    exact h2
  · cases e
theorem TabOk.put {led : Bool} {t : SetTable} (h : TabOk led t) {j : Nat} (hs : t.slot j = .empty) : TabOk led (t.put j).1 := by
  refine ⟨h.led, rise_insert h.rise (not_mem_of_slot h.rise (slot_empty hs)), ?_⟩
  show (if SetTable.has t.dummies j then _ else t.dummies) = #[]
  rw [h.nod, has_none]
  rfl
theorem TabOk.layNew {led : Bool} {t : SetTable} (h : TabOk led t) (es : Array (Int × Value)) (k : Int) (x : Value) : TabOk led (layNew t es k x).2.1 := by
  unfold PySem.layNew
  split
  · rename_i s b hq
    exact (h.put (free_ok h.nod hq)).orStandIn _
  · exact h.standIn _
theorem laid_rise {mask finger moves : Nat} {led plain : Bool} {hashes : Array Int} {t : SetTable} {o : Array Nat} (e : SetTable.laid mask finger moves led plain hashes = some (t, o)) : TabOk led t := by
  unfold SetTable.laid at e
  cases hq : SetTable.layClean mask hashes with
  | none => rw [hq] at e; cases e
  | some owner =>
    rw [hq] at e
    have e' := Option.some.inj e
    have e1 := (Prod.mk.inj e').1
    subst e1
    refine ⟨rfl, ?_, rfl⟩
    show List.Pairwise (· < ·) (((List.range (mask + 1)).filterMap fun j => (owner.getD j none).map (j, ·)).map (·.1)).toArray.toList
    rw [List.map_filterMap]
    have hs : ∀ l : List Nat, (l.filterMap fun x => Option.map (fun x => x.1) ((owner.getD x none).map (x, ·))).Sublist l := by
      intro l
      induction l with
      | nil => exact .slnil
      | cons a r ih =>
        rw [List.filterMap_cons]
        cases owner.getD a none with
        | none => exact ih.cons _
        | some v => exact ih.cons₂ _
    exact (List.pairwise_lt_range (n := mask + 1)).sublist (hs _)
theorem TabOk.relayAll {led : Bool} {t : SetTable} (h : TabOk led t) (es : Array (Int × Value)) (n : Nat) : TabOk led (relayAll t es n).2.1 := by
  unfold PySem.relayAll
  split
  · rename_i t' o hq
    dsimp only
    split
    · have := laid_rise hq
      rw [h.led] at this
      exact this
    · exact h.standIn _
  · exact h.standIn _
end L2
namespace L2
open PySem
theorem paired_perm {α β : Type} {R : α → β → Prop} {l2 l2' : List β} (p : l2.Perm l2') : ∀ {l1 : List α}, Paired R l1 l2 → ∃ l1', l1.Perm l1' ∧ Paired R l1' l2' := by
  induction p with
  | nil => intro l1 h; exact ⟨l1, .refl _, h⟩
  | cons x _ ih =>
    intro l1 h
    cases h with
    | cons r t => obtain ⟨l, p, q⟩ := ih t; exact ⟨_ :: l, p.cons _, .cons r q⟩
  | swap x y l =>
    intro l1 h
    cases h with
    | cons r t => cases t with | cons r' t' => exact ⟨_, .swap _ _ _, .cons r' (.cons r t')⟩
  | trans _ _ ih1 ih2 =>
    intro l1 h
    obtain ⟨l, p, q⟩ := ih1 h
    obtain ⟨l', p', q'⟩ := ih2 q
    exact ⟨l', p.trans p', q'⟩
theorem paired_len {α β : Type} {R : α → β → Prop} : ∀ {xs : List α} {ys : List β}, Paired R xs ys → xs.length = ys.length
  | _, _, .nil => rfl
  | _, _, .cons _ t => by rw [List.length_cons, List.length_cons, paired_len t]
theorem paired_append {α β : Type} {R : α → β → Prop} : ∀ {xs : List α} {ys : List β} {a : α} {b : β}, Paired R xs ys → R a b → Paired R (xs ++ [a]) (ys ++ [b])
  | _, _, _, _, .nil, r => .cons r .nil
  | _, _, _, _, .cons q t, r => .cons q (paired_append t r)
section
variable {prog : Program} {w : World} {K : Type} [DecidableEq K] (knd : KeyKind prog w K)
/-- the set at a has just these keys -/
def SetW (h : Heap) (a : Addr) (ks : List K) : Prop :=
  ∃ o es ep t, h.get? a = some o ∧ o.ExactSet ∧ o.data = .set es ep t ∧ ElemsOf knd es.toList ∧ Paired (fun (k : K) (e : Int × Value) => knd.is k e.2 = true) ks es.toList ∧ ks.Nodup ∧
    es.size < scanBound ∧ t.fits es.size = true ∧ TabOk (!w.params.followText "set-order") t
variable {knd}
variable {A : Around} {E : Value → Shared → Prop} {s : Shared}
theorem SetW.at' {h h' : Heap} {a : Addr} {ks : List K} (x : SetW knd h a ks) (k : ∀ o, h.get? a = some o → h'.get? a = some o) : SetW knd h' a ks := by
  obtain ⟨o, es, ep, t, ho, r⟩ := x
  exact ⟨o, es, ep, t, k o ho, r⟩
theorem SetW.typeIs {a : Addr} {ks : List K} (x : SetW knd s.heap a ks) : s.TypeIs (.ref a) "set" := by
  obtain ⟨o, es, ep, t, ho, hx, r⟩ := x
  exact ⟨o, ho, hx.1⟩
theorem key_in {ks : List K} : ∀ {es : List (Int × Value)}, Paired (fun (k : K) (e : Int × Value) => knd.is k e.2 = true) ks es → ∀ k, k ∈ ks ↔ ∃ e ∈ es, knd.is k e.2 = true := by
  induction ks with
  | nil => intro es h k; cases h; simp
  | cons a r ih =>
    intro es h k
    cases h with
    | @cons _ b _ t r' p =>
      rw [List.mem_cons, ih p k]
      constructor
      · rintro (rfl | ⟨e, he, hk⟩)
        · exact ⟨b, List.mem_cons_self, r'⟩
        · exact ⟨e, List.mem_cons_of_mem _ he, hk⟩
      · rintro ⟨e, he, hk⟩
        rcases List.mem_cons.mp he with rfl | he
        · exact .inl (knd.inj _ _ _ hk r')
        · exact .inr ⟨e, he, hk⟩
theorem store_setW {h : Heap} {a : Addr} {o : Obj} {es : Array (Int × Value)} {ep : Nat} {t : SetTable} (ho : h.get? a = some o) (hex : o.ExactSet) (hd : o.data = .set es ep t)
    {es' : Array (Int × Value)} {t' : SetTable} {ks : List K} (hel : ElemsOf knd es'.toList) (hp : Paired (fun (k : K) (e : Int × Value) => knd.is k e.2 = true) ks es'.toList) (hn : ks.Nodup) (hb : es'.size < scanBound) (hf : t'.fits es'.size = true)
    (ht : TabOk (!w.params.followText "set-order") t') :
    (h.update a (Obj.putSet es' t')).get? a = some { o with data := .set es' (ep + 1) t' } ∧ SetW knd (h.update a (Obj.putSet es' t')) a ks := by
  have hg : (h.update a (Obj.putSet es' t')).get? a = some { o with data := .set es' (ep + 1) t' } := by
    have := Heap.get?_update_self (Obj.putSet es' t') ho (by rw [putSet_of es' t' hd]; rfl)
    rw [putSet_of es' t' hd] at this; exact this
  exact ⟨hg, _, es', ep + 1, t', hg, hex, rfl, hel, hp, hn, hb, hf, ht⟩
theorem tail_setW {g : Bool → Sem Unit} (hg : ∀ (b : Bool) (s₁ : Shared) (Q' : Unit → Shared → Prop), Q' () s₁ → wpAny (model prog w) A (g b) Q' E s₁)
    {a : Addr} {o : Obj} {es : Array (Int × Value)} {ep : Nat} {t : SetTable} (ho : s.heap.get? a = some o) (hex : o.ExactSet) (hd : o.data = .set es ep t)
    {es1 : Array (Int × Value)} {t2 : SetTable} {ks : List K} (hel1 : ElemsOf knd es1.toList) (hp1 : Paired (fun (k : K) (e : Int × Value) => knd.is k e.2 = true) ks es1.toList) (hn1 : ks.Nodup)
    (hb1 : es1.size < scanBound) (hf2 : t2.fits es1.size = true) (ht2 : TabOk (!w.params.followText "set-order") t2) {wasDummy : Bool} {R : Option Bool → Shared → Prop}
    (h : ∀ h' ks', Heap.SameBut a s.heap h' → ks.Perm ks' → SetW knd h' a ks' → R (some true) { s with heap := h' }) :
    wpAny (model prog w) A (do
        storeSet a es1 t2
        if (!wasDummy && t2.tooFull) = true then do
            g (relayAll t2 es1 (SetTable.grown es1.size)).2.2
            storeSet a (relayAll t2 es1 (SetTable.grown es1.size)).1 (relayAll t2 es1 (SetTable.grown es1.size)).2.1
            pure (some true)
          else pure (some true)) R E s := by
  refine wpAny_bind (wpAny_storeSet_of ho hd ?_ (fits_of_scanBound hb1))
  obtain ⟨ho1, hS1⟩ := store_setW (knd := knd) ho hex hd hel1 hp1 hn1 hb1 hf2 ht2
  have hsb1 := Heap.SameBut.update s.heap a (Obj.putSet es1 t2)
  split
  · have hp := relayAll_perm t2 es1 (SetTable.grown es1.size)
    have hfr := relayAll_fits t2 es1 (SetTable.grown es1.size)
    have htr := ht2.relayAll es1 (SetTable.grown es1.size)
    generalize hRl : relayAll t2 es1 (SetTable.grown es1.size) = Rl at hp hfr htr ⊢
    obtain ⟨es2, t3, gave2⟩ := Rl
    dsimp only at hp hfr htr ⊢
    have hel2 : ElemsOf knd es2.toList := hel1.perm hp
    obtain ⟨ks2, pk, hp2⟩ := paired_perm hp.symm hp1
    have hsz : es2.size = es1.size := by rw [← Array.length_toList, hp.length_eq, Array.length_toList]
    have hb2 : es2.size < scanBound := by rw [hsz]; exact hb1
    refine wpAny_bind (hg _ _ _ ?_)
    refine wpAny_bind (wpAny_storeSet_of ho1 rfl ?_ (fits_of_scanBound hb2))
    obtain ⟨_, hS2⟩ := store_setW (knd := knd) ho1 hex rfl hel2 hp2 (pk.nodup_iff.mp hn1) hb2 hfr htr
    exact wpAny_pure (h _ _ (hsb1.trans (Heap.SameBut.update _ a _)) pk hS2)
  · exact wpAny_pure (h _ _ hsb1 (.refl _) hS1)
/-- what an added key makes of the keys -/
def Added (ks : List K) (k : K) (ks' : List K) : Prop := (k ∈ ks ∧ ks' = ks) ∨ (k ∉ ks ∧ (ks ++ [k]).Perm ks')
theorem Added.mem {ks ks' : List K} {k : K} (h : Added ks k ks') (x : K) : x ∈ ks' ↔ x ∈ ks ∨ x = k := by
  rcases h with ⟨a, rfl⟩ | ⟨_, p⟩
  · exact ⟨.inl, fun z => z.elim id (fun e => e ▸ a)⟩
  · rw [← p.mem_iff, List.mem_append, List.mem_singleton]
theorem Added.len {ks ks' : List K} {k : K} (h : Added ks k ks') : ks'.length ≤ ks.length + 1 := by
  rcases h with ⟨a, rfl⟩ | ⟨_, p⟩
  · exact Nat.le_succ _
  · rw [← p.length_eq, List.length_append]; exact Nat.le_refl _
theorem add_setW {a : Addr} {ks : List K} {k : K} {x : Value} {Q : Bool → Shared → Prop} (hkey : knd.is k x = true) (hsc : x.scannable = true) (hS : SetW knd s.heap a ks) (hroom : ks.length + 1 < scanBound)
    (h : ∀ b h' ks', Heap.SameBut a s.heap h' → SetW knd h' a ks' → Added ks k ks' → Q b { s with heap := h' }) :
    wpAny (model prog w) A (setAddHashed a x (knd.hash k)) Q E s := by
  obtain ⟨o, es, ep, t, ho, hex, hd, hel, hpr, hnd, hb, hf, ht⟩ := hS
  have hmem := key_in (knd := knd) hpr
  have hlen : ks.length = es.size := by rw [paired_len hpr]; simp
  have hb1 : es.size + 1 < scanBound := by omega
  unfold setAddHashed setAddHashedIn
  refine wpAny_holding (wpAny_bind (wpAny_setState_of ho hd hf ?_))
  dsimp only
  rw [byScan_of hsc hb hel]
  simp only [↓reduceIte]
  unfold setAddByScan
  refine wpAny_bind ?_
  refine wpAny_bind (wpAny_rule ?_)
  refine wpAny_bind (wpAny_setScan_of hkey ho hd hf hel ?_)
  cases hr : List.findIdx? (fun e => knd.is k e.2) es.toList with
  | some j =>
    dsimp only
    obtain ⟨hj, hpj, _⟩ := List.findIdx?_eq_some_iff_getElem.mp hr
    have hSk : k ∈ ks := (hmem k).mpr ⟨es.toList[j], List.getElem_mem hj, hpj⟩
    refine wpAny_pure (wpAny_pure ?_)
    have e : s = { s with heap := s.heap } := by cases s; rfl
    rw [e]
    exact h _ s.heap ks (Heap.SameBut.refl a s.heap) ⟨o, es, ep, t, ho, hex, hd, hel, hpr, hnd, hb, hf, ht⟩ (.inl ⟨hSk, rfl⟩)
  | none =>
    dsimp only
    have hSk : k ∉ ks := by
      intro hk
      obtain ⟨e, he, hp⟩ := (hmem k).mp hk
      have := List.findIdx?_eq_none_iff.mp hr e he; rw [hp] at this; exact Bool.noConfusion this
    have hgw : ∀ (b : Bool) {s₁ : Shared} {Q' : Unit → Shared → Prop}, Q' () s₁ → wpAny (model prog w) A (match b with | true => rule "set.scan.the-table-gave-way" | false => pure ()) Q' E s₁ :=
      fun b s₁ Q' hq => by cases b <;> first | exact wpAny_pure hq | exact wpAny_rule hq
    have hperm := layNew_perm t es (knd.hash k) x
    have hfits := layNew_fits t es (knd.hash k) x
    have htab := ht.layNew es (knd.hash k) x
    generalize hL : layNew t es (knd.hash k) x = L at hperm hfits htab ⊢
    obtain ⟨es1, t1, wasDummy, gave⟩ := L
    dsimp only at hperm hfits htab ⊢
    rw [Array.toList_push] at hperm
    have hel1 : ElemsOf knd es1.toList := (hel.push hkey hsc).perm hperm
    obtain ⟨ks1, pk, hp1⟩ := paired_perm hperm.symm (paired_append hpr (a := k) (b := (knd.hash k, x)) hkey)
    have hn1 : ks1.Nodup := pk.nodup_iff.mp (by
      rw [List.nodup_append]
      exact ⟨hnd, by simp, fun a ha b hb e => by simp at hb; subst hb; subst e; exact hSk ha⟩)
    have hb1' : es1.size < scanBound := by rw [← Array.length_toList, hperm.length_eq, List.length_append, Array.length_toList]; simpa using hb1
    refine wpAny_bind (hgw _ ?_)
    have hend : ∀ h' ks', Heap.SameBut a s.heap h' → ks1.Perm ks' → SetW knd h' a ks' → Q true { s with heap := h' } := by
      intro h' ks' hsb p hS'; exact h true h' ks' hsb hS' (.inr ⟨hSk, pk.trans p⟩)
    split
    · refine wpAny_bind ?_
      rw [hashByValue_scannable 8 hsc]
      refine wpAny_pure ?_
      refine tail_setW ?_ ho hex hd hel1 hp1 hn1 hb1' ?_ ?_ ?_
      · intro b s₁ Q' hq; cases b <;> first | exact wpAny_pure hq | exact wpAny_rule hq
      · split
        · exact hfits
        · exact SetTable.fits_plain_off hfits
      · split
        · exact htab
        · exact htab.unplain
      · intro h' ks' hsb p hS'; dsimp only; exact wpAny_pure (hend h' ks' hsb p hS')
    · refine wpAny_bind (wpAny_pure ?_)
      simp only [↓reduceIte]
      refine tail_setW ?_ ho hex hd hel1 hp1 hn1 hb1' hfits htab ?_
      · intro b s₁ Q' hq; cases b <;> first | exact wpAny_pure hq | exact wpAny_rule hq
      · intro h' ks' hsb p hS'; dsimp only; exact wpAny_pure (hend h' ks' hsb p hS')
end
end L2
namespace L2
open PySem PySem.Spec PyProof.Rows
section
variable {prog : Program} {w : World} {K : Type} [DecidableEq K] {knd : KeyKind prog w K}
/-- ks: the keys of the first i -/
def Dedup (val : Nat → K) (i : Nat) (ks : List K) : Prop := (∀ k, k ∈ ks ↔ ∃ j, j < i ∧ val j = k) ∧ ks.length ≤ i
theorem dedup_zero (val : Nat → K) : Dedup val 0 [] := ⟨fun k => ⟨(fun h => nomatch h), fun ⟨j, hj, _⟩ => absurd hj (Nat.not_lt_zero _)⟩, Nat.le_refl _⟩
theorem Dedup.add {val : Nat → K} {i : Nat} {ks ks' : List K} (h : Dedup val i ks) (a : Added ks (val i) ks') : Dedup val (i + 1) ks' := by
  refine ⟨fun k => ?_, Nat.le_trans a.len (Nat.succ_le_succ h.2)⟩
  rw [a.mem, h.1]
  constructor
  · rintro (⟨j, hj, e⟩ | rfl)
    · exact ⟨j, Nat.lt_succ_of_lt hj, e⟩
    · exact ⟨i, Nat.lt_succ_self _, rfl⟩
  · rintro ⟨j, hj, e⟩
    rcases Nat.lt_succ_iff_lt_or_eq.mp hj with hj | rfl
    · exact .inl ⟨j, hj, e⟩
    · exact .inr e.symm
variable {A : Around} {R : Result → Shared → Prop} {I : Addr} {fp wr : List Addr} {G : Array GenState → Array GenState → Prop} {n : Nat} {P : Nat → Value → Prop} {St : Nat → Shared → Prop}
theorem set_update_loop (W : WalksS prog w A.in1 I fp wr G n P St) (S : Addr) (hSf : S ∉ fp)
    (val : Nat → K) (hval : ∀ i v, P i v → knd.is (val i) v = true ∧ v.scannable = true) (hb : n + 1 < scanBound) :
    ∀ (k i : Nat) (s : Shared) (ks : List K), n - i = k → i ≤ n → St i s → SetW knd s.heap S ks → Dedup val i ks →
      (∀ s' ks', Moved (S :: wr) G s s' → SetW knd s'.heap S ks' → Dedup val n ks' → R (.ok (.ret .none)) s') →
      codeAny (model prog w) A (.builtin "set.update.loop" ⟨[.ref S, .ref I], []⟩) R s := by
  have hSw : S ∉ wr := fun h => hSf (W.sub _ h)
  have hsub : ∀ b ∈ wr, b ∈ S :: wr := fun b hb => List.mem_cons_of_mem _ hb
  intro k
  induction k with
  | zero =>
    intro i s ks hk hi hst hS hD hR
    have hin : i = n := by omega
    subst hin
    refine codeAny_builtin F.entry_set_update_loop ?_
    rw [Around.under_plainId F.plain_set_update_loop _]
    show wpAny _ A.in1 (pyNext (.ref I) >>= _) _ _ s
    refine wpAny_bind (W.done s _ _ hst fun s' hm => ?_)
    show wpAny _ A.in1 (ret Value.none) _ _ s'
    exact wpAny_pure (hR s' ks (hm.mono hsub) (hS.at' fun o e => hm.heap S _ hSw e) hD)
  | succ k ih =>
    intro i s ks hk hi hst hS hD hR
    have hlt : i < n := by omega
    refine codeAny_builtin F.entry_set_update_loop ?_
    rw [Around.under_plainId F.plain_set_update_loop _]
    show wpAny _ A.in1 (pyNext (.ref I) >>= _) _ _ s
    refine wpAny_bind (W.item i s _ _ hlt hst fun v s' hP hst' hm => ?_)
    obtain ⟨hkv, hsc⟩ := hval i v hP
    have hS' : SetW knd s'.heap S ks := hS.at' fun o e => hm.heap S _ hSw e
    show wpAny _ A.in1 (holding [v] (setAdd S v) >>= _) _ _ s'
    refine wpAny_bind (wpAny_holding ?_)
    unfold setAdd
    refine wpAny_holding ?_
    refine wpAny_bind (knd.pyHash (k := val i) hkv ?_)
    have hroom : ks.length + 1 < scanBound := by have := hD.2; omega
    refine add_setW (knd := knd) (s := { s' with toks := s'.toks + 1 }) hkv hsc hS' hroom fun b h' ks' hsb hS2 ha => ?_
    refine wpAny_pure ⟨plainId_quiet F.plain_set_update_loop _, ih (i + 1) _ ks' (by omega) hlt (W.frame _ s' _ _ hst' (Nat.le_succ _) fun b hb o e => ?_) hS2 (hD.add ha) fun s'' ks'' hm'' hS'' hD'' => ?_⟩
    · rw [hsb.2 b (fun h : b = S => hSf (by rw [← h]; exact hb))]; exact e
    · refine hR s'' ks'' (Moved.trans W.gtrans ((hm.mono hsub).then_heap (Nat.le_succ _) fun b o hb e => ?_) hm'') hS'' hD''
      rw [hsb.2 b (fun h : b = S => hb (by rw [h]; exact List.mem_cons_self))]; exact e
variable {E : Value → Shared → Prop} {s : Shared}
theorem set_new_1 (a : Value) {Q₁ : Value → Shared → Prop}
    (h : Q₁ (.ref s.heap.objs.size) { s with heap := s.heap.push { cls := .type "set", dict := none, data := .set #[] 0 (.fresh 0 0 (!w.params.followText "set-order")) } }) :
    codeAny (model prog w) A (.call (.builtin "set.__new__") ⟨[.type "set", a], []⟩) (wants Q₁ E) s := by
  refine codeAny_of_tree ?_
  show wpAny _ A.in1 (do checkBuiltinCall "set.__new__" ⟨[.type "set", a], []⟩; again (.builtin "set.__new__" ⟨[.type "set", a], []⟩)) _ _ s
  refine wpAny_bind (wpAny_of_eq (PySem.F.newCall_set_1 a) (wpAny_pure ⟨plainId_quiet PySem.F.plain_set_new _, codeAny_builtin PySem.F.entry_set_new ?_⟩))
  rw [Around.under_plainId PySem.F.plain_set_new _]
  unfold Builtin.«set.__new__» Builtin.Frozenset.newClass
  have hsub := sub_set_self
  obtain ⟨hp, g, d, tk, os⟩ := s
  dsimp only
  wp_walk
  refine wpAny_askSetting (wpAny_pure ?_)
  dsimp only
  simp only [newObj]
  refine wpAny_bind (wpAny_alloc (wpAny_pure ?_))
  exact wpAny_pure h
theorem setW_fresh {h : Heap} : SetW knd (h.push { cls := .type "set", dict := none, data := .set #[] 0 (.fresh 0 0 (!w.params.followText "set-order")) }) h.objs.size [] :=
  ⟨_, #[], 0, _, Heap.get?_push_size _ rfl, ⟨rfl, rfl, rfl⟩, rfl, fun e he => by simp at he, .nil, List.nodup_nil, by decide, by rfl, ⟨rfl, by simp [Rise, SetTable.fresh], rfl⟩⟩
set_option maxHeartbeats 3200000 in
theorem call_set_keys {l : Addr} {items : Array Value} {val : Nat → K} {Q : Value → Shared → Prop}
    (hh : A.handled = none) (hl : s.heap.IsList l items) (hi : ∀ i v, items[i]? = some v → knd.is (val i) v = true ∧ v.scannable = true) (hb : items.size + 1 < scanBound)
    (h : ∀ (h' : Heap) (tk : Nat) (ks : List K), SetW knd h' s.heap.objs.size ks → Dedup val items.size ks →
      (∀ b o, b < s.heap.objs.size → s.heap.get? b = some o → h'.get? b = some o) → Q (.ref s.heap.objs.size) { s with heap := h', toks := tk }) :
    wpAny (model prog w) A (call (.type "set") [.ref l]) Q E s := by
  obtain ⟨c, tl, hmro⟩ := PySem.F.called_set.mro
  have hmade := PySem.F.called_set.made
  have hsub := PySem.F.called_set.sub
  refine wpAny_call (codeAny_of_tree ?_)
  show wpAny _ _ (callAny (.type "set") _) _ _ _
  refine wpAny_pure ⟨Code.quiet_builtin _ (by decide +kernel), codeAny_builtin PySem.F.entry_type_call ?_⟩
  rw [Around.under_plain (weight_type_call_type "set" [.ref l] []) rfl]
  have h1 := PySem.F.called_set.notType
  have h2 := PySem.F.called_set.canCreate
  have hct := PySem.F.typeCall_set_1 (.ref l)
  repeat (any_goals (first | assumption | wp_step))
  refine codeAny_mono (set_new_1 (.ref l) (E := E) (Q₁ := fun obj s₁ => obj = .ref s.heap.objs.size ∧ s₁ = { s with heap := s.heap.push { cls := .type "set", dict := none, data := .set #[] 0 (.fresh 0 0 (!w.params.followText "set-order")) } }) ⟨rfl, rfl⟩) fun r s₁ hr => ?_
  cases r with
  | error e => exact hr
  | ok fl =>
    cases fl with
    | ret obj =>
      obtain ⟨rfl, rfl⟩ := hr
      generalize hled : (!w.params.followText "set-order") = led at *
      have hS : (s.heap.push { cls := .type "set", dict := none, data := .set #[] 0 (.fresh 0 0 led) }).get? s.heap.objs.size = some { cls := .type "set", dict := none, data := .set #[] 0 (.fresh 0 0 led) } := Heap.get?_push_size _ rfl
      have hT : Shared.TypeIs { s with heap := s.heap.push { cls := .type "set", dict := none, data := .set #[] 0 (.fresh 0 0 led) } } (.ref s.heap.objs.size) "set" := ⟨_, hS, rfl⟩
      have hli := PySem.F.called_set.init.lookup
      have hbi := PySem.F.called_set.init.bind (.ref s.heap.objs.size)
      repeat (any_goals (first | assumption | wp_step))
      refine codeAny_mono (codeAny_call_builtin (R := wants (fun r s₂ => r = .none ∧ ∃ h' tk ks, s₂ = { s with heap := h', toks := tk } ∧
          SetW knd h' s.heap.objs.size ks ∧ Dedup val items.size ks ∧
          (∀ b o, b < s.heap.objs.size → s.heap.get? b = some o → h'.get? b = some o)) E) PySem.F.called_set.init.plain PySem.F.entry_set_init (check_set_init_1 hT ?_)) fun r₂ s₂ hr₂ => ?_
      · obtain ⟨ol, hol, hcl, nl, hdl⟩ := hl
        obtain ⟨ocls, odict, odata, oslots⟩ := ol
        simp only at hcl hdl
        subst hcl; subst hdl
        have hol' : (s.heap.push { cls := .type "set", dict := none, data := .set #[] 0 (.fresh 0 0 led) }).get? l = some { cls := .type "list", dict := odict, data := .seq items nl, slots := oslots } := Heap.get?_push_of_some _ hol
        have hsls := PySem.F.sub_list_set
        have hslf := PySem.F.sub_list_frozenset
        have hne : (Value.type "list" == Value.type "dict") = false := by decide
        have hl1 : (s.heap.push { cls := .type "set", dict := none, data := .set #[] 0 (.fresh 0 0 led) }).IsList l items := ⟨_, hol', rfl, nl, rfl⟩
        unfold Builtin.«set.__init__» noKeywords Builtin.Frozenset.updateFrom
        generalize hPI : pyIter = PI
        wp_walk
        subst hPI
        refine wpAny_pyIter_list hl1 ?_
        refine wpAny_bind (wpAny_runValue ?_)
        have hlS : l < s.heap.objs.size := Heap.lt_size hol
        have hh3 : A.in1.in1.in1.handled = none := by simp [hh]
        have hneI : l ≠ (s.heap.push { cls := .type "set", dict := none, data := .set #[] 0 (.fresh 0 0 led) }).objs.size := by
          rw [Heap.size_push]; exact Nat.ne_of_lt (Nat.lt_succ_of_lt hlS)
        have hSf : s.heap.objs.size ∉ [(s.heap.push { cls := .type "set", dict := none, data := .set #[] 0 (.fresh 0 0 led) }).objs.size, l] := by
          rw [Heap.size_push]; simp only [List.mem_cons, List.mem_singleton, List.not_mem_nil, or_false, not_or]
          exact ⟨Nat.ne_of_lt (Nat.lt_succ_self _), Nat.ne_of_gt hlS⟩
        refine set_update_loop (knd := knd) ((Walks.list hh3 _ l hneI items).toS) s.heap.objs.size
          hSf val hi hb (items.size - 0) 0 _ [] (by omega) (Nat.zero_le _)
          ⟨⟨_, Heap.get?_push_size _ rfl, rfl, rfl⟩, (hl1.push _)⟩ ?hS0 (dedup_zero val) ?hR
        case hS0 =>
          refine SetW.at' (h := s.heap.push { cls := .type "set", dict := none, data := .set #[] 0 (.fresh 0 0 led) }) (hled ▸ setW_fresh) fun o e => Heap.get?_push_of_some _ e
        case hR =>
          intro s' ks' hm hS' hD'
          obtain ⟨h', g', d', tk', os'⟩ := s'
          have eg : g' = s.gens := hm.gens
          have ed : d' = s.drawn := hm.drawn
          have eo : os' = s.os := hm.os
          subst eg; subst ed; subst eo
          show wpAny _ _ _ _ _ _
          refine wpAny_pure ?_
          show wpAny _ _ (ret Value.none) _ _ _
          refine wpAny_pure ⟨rfl, h', tk', ks', rfl, hS', hD', fun b o hb e => ?_⟩
          have hb1 : b ≠ s.heap.objs.size := Nat.ne_of_lt hb
          have hb2 : b ≠ (s.heap.push { cls := .type "set", dict := none, data := .set #[] 0 (.fresh 0 0 led) }).objs.size := by
            rw [Heap.size_push]; exact Nat.ne_of_lt (Nat.lt_succ_of_lt hb)
          exact hm.heap b o (by simp only [List.mem_cons, List.mem_singleton, List.not_mem_nil, or_false, not_or]; exact ⟨hb1, hb2⟩) (Heap.get?_push_of_some _ (Heap.get?_push_of_some _ e))
      · cases r₂ with
        | error e => exact hr₂
        | ok fl₂ =>
          cases fl₂ with
          | ret r =>
            obtain ⟨rfl, h', tk, ks, rfl, hS', hD', hk'⟩ := hr₂
            repeat (any_goals (first | assumption | wp_step))
            exact h _ _ _ hS' hD' hk'
          | _ => exact hr₂.elim
    | _ => exact hr.elim
end
end L2
namespace L2
open PySem PySem.Spec PyProof.Rows
theorem slot_setit_next : Slot "set_iterator" "__next__" "set_iterator.__next__" :=
  .of (owner := "set_iterator") (n := "__next__") (by rw [typeLookup_type, builtinLookup_eq_fast]; kernel_rfl) (by decide +kernel) (by decide +kernel) (by decide +kernel)
    (by first | exact .inl (by decide +kernel) | exact .inr (by decide +kernel)) (by rw [isSubtype_type]; kernel_rfl)
theorem entry_setit_next : entryFor table "set_iterator.__next__" = some Builtin.«set_iterator.__next__» := entryFor_of_tree (by kernel_rfl)
theorem owner_setit : Manifest.owners.lookup (String.ofList ['r', 'o', 't', 'a', 'r', 'e', 't', 'i', '_', 't', 'e', 's'].reverse) = some Manifest.sig_set_iterator := by kernel_rfl
theorem args_setit_next (a : Value) : argsOk "set_iterator.__next__" ⟨[a], []⟩ := by
  unfold argsOk; rw [signature?_of (id := "set_iterator.__next__") (n := ['_', '_', 't', 'x', 'e', 'n', '_', '_']) (o := ['r', 'o', 't', 'a', 'r', 'e', 't', 'i', '_', 't', 'e', 's']) (by kernel_rfl) owner_setit]; kernel_rfl
theorem slot_setit_iter : Slot "set_iterator" "__iter__" "set_iterator.__iter__" :=
  .of (owner := "set_iterator") (n := "__iter__") (by rw [typeLookup_type, builtinLookup_eq_fast]; kernel_rfl) (by decide +kernel) (by decide +kernel) (by decide +kernel)
    (by first | exact .inl (by decide +kernel) | exact .inr (by decide +kernel)) (by rw [isSubtype_type]; kernel_rfl)
theorem entry_setit_iter : entryFor table "set_iterator.__iter__" = some Builtin.«dict_keyiterator.__iter__» := entryFor_alias (id' := "dict_keyiterator.__iter__") (by kernel_rfl) rfl (by decide +kernel) (by kernel_rfl)
theorem args_setit_iter (a : Value) : argsOk "set_iterator.__iter__" ⟨[a], []⟩ := by
  unfold argsOk; rw [signature?_of (id := "set_iterator.__iter__") (n := ['_', '_', 'r', 'e', 't', 'i', '_', '_']) (o := ['r', 'o', 't', 'a', 'r', 'e', 't', 'i', '_', 't', 'e', 's']) (by kernel_rfl) owner_setit]; kernel_rfl
theorem entry_set_iter' : entryFor table "set.__iter__" = some Builtin.«frozenset.__iter__» := entryFor_alias (id' := "frozenset.__iter__") (by kernel_rfl) rfl (by decide +kernel) (by kernel_rfl)
theorem erase_perm {α : Type} : ∀ {l : List α} {i : Nat} (h : i < l.length), (l[i] :: l.eraseIdx i).Perm l
  | a :: r, 0, _ => .refl _
  | a :: r, i + 1, h => by
    have ih := erase_perm (l := r) (i := i) (by simpa using h)
    have h2 : ((a :: r)[i + 1] :: (a :: r).eraseIdx (i + 1)) = r[i]'(by simpa using h) :: a :: r.eraseIdx i := rfl
    rw [h2]
    exact (List.Perm.swap _ _ _).trans (ih.cons a)
theorem pick_go {α : Type} (next : Nat → Nat) : ∀ (fuel k : Nat) (left : List α) (out : Array α), left.length ≤ fuel → ∃ l : List α, (pickOrder.go next fuel k left out).toList = out.toList ++ l ∧ l.Perm left
  | 0, k, left, out, h => by
    have : left = [] := List.eq_nil_of_length_eq_zero (by omega)
    subst this
    exact ⟨[], by simp [pickOrder.go], .refl _⟩
  | fuel + 1, k, [], out, h => ⟨[], by simp [pickOrder.go], .refl _⟩
  | fuel + 1, k, a :: r, out, h => by
    unfold pickOrder.go
    have hlt : next k % (a :: r).length < (a :: r).length := Nat.mod_lt _ (by simp)
    rw [List.getElem?_eq_getElem hlt]
    dsimp only
    obtain ⟨l, e, p⟩ := pick_go next fuel (k + 1) ((a :: r).eraseIdx (next k % (a :: r).length)) (out.push (a :: r)[next k % (a :: r).length]) (by rw [List.length_eraseIdx_of_lt hlt]; simp at h ⊢; omega)
    refine ⟨(a :: r)[next k % (a :: r).length] :: l, by rw [e]; simp, ?_⟩
    exact (p.cons _).trans (erase_perm hlt)
theorem pick_perm {α : Type} (next : Nat → Nat) (xs : Array α) : (pickOrder next xs).toList.Perm xs.toList := by
  obtain ⟨l, e, p⟩ := pick_go next xs.size 0 xs.toList #[] (by simp)
  unfold pickOrder
  rw [e]
  simpa using p
theorem wpAny_choose {M : Model} {A : Around} {E : Value → Shared → Prop} {s : Shared} {src : Source} {n : Nat} {Q : Nat → Shared → Prop} (hn : n ≠ 0) (h : ∀ i d, i < n → Q i { s with drawn := d }) : wpAny M A (choose src n) Q E s := fun _ _ _ =>
  ⟨hn, h _ _ (Nat.mod_lt _ (Nat.pos_of_ne_zero hn))⟩
theorem wpAny_drawOrder {α : Type} {M : Model} {A : Around} {E : Value → Shared → Prop} : ∀ (n : Nat) (xs : List α) {s : Shared} {Q : List α → Shared → Prop}, xs.length ≤ n → (∀ l d, l.Perm xs → Q l { s with drawn := d }) → wpAny M A (drawOrder n xs) Q E s
  | 0, xs, s, Q, hl, h => by
    have : xs = [] := List.eq_nil_of_length_eq_zero (by omega)
    subst this
    have e : s = { s with drawn := s.drawn } := by cases s; rfl
    unfold drawOrder
    rw [e]
    exact wpAny_pure (h [] _ (.refl _))
  | n + 1, [], s, Q, hl, h => by
    have e : s = { s with drawn := s.drawn } := by cases s; rfl
    unfold drawOrder
    rw [e]
    exact wpAny_pure (h [] _ (.refl _))
  | n + 1, a :: r, s, Q, hl, h => by
    unfold drawOrder
    refine wpAny_bind (wpAny_choose (by simp) fun i d hi => ?_)
    rw [List.getElem?_eq_getElem hi]
    dsimp only
    refine wpAny_bind (wpAny_drawOrder n _ (by rw [List.length_eraseIdx_of_lt hi]; simp at hl ⊢; omega) fun l d' p => wpAny_pure ?_)
    exact h _ _ ((p.cons _).trans (erase_perm hi))
/-- an iterator over the set at a, which walks vs, at place i; tp: the drawn places -/
structure SetIt (w : World) (h : Heap) (it a tp : Addr) (vs : List Value) (i : Nat) : Prop where
  it : ∃ (o : Obj) (es : Array (Int × Value)) (ep : Nat) (t : SetTable) (first : Value) (oi : Obj), h.get? a = some o ∧ o.data = .set es ep t ∧ t.fits es.size = true ∧ TabOk (!w.params.followText "set-order") t ∧ vs.length = es.size ∧
    h.get? it = some oi ∧ oi.cls = .type "set_iterator" ∧ oi.data = .fields #[first, rawInt (i : Int), .ref a, rawInt (es.size : Int), rawInt (ep : Int)] ∧
    ((w.params.followText "set-order" = true ∧ first = rawInt 0 ∧ vs = (pickOrder (w.params.setOrder a ep) es).toList.map (·.2)) ∨
     (w.params.followText "set-order" = false ∧ ∃ (ps : List Nat) (ot : Obj), first = .ref tp ∧ h.get? tp = some ot ∧ ot.data = .seq (ps.map fun (p : Nat) => rawInt (p : Int)).toArray 0 ∧ Paired (fun (p : Nat) (v : Value) => (es[p]?).map (·.2) = some v) ps vs) ∨
     (w.params.followText "set-order" = false ∧ (!t.plain && decide (es.size > 1)) = false ∧ ∃ slot : Nat, first = rawInt (slot : Int) ∧ SetTable.below t.place slot = i ∧ vs = es.toList.map (·.2)))
theorem SetIt.typeIs {w : World} {s : Shared} {it a tp : Addr} {vs : List Value} {i : Nat} (x : SetIt w s.heap it a tp vs i) : s.TypeIs (.ref it) "set_iterator" := by
  obtain ⟨_, _, _, _, _, oi, _, _, _, _, _, h, c, _⟩ := x
  exact ⟨oi, h, c⟩
theorem SetIt.frame {w : World} {h h' : Heap} {it a tp : Addr} {vs : List Value} {i : Nat} (x : SetIt w h it a tp vs i) (k : ∀ b, b = it ∨ b = a ∨ b = tp → ∀ o, h.get? b = some o → h'.get? b = some o) : SetIt w h' it a tp vs i := by
  obtain ⟨o, es, ep, t, first, oi, h1, h2, h3, h4, h5, h6, h7, h8, h9⟩ := x
  refine ⟨o, es, ep, t, first, oi, k a (.inr (.inl rfl)) _ h1, h2, h3, h4, h5, k it (.inl rfl) _ h6, h7, h8, ?_⟩
  rcases h9 with z | ⟨z, ps, ot, z1, z2, z3⟩ | z
  · exact .inl z
  · exact .inr (.inl ⟨z, ps, ot, z1, k tp (.inr (.inr rfl)) _ z2, z3⟩)
  · exact .inr (.inr z)
section
variable {prog : Program} {w : World} {A : Around} {E : Value → Shared → Prop} {s : Shared}
theorem get_mapFields {h : Heap} {a : Addr} {o : Obj} {vs : Array Value} {i : Nat} {x : Value} (ho : h.get? a = some o) (hd : o.data = .fields vs) : ∃ o', (h.update a (Obj.mapFields (·.setIfInBounds i x))).get? a = some o' ∧ o'.cls = o.cls ∧ o'.data = .fields (vs.setIfInBounds i x) :=
  ⟨_, Heap.get?_update_self _ ho (Obj.isFreed_of_fields (Obj.data_mapFields hd _)), Obj.cls_mapFields .., Obj.data_mapFields hd _⟩
theorem paired_get {α β : Type} {R : α → β → Prop} : ∀ {xs : List α} {ys : List β}, Paired R xs ys → ∀ {i : Nat} {y : β}, ys[i]? = some y → ∃ x, xs[i]? = some x ∧ R x y
  | _, _, .nil, i, x, e => by simp at e
  | _, _, .cons r t, 0, x, e => by simp at e; subst e; exact ⟨_, rfl, r⟩
  | _, _, .cons r t, i + 1, x, e => by
    obtain ⟨y, h1, h2⟩ := paired_get t (i := i) (y := x) (by simpa using e)
    exact ⟨y, by simpa using h1, h2⟩
theorem setit_item {it a tp : Addr} {vs : List Value} {i : Nat} {x : Value} {Q : Option Value → Shared → Prop} (hne : a ≠ it) (hnt : tp ≠ it) (hit : SetIt w s.heap it a tp vs i) (hx : vs[i]? = some x)
    (hQ : ∀ h', SetIt w h' it a tp vs (i + 1) → Heap.SameBut it s.heap h' → Q (some x) { s with heap := h' }) : wpAny (model prog w) A (pyNext (.ref it)) Q E s := by
  have hT := hit.typeIs
  obtain ⟨o, es, ep, t, first, oi, h1, h2, h3, h4, h5, h6, h7, h8, h9⟩ := hit
  have hi : i < es.size := by
    rw [← h5]
    exact (List.getElem?_eq_some_iff.mp hx).1
  unfold pyNext
  refine wpAny_bind (wpAny_attempt (wpAny_callSpecial?_slot (name := Str.ofString "__next__") hT slot_setit_next
    (wpAny_call_entry slot_setit_next hT entry_setit_next ?_ (args_setit_next _))))
  unfold Builtin.«set_iterator.__next__»
  refine wpAny_bind (wpAny_pure ?_)
  dsimp only
  refine wpAny_bind (wpAny_fieldsOf h6 h8 ?_)
  show wpAny _ _ (setEntries a >>= _) _ _ s
  refine wpAny_bind (wpAny_setEntries_of h1 h2 h3 ?_)
  rw [if_neg (by simp)]
  have sb : ∀ (h' : Heap) (b : Addr) (o : Obj), Heap.SameBut it s.heap h' → b ≠ it → s.heap.get? b = some o → h'.get? b = some o := fun h' b o z hb e => (z.2 b hb).trans e
  rcases h9 with ⟨z1, rfl, rfl⟩ | ⟨z1, ps, ot, rfl, z3, z4, z5⟩ | ⟨z1, zd, slot, rfl, z3, rfl⟩
  · show wpAny _ _ (setNext a (0 : Int).toNat ((i : Int)).toNat ((ep : Int)).toNat >>= _) _ _ s
    refine wpAny_bind ?_
    unfold setNext
    refine wpAny_bind (wpAny_setState_of h1 h2 h3 ?_)
    dsimp only
    unfold setsByText
    refine wpAny_bind (wpAny_bind (wpAny_askSetting (wpAny_pure ?_)))
    show wpAny _ _ (if w.params.followText "set-order" = true then _ else _) _ _ s
    rw [if_pos z1]
    rw [if_neg (by simp)]
    refine wpAny_bind ?_
    unfold setWalk
    refine wpAny_bind (wpAny_setState_of h1 h2 h3 ?_)
    dsimp only
    unfold setsByText
    refine wpAny_bind (wpAny_bind (wpAny_askSetting (wpAny_pure ?_)))
    show wpAny _ _ (if w.params.followText "set-order" = true then _ else _) _ _ s
    rw [if_pos z1]
    refine wpAny_bind (wpAny_askSetting (wpAny_pure ?_))
    refine wpAny_pure ?_
    have ex : ((pickOrder (w.params.setOrder a ep) es)[((i : Int)).toNat]?).map (fun e => (e.2, (0 : Int).toNat)) = some (x, 0) := by
      rw [List.getElem?_map] at hx
      rw [Int.toNat_natCast, ← Array.getElem?_toList]
      cases e : (pickOrder (w.params.setOrder a ep) es).toList[i]? with
      | none => rw [e] at hx; cases hx
      | some y => rw [e] at hx; simp at hx; subst hx; rfl
    show wpAny _ _ (match ((pickOrder (w.params.setOrder a ep) es)[((i : Int)).toNat]?).map (fun e => (e.2, (0 : Int).toNat)) with | some (x, next) => _ | none => _) _ _ s
    rw [ex]
    dsimp only
    refine wpAny_bind (wpAny_setField h6 h8 (by simp) ?_)
    obtain ⟨o1, g1, c1, d1⟩ := get_mapFields (i := 0) (x := rawInt ((0 : Nat) : Int)) h6 h8
    refine wpAny_bind (wpAny_setField (s := { s with heap := _ }) g1 d1 (by simp) ?_)
    obtain ⟨o2, g2, c2, d2⟩ := get_mapFields (i := 1) (x := rawInt ((i : Int) + 1)) g1 d1
    have S := (Heap.SameBut.update s.heap it (Obj.mapFields (·.setIfInBounds 0 (rawInt ((0 : Nat) : Int))))).trans (Heap.SameBut.update _ it (Obj.mapFields (·.setIfInBounds 1 (rawInt ((i : Int) + 1)))))
    refine wpAny_pure ⟨x, rfl, wpAny_pure (hQ _ ?_ S)⟩
    exact ⟨o, es, ep, t, rawInt 0, o2, sb _ _ _ S hne h1, h2, h3, h4, h5, g2, c2.trans (c1.trans h7), by rw [d2]; simp, .inl ⟨z1, rfl, rfl⟩⟩
  · obtain ⟨p, hp, hv⟩ := paired_get z5 hx
    show wpAny _ _ (seqItems? (.ref tp) >>= _) _ _ s
    refine wpAny_bind (wpAny_seqItems z3 z4 ?_)
    dsimp only
    have ex : (ps.map fun (p : Nat) => rawInt (p : Int)).toArray[((i : Int)).toNat]? = some (.int (p : Int) 0) := by
      rw [Int.toNat_natCast]
      simp [hp, rawInt]
    show wpAny _ _ (match (ps.map fun (p : Nat) => rawInt (p : Int)).toArray[((i : Int)).toNat]? with | some (.int place _) => _ | some _ => _ | none => _) _ _ s
    rw [ex]
    dsimp only
    refine wpAny_bind ?_
    unfold setNextDrawn
    refine wpAny_bind (wpAny_setState_of h1 h2 h3 ?_)
    dsimp only
    rw [if_neg (by simp)]
    cases e : es[p]? with
    | none => rw [e] at hv; cases hv
    | some y =>
      rw [e] at hv
      have hv' : y.2 = x := Option.some.inj hv
      subst hv'
      rw [Int.toNat_natCast, e]
      refine wpAny_pure ?_
      refine wpAny_bind (wpAny_setField h6 h8 (by simp) ?_)
      obtain ⟨o2, g2, c2, d2⟩ := get_mapFields (i := 1) (x := rawInt ((i : Int) + 1)) h6 h8
      have S := Heap.SameBut.update s.heap it (Obj.mapFields (·.setIfInBounds 1 (rawInt ((i : Int) + 1))))
      refine wpAny_pure ⟨y.2, rfl, wpAny_pure (hQ _ ?_ S)⟩
      exact ⟨o, es, ep, t, .ref tp, o2, sb _ _ _ S hne h1, h2, h3, h4, h5, g2, c2.trans h7, by rw [d2]; simp, .inr (.inl ⟨z1, ps, ot, rfl, sb _ _ _ S hnt z3, z4, z5⟩)⟩
  · show wpAny _ _ (setNext a ((slot : Int)).toNat ((i : Int)).toNat ((ep : Int)).toNat >>= _) _ _ s
    refine wpAny_bind ?_
    unfold setNext
    refine wpAny_bind (wpAny_setState_of h1 h2 h3 ?_)
    dsimp only
    unfold setsByText
    refine wpAny_bind (wpAny_bind (wpAny_askSetting (wpAny_pure ?_)))
    show wpAny _ _ (if w.params.followText "set-order" = true then _ else _) _ _ s
    rw [if_neg (by rw [z1]; exact Bool.false_ne_true)]
    show wpAny _ _ (if (!t.plain && decide (es.size > 1)) = true then _ else _) _ _ s
    rw [if_neg (by rw [zd]; exact Bool.false_ne_true)]
    have hled : t.led = true := by rw [h4.led, z1]; rfl
    show wpAny _ _ ((if (!t.led && !es.isEmpty) = true then _ else _) >>= _) _ _ s
    rw [if_neg (by rw [hled]; simp)]
    refine wpAny_bind (wpAny_pure ?_)
    refine wpAny_pure ?_
    have hps : t.place.size = es.size := by
      simp only [SetTable.fits, Bool.and_eq_true, beq_iff_eq] at h3
      exact h3.1
    have hx' : es[i].2 = x := by
      rw [List.getElem?_map] at hx
      have e : es.toList[i]? = some es[i] := by rw [Array.getElem?_toList, Array.getElem?_eq_getElem hi]
      rw [e] at hx
      exact Option.some.inj hx
    rw [Int.toNat_natCast, z3, Array.getElem?_eq_getElem hi, Array.getElem?_eq_getElem (by omega : i < t.place.size)]
    dsimp only
    refine wpAny_bind (wpAny_setField h6 h8 (by simp) ?_)
    obtain ⟨o1, g1, c1, d1⟩ := get_mapFields (i := 0) (x := rawInt ((t.place[i]'(by omega) + 1 : Nat) : Int)) h6 h8
    refine wpAny_bind (wpAny_setField (s := { s with heap := _ }) g1 d1 (by simp) ?_)
    obtain ⟨o2, g2, c2, d2⟩ := get_mapFields (i := 1) (x := rawInt ((i : Int) + 1)) g1 d1
    have S := (Heap.SameBut.update s.heap it (Obj.mapFields (·.setIfInBounds 0 (rawInt ((t.place[i]'(by omega) + 1 : Nat) : Int))))).trans (Heap.SameBut.update _ it (Obj.mapFields (·.setIfInBounds 1 (rawInt ((i : Int) + 1)))))
    subst hx'
    refine wpAny_pure ⟨es[i].2, rfl, wpAny_pure (hQ _ ?_ S)⟩
    exact ⟨o, es, ep, t, rawInt ((t.place[i]'(by omega) + 1 : Nat) : Int), o2, sb _ _ _ S hne h1, h2, h3, h4, h5, g2, c2.trans (c1.trans h7), by rw [d2]; simp, .inr (.inr ⟨z1, zd, _, rfl, below_succ h4.rise (by omega), rfl⟩)⟩
theorem setit_end {it a tp : Addr} {vs : List Value} {Q : Option Value → Shared → Prop} (hh : A.handled = none) (hne : a ≠ it) (hit : SetIt w s.heap it a tp vs vs.length)
    (hQ : ∀ h', Heap.ExtBut it s.heap h' → Q none { s with heap := h' }) : wpAny (model prog w) A (pyNext (.ref it)) Q E s := by
  have hT := hit.typeIs
  obtain ⟨o, es, ep, t, first, oi, h1, h2, h3, h4, h5, h6, h7, h8, h9⟩ := hit
  have fin : ∀ (h' : Heap), Heap.ExtBut it s.heap h' → wpAny (model prog w) A.in1 (newExc (.type "StopIteration") [] >>= fun e => raiseNew e) (fun (_ : Fin) _ => False) (fun e s' => (∃ oe, s'.heap.get? (match e with | .ref b => b | _ => 0) = some oe ∧ oe.cls = .type "StopIteration" ∧ ∃ b, e = .ref b) ∧ ∃ h2, s' = { s with heap := h2 } ∧ Heap.ExtBut it s.heap h2) { s with heap := h' } := by
    intro h' he
    refine wpAny_bind ?_
    simp only [newExc, newTuple]
    refine wpAny_bind (wpAny_newObj_type ?_ (by size_fits))
    refine wpAny_bind (m := firstArgMember _ _) (wpAny_of_eq (a := Value.none) (by first | rfl | (simp only [firstArgMember]; rfl)) ?_)
    refine wpAny_newObj_type ?_ (by size_fits)
    simp only [raiseNew]
    refine wpAny_bind (wpAny_handled ?_)
    rw [show A.in1.handled = none from hh]
    refine wpAny_bind (wpAny_pure (wpAny_throw ?_))
    exact ⟨⟨_, Heap.get?_push_size _ rfl, rfl, _, rfl⟩, _, rfl, (he.push _).push _⟩
  have fin2 : ∀ (e : Value) (s' : Shared), ((∃ oe, s'.heap.get? (match e with | .ref b => b | _ => 0) = some oe ∧ oe.cls = .type "StopIteration" ∧ ∃ b, e = .ref b) ∧ ∃ h2, s' = { s with heap := h2 } ∧ Heap.ExtBut it s.heap h2) →
      wpAny (model prog w) A (do if ← isInstance e (.type "StopIteration") then pure none else throw e) Q E s' := by
    rintro e s' ⟨⟨oe, e1, e2, b, rfl⟩, h2, rfl, e3⟩
    refine wpAny_bind (wpAny_isInstance (T := "StopIteration") (b := true) ⟨_, e1, e2⟩ isSubtype_stop ?_)
    exact wpAny_pure (hQ _ e3)
  unfold pyNext
  refine wpAny_bind (wpAny_attempt (wpAny_mono (wpAny_callSpecial?_slot (Q := fun _ _ => False) (name := Str.ofString "__next__") hT slot_setit_next
    (wpAny_call_entry slot_setit_next hT entry_setit_next ?_ (args_setit_next _))) (fun _ _ z => z.elim) fun e s' z => fin2 e s' z))
  unfold Builtin.«set_iterator.__next__»
  refine wpAny_bind (wpAny_pure ?_)
  dsimp only
  refine wpAny_bind (wpAny_fieldsOf h6 h8 ?_)
  show wpAny _ _ (setEntries a >>= _) _ _ s
  refine wpAny_bind (wpAny_setEntries_of h1 h2 h3 ?_)
  rw [if_neg (by simp)]
  rcases h9 with ⟨z1, rfl, hvs⟩ | ⟨z1, ps, ot, rfl, z3, z4, z5⟩ | ⟨z1, zd, slot, rfl, z3, hvs⟩
  · show wpAny _ _ (setNext a (0 : Int).toNat ((vs.length : Int)).toNat ((ep : Int)).toNat >>= _) _ _ s
    refine wpAny_bind ?_
    unfold setNext
    refine wpAny_bind (wpAny_setState_of h1 h2 h3 ?_)
    dsimp only
    unfold setsByText
    refine wpAny_bind (wpAny_bind (wpAny_askSetting (wpAny_pure ?_)))
    show wpAny _ _ (if w.params.followText "set-order" = true then _ else _) _ _ s
    rw [if_pos z1]
    rw [if_neg (by simp)]
    refine wpAny_bind ?_
    unfold setWalk
    refine wpAny_bind (wpAny_setState_of h1 h2 h3 ?_)
    dsimp only
    unfold setsByText
    refine wpAny_bind (wpAny_bind (wpAny_askSetting (wpAny_pure ?_)))
    show wpAny _ _ (if w.params.followText "set-order" = true then _ else _) _ _ s
    rw [if_pos z1]
    refine wpAny_bind (wpAny_askSetting (wpAny_pure ?_))
    refine wpAny_pure ?_
    have ex : ((pickOrder (w.params.setOrder a ep) es)[((vs.length : Int)).toNat]?).map (fun e => (e.2, (0 : Int).toNat)) = none := by
      rw [Int.toNat_natCast, Array.getElem?_eq_none]
      · rfl
      · rw [hvs, List.length_map, Array.length_toList]; exact Nat.le_refl _
    show wpAny _ _ (match ((pickOrder (w.params.setOrder a ep) es)[((vs.length : Int)).toNat]?).map (fun e => (e.2, (0 : Int).toNat)) with | some (x, next) => _ | none => _) _ _ s
    rw [ex]
    dsimp only
    refine wpAny_bind (wpAny_setField h6 h8 (by simp) ?_)
    exact wpAny_mono (fin _ (Heap.SameBut.update ..).extBut) (fun _ _ z => z.elim) fun _ _ z => z
  · show wpAny _ _ (seqItems? (.ref tp) >>= _) _ _ s
    refine wpAny_bind (wpAny_seqItems z3 z4 ?_)
    dsimp only
    have ex : (ps.map fun (p : Nat) => rawInt (p : Int)).toArray[((vs.length : Int)).toNat]? = none := by
      rw [Int.toNat_natCast, Array.getElem?_eq_none]
      simp [paired_len z5]
    show wpAny _ _ (match (ps.map fun (p : Nat) => rawInt (p : Int)).toArray[((vs.length : Int)).toNat]? with | some (.int place _) => _ | some _ => _ | none => _) _ _ s
    rw [ex]
    dsimp only
    refine wpAny_bind (wpAny_setField h6 h8 (by simp) ?_)
    obtain ⟨o1, g1, c1, d1⟩ := get_mapFields (i := 0) (x := rawInt 0) h6 h8
    refine wpAny_bind (wpAny_setField (s := { s with heap := _ }) g1 d1 (by simp) ?_)
    exact wpAny_mono (fin _ ((Heap.SameBut.update ..).trans (Heap.SameBut.update ..)).extBut) (fun _ _ z => z.elim) fun _ _ z => z
  · show wpAny _ _ (setNext a ((slot : Int)).toNat ((vs.length : Int)).toNat ((ep : Int)).toNat >>= _) _ _ s
    refine wpAny_bind ?_
    unfold setNext
    refine wpAny_bind (wpAny_setState_of h1 h2 h3 ?_)
    dsimp only
    unfold setsByText
    refine wpAny_bind (wpAny_bind (wpAny_askSetting (wpAny_pure ?_)))
    show wpAny _ _ (if w.params.followText "set-order" = true then _ else _) _ _ s
    rw [if_neg (by rw [z1]; exact Bool.false_ne_true)]
    show wpAny _ _ (if (!t.plain && decide (es.size > 1)) = true then _ else _) _ _ s
    rw [if_neg (by rw [zd]; exact Bool.false_ne_true)]
    have hled : t.led = true := by rw [h4.led, z1]; rfl
    show wpAny _ _ ((if (!t.led && !es.isEmpty) = true then _ else _) >>= _) _ _ s
    rw [if_neg (by rw [hled]; simp)]
    refine wpAny_bind (wpAny_pure ?_)
    refine wpAny_pure ?_
    rw [Int.toNat_natCast, z3, Array.getElem?_eq_none (by omega : es.size ≤ vs.length)]
    dsimp only
    refine wpAny_bind (wpAny_setField h6 h8 (by simp) ?_)
    exact wpAny_mono (fin _ (Heap.SameBut.update ..).extBut) (fun _ _ z => z.elim) fun _ _ z => z
end
end L2
namespace L2
open PySem PySem.Spec PyProof.Rows
section
variable {prog : Program} {w : World} {K : Type} [DecidableEq K] {knd : KeyKind prog w K} {A : Around} {E : Value → Shared → Prop} {s : Shared}
theorem paired_map {α β γ : Type} {R : α → γ → Prop} {f : β → γ} : ∀ {xs : List α} {ys : List β}, Paired (fun a b => R a (f b)) xs ys → Paired R xs (ys.map f)
  | _, _, .nil => .nil
  | _, _, .cons r t => .cons r (paired_map t)
theorem paired_range (es : Array (Int × Value)) : Paired (fun (p : Nat) (v : Value) => (es[p]?).map (·.2) = some v) (List.range es.size) (es.toList.map (·.2)) := by
  have gen : ∀ (l : List (Int × Value)) (k : Nat), (∀ j, es[k + j]? = l[j]?) → Paired (fun (p : Nat) (v : Value) => (es[p]?).map (·.2) = some v) ((List.range l.length).map (k + ·)) (l.map (·.2)) := by
    intro l
    induction l with
    | nil => intro k _; exact .nil
    | cons a r ih =>
      intro k h
      rw [List.length_cons, List.range_succ_eq_map, List.map_cons, List.map_map, List.map_cons]
      refine .cons ?_ ?_
      · have := h 0
        simp at this
        show (es[k + 0]?).map (·.2) = _
        rw [Nat.add_zero, this]; rfl
      · have := ih (k + 1) (fun j => by have := h (j + 1); simp at this; rw [Nat.add_assoc, Nat.add_comm 1 j]; exact this)
        have e : ((fun x => k + x) ∘ Nat.succ) = (fun x => k + 1 + x) := by funext x; show k + (x + 1) = _; omega
        rw [e]
        exact this
  have h := gen es.toList 0 (fun j => by simp)
  have e1 : (List.range es.toList.length).map (0 + ·) = List.range es.size := by
    have : (fun x : Nat => 0 + x) = id := by funext x; simp
    rw [this, List.map_id, Array.length_toList]
  rw [e1] at h
  exact h
theorem paired_perm' {α β : Type} {R : α → β → Prop} {l1 l1' : List α} (p : l1.Perm l1') : ∀ {l2 : List β}, Paired R l1 l2 → ∃ l2', l2.Perm l2' ∧ Paired R l1' l2' := by
  induction p with
  | nil => intro l1 h; exact ⟨l1, .refl _, h⟩
  | cons x _ ih =>
    intro l1 h
    cases h with
    | cons r t => obtain ⟨l, p, q⟩ := ih t; exact ⟨_ :: l, p.cons _, .cons r q⟩
  | swap x y l =>
    intro l1 h
    cases h with
    | cons r t => cases t with | cons r' t' => exact ⟨_, .swap _ _ _, .cons r' (.cons r t')⟩
  | trans _ _ ih1 ih2 =>
    intro l1 h
    obtain ⟨l, p, q⟩ := ih1 h
    obtain ⟨l', p', q'⟩ := ih2 q
    exact ⟨l', p.trans p', q'⟩
theorem pyIter_setW {a : Addr} {ks : List K} {Q : Value → Shared → Prop} (hS : SetW knd s.heap a ks)
    (h : ∀ it tp h' d vs, (∀ b o, s.heap.get? b = some o → h'.get? b = some o) → a ≠ it → tp ≠ it → s.heap.objs.size ≤ it → (tp = a ∨ s.heap.objs.size ≤ tp) → SetIt w h' it a tp vs 0 → (∃ ks' : List K, ks.Perm ks' ∧ Paired (fun (k : K) (v : Value) => knd.is k v = true) ks' vs) → Q (.ref it) { s with heap := h', drawn := d }) :
    wpAny (model prog w) A (pyIter (.ref a)) Q E s := by
  have hT := hS.typeIs
  obtain ⟨o, es, ep, t, ho, hex, hd, hel, hpr, hnd, hb, hf, ht⟩ := hS
  have hpv := paired_map (f := fun (e : Int × Value) => e.2) (R := fun (k : K) (v : Value) => knd.is k v = true) hpr
  have halt : a < s.heap.objs.size := Heap.lt_size ho
  refine wpAny_pyIter_slot hT PySem.F.slot_set_iter (wpAny_call_entry PySem.F.slot_set_iter hT entry_set_iter' ?_ (PySem.F.args_set_iter_1 _))
  unfold Builtin.«frozenset.__iter__»
  show wpAny _ _ (Builtin.Frozenset.sizeOf a >>= _) _ _ s
  unfold Builtin.Frozenset.sizeOf
  refine wpAny_bind (wpAny_bind (wpAny_setEntries_of ho hd hf (wpAny_pure ?_)))
  refine wpAny_bind ?_
  refine wpAny_bind (wpAny_setState_of ho hd hf ?_)
  dsimp only
  unfold setsByText
  refine wpAny_bind (wpAny_bind (wpAny_askSetting (wpAny_pure ?_)))
  refine wpAny_pure ?_
  show wpAny _ _ (if (!w.params.followText "set-order" && (!t.plain && decide (es.size > 1))) = true then _ else _) _ _ s
  by_cases hc : (!w.params.followText "set-order" && (!t.plain && decide (es.size > 1))) = true
  · rw [if_pos hc]
    have hbt : w.params.followText "set-order" = false := by simp at hc; exact hc.1
    refine wpAny_bind (wpAny_drawOrder es.size (List.range es.size) (by simp) fun l d p => ?_)
    have hll : l.length = es.size := by rw [p.length_eq, List.length_range]
    refine wpAny_bind (wpAny_newTuple ?_ (by rw [List.length_map, hll]; exact fits_of_scanBound hb))
    have ho1 := Heap.get?_push_of_some ({ cls := .type "tuple", data := .seq (l.map fun (i : Nat) => rawInt (i : Int)).toArray } : Obj) ho
    refine wpAny_bind ?_
    unfold setEpoch
    refine wpAny_bind (wpAny_setState_of (s := { s with heap := _, drawn := d }) ho1 hd hf (wpAny_pure ?_))
    refine wpAny_bind (wpAny_newObj_type (wpAny_pure ⟨_, rfl, "set_iterator", _, ⟨_, Heap.get?_push_size _ rfl, rfl⟩, slot_setit_next.lookup, ?_⟩))
    obtain ⟨vs, pv, hvs⟩ := paired_perm' p.symm (paired_range es)
    have hv2 := paired_perm pv hpv
    dsimp only
    refine h (s.heap.push { cls := .type "tuple", data := .seq (l.map fun (i : Nat) => rawInt (i : Int)).toArray }).objs.size s.heap.objs.size _ d vs (fun b o e => Heap.get?_push_of_some _ (Heap.get?_push_of_some _ e)) ?_ ?_ ?_ (.inr (Nat.le_refl _)) ?_ hv2
    · rw [Heap.size_push]; exact Nat.ne_of_lt (Nat.lt_succ_of_lt halt)
    · rw [Heap.size_push]; exact Nat.ne_of_lt (Nat.lt_succ_self _)
    · rw [Heap.size_push]; exact Nat.le_succ _
    · exact ⟨o, es, ep, t, .ref s.heap.objs.size, _, Heap.get?_push_of_some _ ho1, hd, hf, ht, by rw [← paired_len hvs, hll], Heap.get?_push_size _ rfl, rfl, rfl, .inr (.inl ⟨hbt, l, _, rfl, Heap.get?_push_of_some _ (Heap.get?_push_size _ rfl), rfl, hvs⟩)⟩
  · rw [if_neg hc]
    refine wpAny_bind (wpAny_pure ?_)
    refine wpAny_bind ?_
    unfold setEpoch
    refine wpAny_bind (wpAny_setState_of ho hd hf (wpAny_pure ?_))
    refine wpAny_bind (wpAny_newObj_type (wpAny_pure ⟨_, rfl, "set_iterator", _, ⟨_, Heap.get?_push_size _ rfl, rfl⟩, slot_setit_next.lookup, ?_⟩))
    have hit : ∀ vs, vs.length = es.size → ((w.params.followText "set-order" = true ∧ (rawInt 0 : Value) = rawInt 0 ∧ vs = (pickOrder (w.params.setOrder a ep) es).toList.map (·.2)) ∨
       (w.params.followText "set-order" = false ∧ (!t.plain && decide (es.size > 1)) = false ∧ ∃ slot : Nat, (rawInt 0 : Value) = rawInt (slot : Int) ∧ SetTable.below t.place slot = 0 ∧ vs = es.toList.map (·.2))) →
       SetIt w (s.heap.push { cls := .type "set_iterator", data := .fields [rawInt 0, rawInt 0, .ref a, rawInt (es.size : Int), rawInt (ep : Int)].toArray }) s.heap.objs.size a a vs 0 := fun vs hl z =>
      ⟨o, es, ep, t, rawInt 0, _, Heap.get?_push_of_some _ ho, hd, hf, ht, hl, Heap.get?_push_size _ rfl, rfl, rfl, z.elim .inl fun z => .inr (.inr z)⟩
    have e : s = { s with drawn := s.drawn } := by cases s; rfl
    have fin : ∀ vs, (∃ ks' : List K, ks.Perm ks' ∧ Paired (fun (k : K) (v : Value) => knd.is k v = true) ks' vs) → SetIt w (s.heap.push { cls := .type "set_iterator", data := .fields [rawInt 0, rawInt 0, .ref a, rawInt (es.size : Int), rawInt (ep : Int)].toArray }) s.heap.objs.size a a vs 0 →
        Q (.ref s.heap.objs.size) { s with heap := s.heap.push { cls := .type "set_iterator", data := .fields [rawInt 0, rawInt 0, .ref a, rawInt (es.size : Int), rawInt (ep : Int)].toArray } } := fun vs hv z =>
      h s.heap.objs.size a _ s.drawn vs (fun b o e => Heap.get?_push_of_some _ e) (Nat.ne_of_lt halt) (Nat.ne_of_lt halt) (Nat.le_refl _) (.inl rfl) z hv
    by_cases hbt : w.params.followText "set-order" = true
    · have pp := (pick_perm (w.params.setOrder a ep) es).map (fun (e : Int × Value) => e.2)
      exact fin _ (paired_perm pp.symm hpv) (hit _ (by rw [List.length_map, (pick_perm _ es).length_eq, Array.length_toList]) (.inl ⟨hbt, rfl, rfl⟩))
    · have hbt' : w.params.followText "set-order" = false := by simpa using hbt
      have hdr : (!t.plain && decide (es.size > 1)) = false := by
        rw [hbt'] at hc
        simpa using hc
      exact fin _ ⟨ks, .refl _, hpv⟩ (hit _ (by rw [List.length_map, Array.length_toList]) (.inr ⟨hbt', hdr, 0, rfl, below_zero ht.rise, rfl⟩))
theorem walks_set (hh : A.handled = none) {it a tp : Addr} (hne : a ≠ it) (hnt : tp ≠ it) (vs : List Value) : Walks prog w A it [it, a, tp] [it] vs.length (fun i v => vs[i]? = some v) (fun i h => SetIt w h it a tp vs i) where
  sub := fun b hb => by simp at hb; simp [hb]
  frame := fun _ _ _ st hk => st.frame fun b hb o e => hk b (by simp; exact hb) o e
  item := fun i s Q E hi st hQ => by
    refine setit_item hne hnt st (List.getElem?_eq_getElem hi) fun h' st' sb => ?_
    exact hQ _ h' s.toks (List.getElem?_eq_getElem hi) st' fun b o hb e => sb.extBut b o (fun h => hb (by simp [h])) e
  done := fun s Q E st hQ => setit_end hh hne st fun h' he' => hQ h' s.toks fun b o hb e => he' b o (fun h => hb (by simp [h])) e
  self := fun i s Q E st hQ => by
    have hT := SetIt.typeIs (s := s) st
    refine wpAny_pyIter_slot hT slot_setit_iter (wpAny_call_entry slot_setit_iter hT entry_setit_iter ?_ (args_setit_iter _))
    show wpAny _ _ (ret (.ref it)) _ _ s
    exact wpAny_pure ⟨_, rfl, "set_iterator", _, hT, slot_setit_next.lookup, hQ⟩
theorem hint_set {r : Addr} {Q : Bool → Shared → Prop} (hT : s.TypeIs (.ref r) "set") (h : Q false s) : wpAny (model prog w) A (Builtin.List.listLengthHint (.ref r)) Q E s := by
  unfold Builtin.List.listLengthHint
  refine wpAny_bind (wpAny_specialOf hT PySem.F.slot_set_len.lookup ?_)
  generalize hid : ("set.__len__" : String) = id0
  wp_delta
  rw [show splitId id0 = some ("set", "__len__") from by subst hid; decide +kernel]
  subst hid
  refine wpAny_bind (wpAny_isInstance (T := "set") (b := true) hT (by rw [isSubtype_type]; kernel_rfl) ?_)
  refine wpAny_ite_split (fun hab => absurd hab (by decide)) (fun _ => ?_)
  refine wpAny_ite_split (fun _ => ?_) (fun hab => absurd (by decide +kernel) hab)
  refine wpAny_bind (wpAny_typeOf hT ?_)
  exact wpAny_pure h
theorem collect_setW {a : Addr} {ks : List K} {R : List Value → Shared → Prop} (hh : A.handled = none) (hS : SetW knd s.heap a ks) (hn : ks.length ≤ sizeLine)
    (h : ∀ (h' : Heap) tk d vs, (∀ b o, s.heap.get? b = some o → h'.get? b = some o) → s.heap.objs.size ≤ h'.objs.size → (∃ ks' : List K, ks.Perm ks' ∧ Paired (fun (k : K) (v : Value) => knd.is k v = true) ks' vs) → R vs { s with heap := h', toks := tk, drawn := d }) :
    wpAny (model prog w) A (collect (.ref a)) R E s := by
  obtain ⟨ol, _, _, _, hol, _⟩ := id hS
  have hlt : a < s.heap.objs.size := Heap.lt_size hol
  unfold collect
  refine wpAny_bind (wpAny_runValue (codeAny_builtin entry_proto_collect' ?_))
  rw [Around.under_plainId PySem.F.plain_proto_collect _]
  show wpAny _ A.in1 (newList [] >>= fun l => again (.builtin "list.__iadd__" ⟨[l, .ref a], []⟩)) _ _ s
  refine wpAny_bind (wpAny_newObj_type ?_)
  refine wpAny_pure ⟨plainId_quiet PySem.F.plain_list_iadd _, codeAny_builtin entry_list_iadd' ?_⟩
  rw [Around.under_plainId PySem.F.plain_list_iadd _]
  generalize hH1 : s.heap.push { cls := .type "list", data := .seq ([] : List Value).toArray } = H1
  have hS₁ : H1.get? s.heap.objs.size = some { cls := .type "list", data := .seq #[] } := hH1 ▸ Heap.get?_push_size _ rfl
  have k1 : ∀ b o, s.heap.get? b = some o → H1.get? b = some o := fun b o e => hH1 ▸ Heap.get?_push_of_some _ e
  have hsz : H1.objs.size = s.heap.objs.size + 1 := by rw [← hH1, Heap.size_push]
  have hS1 : SetW knd H1 a ks := hS.at' fun o e => k1 _ _ e
  show wpAny _ A.in1 (Builtin.List.listExtendWith (.ref s.heap.objs.size) (.ref a) (.ref s.heap.objs.size)) _ _ { s with heap := H1 }
  have haS : a ≠ s.heap.objs.size := Nat.ne_of_lt hlt
  have hltS : ∀ b o, s.heap.get? b = some o → b ≠ s.heap.objs.size := fun b o e => Nat.ne_of_lt (Heap.lt_size e)
  have hlti : ∀ b o (it : Addr), s.heap.get? b = some o → H1.objs.size ≤ it → b ≠ it := fun b o it e hi => Nat.ne_of_lt (Nat.lt_of_lt_of_le (Heap.lt_size (k1 b o e)) hi)
  have hSi : ∀ it : Addr, H1.objs.size ≤ it → s.heap.objs.size ≠ it := fun it hi => Nat.ne_of_lt (Nat.lt_of_lt_of_le (Heap.lt_size hS₁) hi)
  generalize hSS : s.heap.objs.size = S at *
  unfold Builtin.List.listExtendWith
  refine wpAny_bind (wpAny_typeOf (T := "set") (SetW.typeIs (s := { s with heap := H1 }) hS1) ?_)
  have h1 : Builtin.List.listSameRef (.ref S) (.ref a) = false := by simp [Builtin.List.listSameRef, haS.symm]
  have h2 : (Value.type "set" == Value.type "list") = false := by decide
  have h3 : (Value.type "set" == Value.type "tuple") = false := by decide
  simp only [h1, h2, h3, Bool.or_false, Bool.false_eq_true, if_false]
  refine wpAny_bind (pyIter_setW (knd := knd) (s := { s with heap := H1 }) hS1 fun it tp h' d vs k2 n1 n2 n3 n4 st hv => ?_)
  have hSit : S ≠ it := hSi it n3
  have hStp : S ≠ tp := by
    rcases n4 with rfl | n4
    · exact haS.symm
    · exact hSi tp n4
  have hSf : S ∉ [it, a, tp] := by simp only [List.mem_cons, List.not_mem_nil, or_false, not_or]; exact ⟨hSit, haS.symm, hStp⟩
  have W := walks_set (prog := prog) (w := w) (A := A.in1) (by simp [hh]) n1 n2 vs
  have hvl : vs.length = ks.length := by
    obtain ⟨ks', p, q⟩ := hv
    rw [← paired_len q, p.length_eq]
  have key : ∀ (h : Heap) (c₁ tk : Nat), SetIt w h it a tp vs 0 → (∀ b o, b ≠ S → s.heap.get? b = some o → h.get? b = some o) →
      h.get? S = some { cls := .type "list", data := .seq #[] c₁ } → codeAny (model prog w) A (.builtin "list.extend.loop" ⟨[.ref S, .ref it, .ref S], []⟩)
        (fun (q : Result) (s' : Shared) => ∃ (h' : Heap) (tk : Nat) (acc' : Array Value) (c' : Nat), q = .ok (.ret (.ref S)) ∧ s' = { s with heap := h', toks := tk, drawn := d } ∧
      (∀ b o, b ≠ S → b ≠ it → s.heap.get? b = some o → h'.get? b = some o) ∧ h'.get? S = some { cls := .type "list", dict := none, data := .seq acc' c', slots := #[] } ∧ acc'.toList = vs) { s with heap := h, toks := tk, drawn := d } := by
    intro h c₁ tk hst hk hS₁
    refine codeAny_extend_loopS W.toS (by rw [hvl]; exact hn) S hSf (.ref S) vs.length 0 _ #[] c₁ rfl (Nat.zero_le _) hst hS₁ (ItemsOf.nil _) fun s' acc' c' hm hS' hacc => ?_
    rw [Moved.eq_with hm]
    refine ⟨s'.heap, s'.toks, acc', c', rfl, rfl, fun b o hb hbi e => hm.heap b o (fun hmem => ?_) (hk b o hb e), hS', ?_⟩
    · rcases List.mem_cons.mp hmem with e' | hmem
      · exact hb e'
      · exact hbi (List.mem_singleton.mp hmem)
    · apply List.ext_getElem
      · rw [Array.length_toList, hacc.1]
      · intro j j1 j2
        have : vs[j]? = some acc'.toList[j] := hacc.2 j acc'.toList[j] (by rw [← Array.getElem?_toList, List.getElem?_eq_getElem j1])
        rw [List.getElem?_eq_getElem j2] at this
        exact (Option.some.inj this).symm
  have fin : ∀ (q : Result) (s' : Shared), (∃ (h' : Heap) (tk : Nat) (acc' : Array Value) (c' : Nat), q = .ok (.ret (.ref S)) ∧ s' = { s with heap := h', toks := tk, drawn := d } ∧
      (∀ b o, b ≠ S → b ≠ it → s.heap.get? b = some o → h'.get? b = some o) ∧ h'.get? S = some { cls := .type "list", dict := none, data := .seq acc' c', slots := #[] } ∧ acc'.toList = vs) →
      q = .ok (.ret (.ref S)) ∧ wpAny (model prog w) A (load S >>= fun o => (match o.data with | .seq xs _ => pure xs.toList | _ => unsupported "internal:collect")) R E s' := by
    rintro q s' ⟨h', tk, acc', c', rfl, rfl, hk, hS', rfl⟩
    refine ⟨rfl, ?_⟩
    refine wpAny_bind (wpAny_load hS' ?_)
    refine wpAny_pure (h h' tk d _ (fun b o e => hk b o ?_ ?_ e) (Nat.le_of_lt (Heap.lt_size hS')) hv)
    · exact hltS b o e
    · exact hlti b o it e n3
  have S2 := k2 _ _ hS₁
  refine wpAny_bind (wpAny_holding (hint_set (s := { s with heap := h', drawn := d }) (SetW.typeIs (knd := knd) (s := { s with heap := h', drawn := d }) (hS1.at' fun o e => k2 _ _ e)) ?_))
  refine wpAny_ite_split (fun _ => ?_) (fun _ => wpAny_pure ⟨plainId_quiet PySem.F.plain_extend_loop _, codeAny_mono (key _ 0 s.toks st (fun b o _ e => k2 _ _ (k1 _ _ e)) S2) fun q s' y => ?_⟩)
  · refine wpAny_bind (wpAny_rule ?_)
    refine wpAny_bind ?_
    show wpAny _ _ (updateSeq S (·.push .none) >>= fun _ => updateSeq S (·.pop)) _ _ _
    refine wpAny_bind (wpAny_updateSeq S2 rfl ?_)
    have S3 := Heap.get?_update_self (Obj.mapSeq (·.push Value.none)) S2 rfl
    refine wpAny_updateSeq (hz := by seq_fits) S3 rfl ?_
    have S4 := Heap.get?_update_self (Obj.mapSeq (·.pop)) S3 rfl
    refine wpAny_pure ⟨plainId_quiet PySem.F.plain_extend_loop _, codeAny_mono (key _ _ s.toks ?_ (fun b o hb e => ?_) S4) fun q s' y => ?_⟩
    · refine st.frame fun b hb o e => ?_
      have hbS : b ≠ S := by rcases hb with rfl | rfl | rfl; exact hSit.symm; exact haS; exact hStp.symm
      exact (Heap.get?_update_other _ _ (Ne.symm hbS)).trans ((Heap.get?_update_other _ _ (Ne.symm hbS)).trans e)
    · exact (Heap.get?_update_other _ _ (Ne.symm hb)).trans ((Heap.get?_update_other _ _ (Ne.symm hb)).trans (k2 _ _ (k1 _ _ e)))
    · obtain ⟨rfl, z⟩ := fin q s' y
      exact z
  · obtain ⟨rfl, z⟩ := fin q s' y
    exact z
end
end L2
namespace L2
open PySem PySem.Spec PyProof.Rows
section
variable {prog : Program} {w : World} {K : Type} [DecidableEq K] {knd : PySem.KeyKind prog w K} {A : Around} {E : Value → Shared → Prop} {s : Shared}
/-- sorted(a set): the list is made, then sorted -/
theorem sorted_setW {a : Addr} {ks : List K} {Q : Value → Shared → Prop} (hh : A.handled = none) (hS : SetW knd s.heap a ks) (hn : ks.length ≤ sizeLine)
    (h : ∀ (h' : Heap) (tk : Nat) (d : Drawn) (vs : List Value), (∀ b o, s.heap.get? b = some o → h'.get? b = some o) → s.heap.objs.size ≤ h'.objs.size → (∃ ks' : List K, ks.Perm ks' ∧ Paired (fun (k : K) (v : Value) => knd.is k v = true) ks' vs) →
      wpAny (model prog w) A.in1.in1 (Builtin.«list.sort» ⟨[.ref h'.objs.size], []⟩) (fun r s' => r = .done (.ret .none) ∧ Q (.ref h'.objs.size) s') E { s with heap := h'.push (seqObj "list" vs.toArray 0), toks := tk, drawn := d }) :
    wpAny (model prog w) A (call (.builtin "sorted") [.ref a]) Q E s := by
  refine Calls.call_function_entry kind_sorted plain_sorted entry_sorted (args_sorted1 _) ?_
  unfold Builtin.«sorted»
  refine wpAny_bind (m := checkCount "sorted" 1 1 _) (wpAny_pure ?_)
  refine wpAny_bind (collect_setW (knd := knd) (A := A.in1) (by simp [hh]) hS hn fun h' tk d vs k hle hv => ?_)
  have hvl : vs.length ≤ sizeLine := by
    obtain ⟨ks', p, q⟩ := hv
    rw [← paired_len q, ← p.length_eq]; exact hn
  refine wpAny_bind (wpAny_newList ?_ hvl)
  show wpAny _ _ _ _ _ { s with heap := h'.push (seqObj "list" vs.toArray 0), toks := tk, drawn := d }
  have hoL : (h'.push (seqObj "list" vs.toArray 0)).get? h'.objs.size = some (seqObj "list" vs.toArray 0) := Heap.get?_push_size _ rfl
  refine wpAny_bind (wpAny_holding (wpAny_call_entry slot_list_sort ⟨_, hoL, rfl⟩ entry_list_sort (wpAny_mono (h h' tk d vs k hle hv) (fun r s' z => ?_) fun _ _ z => z) (args_list_sort _)))
  obtain ⟨rfl, z⟩ := z
  exact ⟨_, rfl, wpAny_pure ⟨_, rfl, z⟩⟩
end
/-- a set of ints and texts -/
def SetO (P : Program) (w : World) (a : Addr) (ks : List Key) : HO := .ext fun h => SetW (mixKind P w) h a ks
section
variable {X : Cx}
theorem setO_ok {P : Program} {w : World} {H : Hp} {h : Heap} {a : Addr} {ks : List Key} (x : SetW (mixKind P w) h a ks) : ObjOk P w H h a (SetO P w a ks) := by
  refine ⟨x, ?_, fun h1 h2 y k => y.at' fun o e => k o e⟩
  obtain ⟨o, _, _, _, ho, _⟩ := x
  exact ⟨o, ho⟩
theorem kV_is2 {P : Program} {w : World} {k : Key} {v : Value} (r : RelV (kV k) v) : (mixKind P w).is k v = true ∧ v.scannable = true := by
  cases k with
  | inl i => obtain ⟨t, rfl⟩ := (show ∃ t, v = Value.int i t from r); exact ⟨keyIs_int i t, rfl⟩
  | inr x => obtain ⟨t, rfl⟩ := (show ∃ t, v = Value.str x t from r); exact ⟨keyIs_str x t, rfl⟩
/-- set(a list of ints and texts) -/
theorem call_set_of (hc : X.calm = true) : CallR X (.type "set") (fun xs H Q => ∃ (p : Addr) (kys : List Key), xs = [.ref p] ∧ SqL X.K H p (kys.map kV) ∧ kys.length ≤ 4000 ∧
    ∀ (l : Addr) (ks : List Key), H l = none → ks.Nodup → (∀ k, k ∈ ks ↔ k ∈ kys) → Q (.ref l) (upd H l (SetO X.prog X.w l ks))) := by
  intro pins s σ H xs us Q I r h
  obtain ⟨p, kys, rfl, hq, hl, q⟩ := h
  obtain ⟨u, rfl, rx⟩ := vals1 r
  cases rx
  obtain ⟨its, r', pl, hz⟩ := I.list hq
  have hlen := r'.length
  rw [List.length_map] at hlen
  have hh : X.A.handled = none := I.ok.hd hc
  refine call_set_keys (knd := mixKind X.prog X.w) (val := fun i => kys.getD i (.inl 0)) hh pl.isList (fun i v e => ?_) (by simp only [List.size_toArray]; unfold scanBound; omega) fun h' tk ks hS hD hk => ?_
  · have e' : its[i]? = some v := by simpa using e
    have hi : i < kys.length := by
      have := (List.getElem?_eq_some_iff.mp e').1
      omega
    obtain ⟨u, hu, ru⟩ := r'.get (i := i) (x := kV kys[i]) (by rw [List.getElem?_map, List.getElem?_eq_getElem hi]; rfl)
    rw [e'] at hu
    cases hu
    have e2 : kys.getD i (.inl 0) = kys[i] := by rw [List.getD_eq_getElem?_getD, List.getElem?_eq_getElem hi]; rfl
    rw [e2]
    exact kV_is2 ru
  · have hf : H s.heap.objs.size = none := I.hok.fresh (Nat.le_refl _)
    have hnd : ks.Nodup := by obtain ⟨_, _, _, _, _, _, _, _, _, z, _⟩ := hS; exact z
    refine ⟨.ref s.heap.objs.size, _, I.laid (t' := tk) (o := SetO X.prog X.w s.heap.objs.size ks) (fun b ob z => hk b ob (Heap.lt_size z) z) (Nat.le_refl _) (setO_ok hS), rfl, q _ ks hf hnd fun k => ?_⟩
    rw [hD.1]
    simp only [List.size_toArray]
    constructor
    · rintro ⟨j, hj, rfl⟩
      have hj' : j < kys.length := by omega
      rw [List.getD_eq_getElem?_getD, List.getElem?_eq_getElem hj']
      exact List.getElem_mem hj'
    · intro hm
      obtain ⟨j, hj, e⟩ := List.mem_iff_getElem.mp hm
      exact ⟨j, by omega, by rw [List.getD_eq_getElem?_getD, List.getElem?_eq_getElem hj, ← e]; rfl⟩
theorem Inv.laidD {pins : List (Addr × Obj)} {σ : St} {H : Hp} {s : Shared} {h' : Heap} {a : Addr} {o : HO} {tk : Nat} {d : Drawn} (I : Inv X pins σ H s) (k : ∀ b u, s.heap.get? b = some u → h'.get? b = some u) (hp : s.heap.objs.size ≤ a)
    (new : ObjOk X.prog X.w (upd H a o) h' a o) : Inv X pins σ (upd H a o) { s with heap := h', toks := tk, drawn := d } := by
  refine I.call' (s' := { s with heap := h', toks := tk, drawn := d }) (ch := []) rfl (Un.mono (Un.laid k hp (I.hok.fresh hp)) (fun _ z => z) (fun _ z => z)) (I.hok.laid k hp new) I.bare (fun b hb => nomatch hb)
theorem sorted_fin {pins : List (Addr × Obj)} {σ : St} {H : Hp} {s : Shared} {Q : VK} {h' : Heap} {tk : Nat} {d : Drawn} {vs : List Value} {out : Array Value} {ys : List V} (I : Inv X pins σ H s) (k : ∀ b u, s.heap.get? b = some u → h'.get? b = some u)
    (hle : s.heap.objs.size ≤ h'.objs.size) (hv : Vals ys out.toList) (hz : ys.length ≤ sizeLine) (q : ∀ l : Addr, H l = none → Q (.ref l) (upd H l (.lst ys))) :
    EP X pins σ Q (.ref h'.objs.size) { s with heap := sortedHeap (h'.push (seqObj "list" vs.toArray 0)) h'.objs.size vs out, toks := tk, drawn := d } := by
  obtain ⟨e, he⟩ := sortedHeap_at (h := h'.push (seqObj "list" vs.toArray 0)) (a := h'.objs.size) (vs := vs) (n := 0) (out := out) (Heap.get?_push_size _ rfl)
  refine ⟨.ref h'.objs.size, _, I.laidD (o := .lst ys) (fun b u z => ?_) hle ⟨hz, out.toList, e, hv, by simpa using he⟩, rfl, q _ (I.hok.fresh hle)⟩
  have z' := k b u z
  rw [sortedHeap_old (Nat.ne_of_lt (Heap.lt_size z')) (by rw [Heap.size_push]; exact Nat.lt_succ_of_lt (Heap.lt_size z'))]
  exact Heap.get?_push_of_some _ z'
theorem strs_of {ks : List Str} : ∀ {vs : List Value}, Paired (fun (k : Key) (v : Value) => (mixKind X.prog X.w).is k v = true) (ks.map Sum.inr) vs → StrsAre vs ks := by
  induction ks with
  | nil => intro vs h; cases h; exact .nil
  | cons a r ih =>
    intro vs h
    cases h with
    | cons q t =>
      rw [mixKind_is] at q
      rcases keyIs_shape q with ⟨i, t', e, _⟩ | ⟨x, t', e, e'⟩
      · cases e
      · cases e; subst e'; exact .cons _ _ (ih t)
theorem ints_of {ks : List Int} : ∀ {vs : List Value}, Paired (fun (k : Key) (v : Value) => (mixKind X.prog X.w).is k v = true) (ks.map Sum.inl) vs → IntsAre vs ks := by
  induction ks with
  | nil => intro vs h; cases h; exact .nil
  | cons a r ih =>
    intro vs h
    cases h with
    | cons q t =>
      rw [mixKind_is] at q
      rcases keyIs_shape q with ⟨i, t', e, e'⟩ | ⟨x, t', e, _⟩
      · cases e; subst e'; exact .cons _ _ (ih t)
      · cases e
theorem vals_strs : ∀ {vs : List Value} {ss : List Str}, StrsAre vs ss → Vals (ss.map V.str) vs
  | _, _, .nil => .nil
  | _, _, .cons _ t h => .cons ⟨t, rfl⟩ (vals_strs h)
theorem perm_map_inv {α β : Type} {f : α → β} : ∀ {l : List α} {l' : List β}, (l.map f).Perm l' → ∃ m : List α, l' = m.map f ∧ l.Perm m := by
  intro l l' p
  generalize e : l.map f = k at p
  induction p generalizing l with
  | nil => exact ⟨[], rfl, by cases l with | nil => exact .refl _ | cons _ _ => cases e⟩
  | cons x p ih =>
    cases l with
    | nil => cases e
    | cons a r =>
      obtain ⟨e1, e2⟩ := List.cons.inj e
      obtain ⟨m, h1, h2⟩ := ih e2
      exact ⟨a :: m, by rw [h1, ← e1]; rfl, h2.cons a⟩
  | swap x y q =>
    cases l with
    | nil => cases e
    | cons a r =>
      cases r with
      | nil => cases (List.cons.inj e).2
      | cons b r =>
        obtain ⟨e1, e2⟩ := List.cons.inj e
        obtain ⟨e3, e4⟩ := List.cons.inj e2
        exact ⟨b :: a :: r, by rw [← e1, ← e3, ← e4]; rfl, .swap _ _ _⟩
  | trans _ _ ih1 ih2 =>
    obtain ⟨m, h1, h2⟩ := ih1 e
    obtain ⟨m', h3, h4⟩ := ih2 h1.symm
    exact ⟨m', h3, h2.trans h4⟩
/-- sorted(a set of texts) -/
theorem call_sorted_setS (hc : X.calm = true) : CallR X (.builtin "sorted") (fun xs H Q => ∃ (p : Addr) (ks : List Str), xs = [.ref p] ∧ H p = some (SetO X.prog X.w p (ks.map Sum.inr)) ∧ ks.length < 64 ∧
    ∀ (l : Addr) (ks' : List Str), H l = none → ks'.Perm ks → sortedS ks' = true → Q (.ref l) (upd H l (.lst (ks'.map V.str)))) := by
  intro pins s σ H xs us Q I r h
  obtain ⟨p, ks, rfl, hp, hl, q⟩ := h
  obtain ⟨u, rfl, rx⟩ := vals1 r
  cases rx
  have hS : SetW (mixKind X.prog X.w) s.heap p (ks.map Sum.inr) := (I.hok p _ hp).1
  refine sorted_setW (knd := mixKind X.prog X.w) (I.ok.hd hc) hS (by rw [List.length_map]; exact Nat.le_of_lt (small1000 (by omega))) fun h' tk d vs k hle hv => ?_
  obtain ⟨ks', pk, hpv⟩ := hv
  obtain ⟨ks2, rfl, pk2⟩ := perm_map_inv pk
  have hst := strs_of (X := X) hpv
  have hvl : vs.length = ks.length := by rw [← paired_len hpv, List.length_map, pk2.length_eq]
  refine list_sort_treeK strKind_oneLt (n := 0) (Heap.get?_push_size _ rfl) hst.keysOf (fun v₁ v₂ rest e => keyKind_strs (by rw [← e]; exact hst)) (by omega) fun st' a1 a2 => ?_
  obtain ⟨ss', b1, b2, b3⟩ := sorted_out_str hst a1 a2
  refine ⟨rfl, sorted_fin (s := s) (tk := tk) (d := d) I k hle (vals_strs b1) ?_ fun l hl' => q l ss' hl' (b2.trans pk2.symm) b3⟩
  rw [List.length_map, b2.length_eq, ← pk2.length_eq]
  exact Nat.le_of_lt (small1000 (by omega))
/-- sorted(a set of ints) -/
theorem call_sorted_setI (hc : X.calm = true) : CallR X (.builtin "sorted") (fun xs H Q => ∃ (p : Addr) (ks : List Int), xs = [.ref p] ∧ H p = some (SetO X.prog X.w p (ks.map Sum.inl)) ∧ ks.length < 64 ∧
    ∀ (l : Addr) (ks' : List Int), H l = none → ks'.Perm ks → ks'.Pairwise (· ≤ ·) → Q (.ref l) (upd H l (.lst (ks'.map V.int)))) := by
  intro pins s σ H xs us Q I r h
  obtain ⟨p, ks, rfl, hp, hl, q⟩ := h
  obtain ⟨u, rfl, rx⟩ := vals1 r
  cases rx
  have hS : SetW (mixKind X.prog X.w) s.heap p (ks.map Sum.inl) := (I.hok p _ hp).1
  refine sorted_setW (knd := mixKind X.prog X.w) (I.ok.hd hc) hS (by rw [List.length_map]; exact Nat.le_of_lt (small1000 (by omega))) fun h' tk d vs k hle hv => ?_
  obtain ⟨ks', pk, hpv⟩ := hv
  obtain ⟨ks2, rfl, pk2⟩ := perm_map_inv pk
  have hst := ints_of (X := X) hpv
  have hvl : vs.length = ks.length := by rw [← paired_len hpv, List.length_map, pk2.length_eq]
  refine list_sort_tree (n := 0) (Heap.get?_push_size _ rfl) hst (by omega) fun out ns' b1 b2 b3 => ?_
  refine ⟨rfl, sorted_fin (s := s) (tk := tk) (d := d) I k hle (vals_ints b1) ?_ fun l hl' => q l ns' hl' (b2.trans pk2.symm) b3⟩
  rw [List.length_map, b2.length_eq, ← pk2.length_eq]
  exact Nat.le_of_lt (small1000 (by omega))
end
end L2
namespace L2
open PySem PySem.Spec PyProof.Rows
section
variable {X : Cx}
/-! ### comprehensions, by what they walk -/
theorem lcg_list {K : PySem.W.Frag} {a D : Addr} {xs : List V} {g : TG} {tt : TT} {te : TE} {Q : VK} {σ0 : St} {H1 : Hp} (Pv : Nat → St → Hp → Prop) (h0 : Pv 0 σ0 (upd H1 D (.lst []))) (hl : ∀ i σ H, i ≤ xs.length → Pv i σ H → SqL K H a xs)
    (hs : ∀ i x σ H, xs[i]? = some x → Pv i σ H → g x σ H fun σ3 H3 => tt σ3 H3 fun b H4 => if b = true then te σ3 H4 fun y H5 => ∃ zs, H5 D = some (.lst zs) ∧ zs.length < sizeLine ∧ Pv (i + 1) σ3 (upd H5 D (.lst (zs ++ [y]))) else Pv (i + 1) σ3 H4) (hd : ∀ σ H, Pv xs.length σ H → Q (.ref D) H) :
    ∃ W : Nat → Nat → St → Hp → Prop, (∃ m, W 0 m σ0 (upd H1 D (.lst []))) ∧ ∀ i m σ' H', W i m σ' H' →
      ((Itl K a).stop i H' ∧ Q (.ref D) H') ∨ ((Itl K a).go i H' ∧ ∃ N : St → Hp → Prop, (∀ σ2 H2, N σ2 H2 → ∃ m', m' < m ∧ W (i + 1) m' σ2 H2) ∧
        ∀ x H2, (Itl K a).yld i H' x H2 → g x σ' H2 fun σ3 H3 => tt σ3 H3 fun b H4 => if b = true then te σ3 H4 fun y H5 => ∃ zs, H5 D = some (.lst zs) ∧ zs.length < sizeLine ∧ N σ3 (upd H5 D (.lst (zs ++ [y]))) else N σ3 H4) := by
  refine ⟨fun i m σ H => m = xs.length - i ∧ i ≤ xs.length ∧ Pv i σ H, ⟨xs.length, rfl, Nat.zero_le _, h0⟩, ?_⟩
  rintro i m σ H ⟨rfl, hi, p⟩
  have q := hl i σ H hi p
  rcases Nat.lt_or_ge i xs.length with hlt | hge
  · refine .inr ⟨⟨xs, xs[i], q, List.getElem?_eq_getElem hlt⟩, Pv (i + 1), fun σ' H' p' => ⟨xs.length - (i + 1), by omega, rfl, hlt, p'⟩, fun x H' y => ?_⟩
    obtain ⟨e, y⟩ := y
    subst e
    exact hs i x σ _ (y xs q) p
  · have e : i = xs.length := Nat.le_antisymm hi hge
    subst e
    exact .inl ⟨⟨xs, q, Nat.le_refl _⟩, hd σ H p⟩
theorem lcg_tup {K : PySem.W.Frag} {a D : Addr} {xs : List V} {g : TG} {tt : TT} {te : TE} {Q : VK} {σ0 : St} {H1 : Hp} (Pv : Nat → St → Hp → Prop) (h0 : Pv 0 σ0 (upd H1 D (.lst []))) (hl : ∀ i σ H, i ≤ xs.length → Pv i σ H → SqT K H a xs)
    (hs : ∀ i x σ H, xs[i]? = some x → Pv i σ H → g x σ H fun σ3 H3 => tt σ3 H3 fun b H4 => if b = true then te σ3 H4 fun y H5 => ∃ zs, H5 D = some (.lst zs) ∧ zs.length < sizeLine ∧ Pv (i + 1) σ3 (upd H5 D (.lst (zs ++ [y]))) else Pv (i + 1) σ3 H4) (hd : ∀ σ H, Pv xs.length σ H → Q (.ref D) H) :
    ∃ W : Nat → Nat → St → Hp → Prop, (∃ m, W 0 m σ0 (upd H1 D (.lst []))) ∧ ∀ i m σ' H', W i m σ' H' →
      ((Itt K a).stop i H' ∧ Q (.ref D) H') ∨ ((Itt K a).go i H' ∧ ∃ N : St → Hp → Prop, (∀ σ2 H2, N σ2 H2 → ∃ m', m' < m ∧ W (i + 1) m' σ2 H2) ∧
        ∀ x H2, (Itt K a).yld i H' x H2 → g x σ' H2 fun σ3 H3 => tt σ3 H3 fun b H4 => if b = true then te σ3 H4 fun y H5 => ∃ zs, H5 D = some (.lst zs) ∧ zs.length < sizeLine ∧ N σ3 (upd H5 D (.lst (zs ++ [y]))) else N σ3 H4) := by
  refine ⟨fun i m σ H => m = xs.length - i ∧ i ≤ xs.length ∧ Pv i σ H, ⟨xs.length, rfl, Nat.zero_le _, h0⟩, ?_⟩
  rintro i m σ H ⟨rfl, hi, p⟩
  have q := hl i σ H hi p
  rcases Nat.lt_or_ge i xs.length with hlt | hge
  · refine .inr ⟨⟨xs, xs[i], q, List.getElem?_eq_getElem hlt⟩, Pv (i + 1), fun σ' H' p' => ⟨xs.length - (i + 1), by omega, rfl, hlt, p'⟩, fun x H' y => ?_⟩
    obtain ⟨e, y⟩ := y
    subst e
    exact hs i x σ _ (y xs q) p
  · have e : i = xs.length := Nat.le_antisymm hi hge
    subst e
    exact .inl ⟨⟨xs, q, Nat.le_refl _⟩, hd σ H p⟩
/-! ### a method of an object of one of several classes -/
def tMethF (dom : Addr → Prop) (m : Str) (sp : Addr → Sp) (E : XK) (ta : TE) (t : TA) : TE := fun σ H Q => ta σ H fun x H1 => ∃ a C dx fs, x = .ref a ∧ H1 a = some (.ins C dx fs) ∧ dom C ∧ fs.lookup m = none ∧ t σ H1 fun vs H2 => sp C (x :: vs) H2 Q E
def Fam (P : Program) (w : World) (K : PySem.W.Frag) (mg : Str → Option Value) (base : Heap) (CX : CXT) (k : Nat) (dom : Addr → Prop) (m : Str) (ps : List Str) (sp : Addr → Sp) : Prop :=
  ∀ C, dom C → ∃ f fd, Cls K C ∧ Meth K C m f ∧ FnOk P w K mg base CX k f fd ps (sp C) ∧ Binds K fd ps []
theorem pe_methF {pl : Sem Bool} {CX : CXT} {k : Nat} {ps : List Str} {dom : Addr → Prop} {sp : Addr → Sp} {E : XK} {m : Str} {pos apos : Pos} {e o : Expr} {es : List Expr} {ta : TE} {t : TA} (he : PE X o ta) (F : Fam X.prog X.w X.K X.mg X.base CX k dom m ps sp) (hr : Room k X.A) (hx : Passes CX X E) (ha : PA X (e :: es) t)
    (hst : starEach (e :: es) X.env = (false, eval e X.env) :: starEach es X.env := by rfl) (hpl : (backTo pos (starEach es X.env)).any (·.1) = false := by rfl)
    (ht : eval (.Call (.Attribute o m apos) (e :: es) [] pos) X.env = (do
      let ov ← eval o X.env
      standAt apos.atName
      let (f, first) ← holding [ov] (getMethod ov m pl)
      callWith pos f first (backTo pos (starEach (e :: es) X.env)) (backToKw pos (keywordEach [] X.env))) := by rfl) :
    PE X (.Call (.Attribute o m apos) (e :: es) [] pos) (tMethF dom m sp E ta t) := by
  intro pins s σ H Q I h
  refine PySem.W.methodCall_KW (pl := pl) (thn (he pins s σ H _ I h) fun u s1 ⟨x, H1, I1, rx, a, C, dx, fs, ex, ea, hd, l, q⟩ => ?_) ht
  subst ex
  obtain rfl : u = Value.ref a := rx
  obtain ⟨f, fd, c, hm, G, hb⟩ := F C hd
  refine getmeth_ok I1 ea c hm l ?_
  refine PySem.W.callWith_K (first := [.ref a]) (h₀ := X.base) I.ok.mod.kin hm.kp (thn (ha pos pins s1 σ H1 _ I1 q) fun us s2 ⟨vs, H2, I2, r, q2⟩ => ⟨I2.kIn, ?_⟩) hst hpl
  exact run_fn (us := .ref a :: us) (vs := .ref a :: vs) G hr hb .nil hx I2 (.cons rfl r) (by rw [List.append_nil]; exact q2)
theorem pe_methF0 {pl : Sem Bool} {CX : CXT} {k : Nat} {ps : List Str} {dom : Addr → Prop} {sp : Addr → Sp} {E : XK} {m : Str} {pos apos : Pos} {o : Expr} {ta : TE} (he : PE X o ta) (F : Fam X.prog X.w X.K X.mg X.base CX k dom m ps sp) (hr : Room k X.A) (hx : Passes CX X E)
    (ht : eval (.Call (.Attribute o m apos) [] [] pos) X.env = (do
      let ov ← eval o X.env
      standAt apos.atName
      let (f, first) ← holding [ov] (getMethod ov m pl)
      callWith pos f first (backTo pos (starEach [] X.env)) (backToKw pos (keywordEach [] X.env))) := by rfl) :
    PE X (.Call (.Attribute o m apos) [] [] pos) (tMethF dom m sp E ta tNil) := by
  intro pins s σ H Q I h
  refine PySem.W.methodCall_KW (pl := pl) (thn (he pins s σ H _ I h) fun u s1 ⟨x, H1, I1, rx, a, C, dx, fs, ex, ea, hd, l, q⟩ => ?_) ht
  subst ex
  obtain rfl : u = Value.ref a := rx
  obtain ⟨f, fd, c, hm, G, hb⟩ := F C hd
  refine getmeth_ok I1 ea c hm l ?_
  exact PySem.W.callWith_K0 (first := [.ref a]) I1.kIn hm.kp (run_fn (us := [.ref a]) (vs := [.ref a]) G hr hb .nil hx I1 (.cons rfl .nil) q)
/-! ### C.m(..), C a class of the text: no object goes ahead -/
structure ClsFn (K : PySem.W.Frag) (C : Addr) (mc : Value) (m : Str) (f : Addr) : Prop where
  ga : PySem.W.specialIn K (.ref C) "__getattribute__" = some (some (.builtin "type.__getattribute__"))
  rd : PySem.W.readsIn K C mc = true
  at_ : PySem.W.findCls K (.ref C) mc m = some (.val (.ref f))
  kp : PySem.W.keepIn K (.ref f) = true
theorem pe_clsFn {pl : Sem Bool} {CX : CXT} {k : Nat} {f C : Addr} {fd : FuncData} {mc : Value} {ps : List Str} {sp : Sp} {E : XK} {x m : Str} {p pos apos : Pos} {e : Expr} {es : List Expr} {t : TA} (c : ClsFn X.K C mc m f) (G : FnOk X.prog X.w X.K X.mg X.base CX k f fd ps sp) (hr : Room k X.A) (hg : Gl X x) (hm : X.mg x = some (.ref C))
    (hb : Binds X.K fd ps []) (hx : Passes CX X E) (ha : PA X (e :: es) t) (hdb : (x == ("__debug__" : Str)) = false := by decide)
    (hst : starEach (e :: es) X.env = (false, eval e X.env) :: starEach es X.env := by rfl) (hpl : (backTo pos (starEach es X.env)).any (·.1) = false := by rfl)
    (ht : eval (.Call (.Attribute (.Name x p) m apos) (e :: es) [] pos) X.env = (do
      let ov ← eval (.Name x p) X.env
      standAt apos.atName
      let (f, first) ← holding [ov] (getMethod ov m pl)
      callWith pos f first (backTo pos (starEach (e :: es) X.env)) (backToKw pos (keywordEach [] X.env))) := by rfl) :
    PE X (.Call (.Attribute (.Name x p) m apos) (e :: es) [] pos) (tCall sp [] E t) := by
  intro pins s σ H Q I h
  refine PySem.W.methodCall_KW (pl := pl) (ld_glob I hg hm ?_ hdb) ht
  refine PySem.W.method_cls I.kIn c.ga (PySem.W.cls_value I.kIn c.rd c.at_ rfl ?_)
  have I1 := I.tok (s.toks + 1)
  refine PySem.W.callWith_K (first := []) (h₀ := X.base) I.ok.mod.kin c.kp (thn (ha pos pins _ σ H _ I1 h) fun us s2 ⟨vs, H2, I2, r, q2⟩ => ⟨I2.kIn, ?_⟩) hst hpl
  exact run_fn (us := us) (vs := vs) G hr hb .nil hx I2 r q2
/-! ### isinstance -/
theorem call_isi : CallR X (.builtin "isinstance") (fun xs H Q => ∃ (x cv : V) (c t : Value) (b : Bool), xs = [x, cv] ∧ (∀ u, RelV cv u → u = c) ∧ TyOf X.K H x t ∧ PySem.W.kitOne X.K t c = some b ∧ Q (.bl b) H) := by
  intro pins s σ H xs us Q I r h
  obtain ⟨x, cv, c, t, b, rfl, hc, ty, e, q⟩ := h
  obtain ⟨u, w', rfl, r1, r2⟩ := vals2 r
  have := hc _ r2
  subst this
  exact isinst_ok I r1 ty e fun tk => ⟨.bl b, H, I.tok tk, rfl, q⟩
theorem kit_ss (K : PySem.W.Frag) (n : String) : PySem.W.kitOne K (.type n) (.type n) = some true := by
  unfold PySem.W.kitOne
  rw [if_pos (by simp)]
/-! ### xs.extend(a tuple) -/
section
open AutoSeq1 (wpAny_loadPart')
open MeetsSeq MeetsSeq2 MeetsSeq3 AutoSeq1
theorem list_extend_tup (l : Addr) (items : Array Value) (n : Nat) (b : Addr) (items2 : Array Value) (n2 : Nat) (d2 : Option Addr) (s2 : Array (Option Value)) (hs0 : ¬(!items.isEmpty && Builtin.List.listTooLong (items.size + items2.size)) = true) (hs1 : items.size ≤ sizeLine) (hs2 : items.size + items2.size ≤ sizeLine + 1) :
    Meets (Builtin.«list.extend» ⟨[.ref l, .ref b], []⟩) (fun _ R s => s.heap.get? l = some { cls := .type "list", dict := none, data := .seq items n, slots := #[] } ∧ s.heap.get? b = some { cls := .type "tuple", dict := d2, data := .seq items2 n2, slots := s2 } ∧ R (.ok (.ret Value.none)) { s with heap := s.heap.update l (Obj.mapSeq fun x => x ++ items2), toks := s.toks }) :=
  .of_wp fun prog w A R s h => by
    obtain ⟨hp, g, d, tk, os⟩ := s; obtain ⟨hl, hb, h⟩ := h; have f1 := idx_int; have f2 := AutoSeq1.sub_tuple_tuple; have f3 := AutoSeq1.sub_list_list; have f4 := AutoSeq1.sub_tuple_list; have f5 := AutoSeq1.sub_list_tuple;
    have hz' : (items ++ items2).size ≤ sizeLine + 1 := by rw [Array.size_append]; exact hs2
    wp_walk using (wpAny_updateSeq hl rfl (hz := hs1) (_hz' := hz')), wpAny_loadPart' hl, wpAny_loadPart' hb; exact ⟨_, rfl, h⟩
end
theorem mt_extendT : MtM X "list.extend" (fun x vs H Q => ∃ l b xs zs, x = .ref l ∧ vs = [.ref b] ∧ H l = some (.lst xs) ∧ SqT X.K H b zs ∧ xs.length + zs.length ≤ sizeLine ∧ Q .non (upd H l (.lst (xs ++ zs)))) := by
  intro pins s σ H x vs v us Q I rx rv h
  obtain ⟨l, b, xs, zs, rfl, rfl, hH, hB, hz, q⟩ := h
  cases rx
  obtain ⟨u, rfl, ru⟩ := rv.one
  cases ru
  obtain ⟨z, its, n, r, hl, e⟩ := I.lstM hH
  obtain ⟨its2, r2, p2, z2⟩ := I.tuple hB
  have hl2 := r2.length
  obtain ⟨⟨c2, d2, t2, o2⟩, e2, f2, n2, m2⟩ := id p2
  simp only at f2 m2
  subst f2 m2
  have hsz : its.toArray.size + its2.toArray.size ≤ sizeLine := by rw [List.size_toArray, List.size_toArray]; omega
  have hlong : ¬ (!its.toArray.isEmpty && Builtin.List.listTooLong (its.toArray.size + its2.toArray.size)) = true := by
    rw [notLongL hsz, Bool.and_false]
    exact Bool.false_ne_true
  refine call_meets PySem.F.slot_list_extend ⟨_, e, rfl⟩ PySem.F.entry_list_extend (PySem.F.args_list_extend_2 _ _)
    (list_extend_tup l its.toArray n b its2.toArray n2 d2 o2 hlong (by rw [List.size_toArray]; omega) (by omega)) ⟨e, e2, ?_⟩
  refine ⟨.non, _, I.lset (its' := its ++ its2) hH e (by simp) (r.append r2) ?_, rfl, q⟩
  rw [List.length_append]
  omega
/-! ### dicts -/
/-! ### sum of ints -/
theorem preSum_take (ns : List Int) : ∀ n : Nat, n ≤ ns.length → preSum (fun i => ns.getD i 0) n = (ns.take n).sum
  | 0, _ => rfl
  | n + 1, h => by
    show preSum (fun i => ns.getD i 0) n + ns.getD n 0 = _
    have hn : n < ns.length := h
    rw [preSum_take ns n (by omega), List.take_add_one, List.getElem?_eq_getElem hn, List.sum_append, List.getD_eq_getElem?_getD, List.getElem?_eq_getElem hn]
    simp
theorem call_sum_ints (hc : X.calm = true) : CallR X (.builtin "sum") (fun xs H Q => ∃ (p : Addr) (ns : List Int), xs = [.ref p] ∧ SqL X.K H p (ns.map V.int) ∧ Q (.int ns.sum) H) := by
  intro pins s σ H xs us Q I r h
  obtain ⟨p, ns, rfl, hq, q⟩ := h
  obtain ⟨u, rfl, rx⟩ := vals1 r
  cases rx
  obtain ⟨its, r', pl, hz⟩ := I.list hq
  have hlen := r'.length
  rw [List.length_map] at hlen
  have hi := intsAre_of r'
  obtain ⟨op, hop, _⟩ := id pl.isList
  have hlt : p < s.heap.objs.size := Heap.lt_size hop
  have hh : X.A.in1.handled = none := by simp [I.ok.hd hc]
  refine call_sum_walkAnyS (wpAny_pyIter_list pl.isList ⟨s.heap.objs.size, _, _, _, its.toArray.size, _, _, fun i => ns.getD i 0, rfl, (Walks.list hh _ p (Nat.ne_of_lt hlt) its.toArray).toS, ⟨⟨_, Heap.get?_push_size _ rfl, rfl, rfl⟩, pl.isList.push _⟩, fun b hb => ?_, fun i v e => ?_, fun s' t' hm => ?_⟩)
  · show b < (s.heap.push _).objs.size
    rw [Heap.size_push]
    rcases List.mem_cons.mp hb with e | hb
    · rw [e]; exact Nat.lt_succ_self _
    · rw [List.mem_singleton.mp hb]; exact Nat.lt_succ_of_lt hlt
  · exact PyProof.Rows.IntsAre.int_at hi i v (by simpa using e)
  · have hk : ∀ b o, s.heap.get? b = some o → s'.heap.get? b = some o := fun b o e =>
      hm.heap b o (fun hI => absurd (Heap.lt_size e) (by rw [List.mem_singleton.mp hI]; exact Nat.lt_irrefl _)) (Heap.get?_push_of_some _ e)
    have e1 : preSum (fun i => ns.getD i 0) its.toArray.size = ns.sum := by
      rw [List.size_toArray, ← hlen, preSum_take ns ns.length (Nat.le_refl _), List.take_length]
    rw [e1]
    rw [Moved.eq_with hm]
    exact ⟨.int ns.sum, H, I.kept (t' := s'.toks) hk, ⟨_, rfl⟩, q⟩
end
end L2
namespace L2
open PySem PySem.Spec PyProof.Rows
section
variable {prog : Program} {w : World} {A : Around} {R : Result → Shared → Prop} {I : Addr} {fp wr : List Addr} {n : Nat} {P : Nat → Value → Prop} {St : Nat → Heap → Prop} {kw : List (Str × Value)}
end
section
variable {X : Cx}
/-! ### the same, the written part told -/
def rIsi (K : PySem.W.Frag) : List V → Hp → VK → Prop := fun xs H Q => ∃ (x cv : V) (c t : Value) (b : Bool), xs = [x, cv] ∧ (∀ u, RelV cv u → u = c) ∧ TyOf K H x t ∧ PySem.W.kitOne K t c = some b ∧ Q (.bl b) H
theorem call_isiK {K : PySem.W.Frag} (hK : X.K = K) : CallR X (.builtin "isinstance") (rIsi K) := by
  subst hK; exact call_isi
theorem pe_fldK {K : PySem.W.Frag} {e : Expr} {ta : TE} {f : Str} {pos : Pos} (hK : X.K = K) (he : PE X e ta) (hb : attributeBase e f X.env (eval e X.env) = eval e X.env) : PE X (.Attribute e f pos) (tFld K ta f) := by
  subst hK; exact pe_fld he hb
theorem ix_tupK {K : PySem.W.Frag} (hK : X.K = K) : IxR X (rIxT K) := by
  subst hK; exact ix_tup
end
end L2
set_option maxHeartbeats 4000000
namespace L2
open PySem PySem.Spec PyProof.Rows
/-! ### a dict walked: it is held still while it is -/
section
variable {X : Cx} {pins : List (Addr × Obj)} {σ : St} {H : Hp} {s : Shared}
end
section
variable {X : Cx}
/-! ### list(d.values()), len(a set) -/
end
end L2
set_option maxHeartbeats 4000000
namespace L2
open PySem PySem.Spec PyProof.Rows
section
variable {X : Cx} {pins : List (Addr × Obj)} {σ : St} {H : Hp} {s : Shared} {h' : Heap}
/-- several untracked records of ours have turned -/
theorem Inv.turnedM {t' : Nat} {fp : List Addr} (I : Inv X pins σ H s) (k : ∀ b o, b ∉ fp → s.heap.get? b = some o → h'.get? b = some o) (hf : ∀ b ∈ fp, FpOk X pins H b) : Inv X pins σ H { s with heap := h', toks := t' } := by
  have nit : ∀ b u, H b = some u → b ∉ fp := fun b u e z => by rw [(hf b z).1] at e; cases e
  have nL : X.env.locals ∉ fp := fun z => (hf _ z).2.1 rfl
  refine I.step (g' := s.gens) (d' := s.drawn) (ch := fp) (fun b hb => ?_) (fun b o _ _ hc e _ => k b o hc e) (fun b o _ _ hc e _ => ⟨o.slots, k b o hc e⟩) (fun _ _ _ _ n => n)
    (fun b o hc e => ⟨o, k b o hc e⟩) (fun _ _ e => e) (fun _ _ _ e => e) (fun b ps e => ⟨#[], by rw [e]; simp⟩) (fun m hm => ?_) (fun b u e => ?_) I.bare
  · obtain ⟨f0, f1, f2, f3, f4, f5⟩ := hf b hb
    exact ⟨f3, f1, f4, f5⟩
  · obtain ⟨o, es, ep, ho, r⟩ := hm
    exact ⟨o, es, ep, k _ o nL ho, r⟩
  · refine (I.hok b u e).stay (fun c v hc q => k c v ?_ q) (fun _ q => q) fun _ _ q => q
    rcases hc with z | z
    · rw [z]; exact nit b u e
    · exact nit c _ z
end
section
variable {X : Cx}
/-! ### the values of a dict walked -/
/-! ### xs.insert(i, x) -/
end
end L2
set_option maxHeartbeats 4000000
namespace L2
open PySem PySem.Spec PyProof.Rows
/-! ### d.setdefault(k, v) -/
section
variable {X : Cx}
/-! ### list(d) -/
/-! ### [.. for k in d ..] -/
/-! ### {k: v} -/
end
end L2
set_option maxHeartbeats 4000000
namespace L2
open PySem PySem.Spec PyProof.Rows
section
variable {X : Cx}
end
end L2
set_option maxHeartbeats 4000000
namespace L2
open PySem PySem.Spec PyProof.Rows
section
variable {X : Cx}
/-! ### sep.join(texts) -/
end
end L2
set_option maxHeartbeats 4000000
namespace L2
open PySem PySem.Spec PyProof.Rows
/-! ### sorted(a dict with texts for keys) -/
section
variable {prog : Program} {w : World} {A : Around} {E : Value → Shared → Prop} {s : Shared} {T : String} {r d : Addr} {n : Nat} {P : Nat → Value → Prop} {OK : Heap → Prop}
end
section
variable {X : Cx}
end
end L2
set_option maxHeartbeats 4000000
namespace L2
open PySem PySem.Spec PyProof.Rows
/-! ### two lists of the same things -/
section
variable {X : Cx}
end
end L2
set_option maxHeartbeats 4000000
namespace L2
open PySem PySem.Spec PyProof.Rows
/-! ### is, is not, with a truth at the right -/
section
variable {X : Cx}
end
end L2
set_option maxHeartbeats 4000000
namespace L2
open PySem PySem.Spec PyProof.Rows
/-! ### a plain text, sign by sign -/
def Itx (x : Str) : It := ⟨fun i _ => i < x.cps.size, fun i H v H' => H' = H ∧ ∃ c, x.cps[i]? = some c ∧ v = .str ⟨#[c]⟩, fun i _ => x.cps.size ≤ i⟩
theorem turn_ascii {P : Program} {w : World} {K : PySem.W.Frag} {tg : Expr} (it : Addr) (x : Str) (t : Tok) : Turn P w K tg (Itx x) [it] it (fun i h => h.IsStrIter it "str_ascii_iterator" x t i) where
  mem := by simp
  obj := fun i h st b hb => by
    have e : b = it := by simpa using hb
    subst e
    obtain ⟨o, e, c, d⟩ := st
    exact ⟨o, e, fun v z => by rw [d] at z; cases z⟩
  keep := fun i h h' st k => by
    obtain ⟨o, e, c, d⟩ := st
    exact ⟨o, k it (by simp) o e, c, d⟩
  item := by
    intro X hP hw hK hc i pins s σ H E I hf st hg
    subst hP hw hK
    have hi : i < x.cps.size := hg
    obtain ⟨f0, f1, f2, f3, f4, f5⟩ := hf it (by simp)
    refine wpAny_pyNext_ascii_item st (c := x.cps[i]) (Array.getElem?_eq_getElem hi) fun h' st' sb => ?_
    have I1 : Inv X pins σ H { s with heap := h', toks := s.toks + 1 } := I.turned (fun b o hb e => (sb.2 b hb).trans e) f0 f1 f3 f4 f5
    obtain ⟨o, e, c, d⟩ := id st'
    exact ⟨_, rfl, go_of (s := { s with heap := h', toks := s.toks + 1 }) e c d (by decide) ⟨.str ⟨#[x.cps[i]]⟩, H, I1, ⟨_, rfl⟩, ⟨rfl, _, Array.getElem?_eq_getElem hi, rfl⟩, st', fun b hb => (hf b hb).1⟩⟩
  done := by
    intro X hP hw hK hc i pins s σ H E I hf st hg
    subst hP hw hK
    obtain ⟨f0, f1, f2, f3, f4, f5⟩ := hf it (by simp)
    have hi : x.cps.size ≤ i := hg
    exact wpAny_pyNext_ascii_end (I.ok.hd hc) st (Array.getElem?_eq_none hi) fun h' eb => ⟨rfl, I.turned (t' := s.toks) (fun b o hb e => eb b o hb e) f0 f1 f3 f4 f5⟩
  self := fun _ _ _ _ _ st h => wpAny_pyIter_striter_ascii st h
section
variable {X : Cx} {tg : Expr}
def iAsc (tl : TE) : TI := fun σ H R => tl σ H fun x H1 => ∃ z, x = .str z ∧ (z.cps.all fun x => decide (x < 128)) = true ∧ R (Itx z) H1
theorem pi_ascii {l : Expr} {tl : TE} (hl : PE X l tl) : PI X tg l (iAsc tl) := by
  intro pins s σ H R I h
  refine thn (hl pins s σ H _ I h) fun v s1 ⟨x, H1, I1, r1, q1⟩ => ?_
  obtain ⟨z, rfl, ha, q⟩ := q1
  obtain ⟨t, rfl⟩ := r1
  refine wpAny_pyIter_ascii ha ?_
  refine ⟨s1.heap.objs.size, [s1.heap.objs.size], _, _, H1, rfl, I1.kept (t' := s1.toks) fun b o e => Heap.get?_push_of_some _ e, turn_ascii _ z t, ⟨_, Heap.get?_push_size _ rfl, rfl, rfl⟩, fun b hb => ?_, q⟩
  have e : b = s1.heap.objs.size := by simpa using hb
  subst e
  exact I1.fpOk (Nat.le_refl _) (I1.hok.fresh (Nat.le_refl _))
theorem lcg_asciiR {z : Str} {D : Addr} {g : TG} {tt : TT} {te : TE} {R : Hp → Prop} {σ0 : St} {H1 : Hp} (Pv : Nat → St → Hp → Prop) (h0 : Pv 0 σ0 (upd H1 D (.lst [])))
    (hs : ∀ i c σ H, z.cps[i]? = some c → Pv i σ H → g (.str ⟨#[c]⟩) σ H fun σ3 H3 => tt σ3 H3 fun b H4 => if b = true then te σ3 H4 fun y H5 => ∃ zs, H5 D = some (.lst zs) ∧ zs.length < sizeLine ∧ Pv (i + 1) σ3 (upd H5 D (.lst (zs ++ [y]))) else Pv (i + 1) σ3 H4) (hd : ∀ σ H, Pv z.cps.size σ H → R H) :
    ∃ W : Nat → Nat → St → Hp → Prop, (∃ m, W 0 m σ0 (upd H1 D (.lst []))) ∧ ∀ i m σ' H', W i m σ' H' →
      ((Itx z).stop i H' ∧ R H') ∨ ((Itx z).go i H' ∧ ∃ N : St → Hp → Prop, (∀ σ2 H2, N σ2 H2 → ∃ m', m' < m ∧ W (i + 1) m' σ2 H2) ∧
        ∀ x H2, (Itx z).yld i H' x H2 → g x σ' H2 fun σ3 H3 => tt σ3 H3 fun b H4 => if b = true then te σ3 H4 fun y H5 => ∃ zs, H5 D = some (.lst zs) ∧ zs.length < sizeLine ∧ N σ3 (upd H5 D (.lst (zs ++ [y]))) else N σ3 H4) := by
  refine ⟨fun i m σ H => m = z.cps.size - i ∧ i ≤ z.cps.size ∧ Pv i σ H, ⟨z.cps.size, rfl, Nat.zero_le _, h0⟩, ?_⟩
  rintro i m σ H ⟨rfl, hi, p⟩
  rcases Nat.lt_or_ge i z.cps.size with hlt | hge
  · refine .inr ⟨hlt, Pv (i + 1), fun σ' H' p' => ⟨z.cps.size - (i + 1), by omega, rfl, hlt, p'⟩, fun x H' y => ?_⟩
    obtain ⟨rfl, c, hc, rfl⟩ := y
    exact hs i c σ H' hc p
  · have e : i = z.cps.size := by omega
    subst e
    exact .inl ⟨hge, hd σ H p⟩
end
end L2
set_option maxHeartbeats 4000000
namespace L2
open PySem PySem.Spec PyProof.Rows
section
variable {prog : Program} {w : World} {A : Around} {E : Value → Shared → Prop} {s : Shared}
/-! ### the next item of a tuple's iterator, asked by another iterator -/
theorem nextT_item {it t : Addr} {i : Nat} {items : Array Value} {x : Value} {Q : Value → Shared → Prop} (st : s.heap.IsTupleIter it t i) (tu : s.heap.IsTuple t items) (ix : items[i]? = some x)
    (q : ∀ h', h'.IsTupleIter it t (i + 1) → Heap.SameBut it s.heap h' → Q x { s with heap := h' }) : wpAny (model prog w) A (Builtin.SmallTypes.nextOf (.ref it)) Q E s := by
  obtain ⟨o, eo, ec, ed⟩ := id st; obtain ⟨ol, el, _, nl, edl⟩ := tu; unfold Builtin.SmallTypes.nextOf
  refine wpAny_bind (wpAny_callSpecial?_slot (name := Str.ofString "__next__") st.typeIs F.slot_tuple_iterator_next (wpAny_call_entry F.slot_tuple_iterator_next st.typeIs F.entry_tuple_iterator_next ?_ (F.args_tuple_iterator_next_1 _)))
  show wpAny _ _ (field (.ref it) 0 >>= _) _ _ s; refine wpAny_bind (wpAny_field eo ed (x := .ref t) rfl ?_)
  show wpAny _ _ (if (Value.ref t == Value.none) = true then _ else _) _ _ s; rw [if_neg (show ¬ ((Value.ref t == Value.none) = true) from Bool.false_ne_true)]
  show wpAny _ _ (field (.ref it) 1 >>= _) _ _ s; refine wpAny_bind (wpAny_field eo ed (x := .int i 0) rfl ?_)
  show wpAny _ _ (seqItems? (.ref t) >>= _) _ _ s; refine wpAny_bind (wpAny_seqItems el edl ?_); simp only [Int.toNat_natCast, ix]
  refine wpAny_bind (wpAny_setField eo ed (by simp) (wpAny_pure ⟨x, rfl, wpAny_pure (q _ ⟨_, Heap.get?_update_self _ eo (Obj.isFreed_of_fields (Obj.data_mapFields ed _)), (Obj.cls_mapFields ..).trans ec, by rw [Obj.data_mapFields ed]; simp [rawInt]⟩ (Heap.SameBut.update ..))⟩))
theorem nextT_end {it t : Addr} {i : Nat} {items : Array Value} {Q : Value → Shared → Prop} (hh : A.handled = none) (st : s.heap.IsTupleIter it t i) (tu : s.heap.IsTuple t items) (ix : items[i]? = none)
    (q : ∀ h' e, Heap.ExtBut it s.heap h' → (∃ o, h'.get? e = some o ∧ o.cls = .type "StopIteration") → E (.ref e) { s with heap := h' }) : wpAny (model prog w) A (Builtin.SmallTypes.nextOf (.ref it)) Q E s := by
  obtain ⟨o, eo, ec, ed⟩ := id st; obtain ⟨ol, el, _, nl, edl⟩ := tu; unfold Builtin.SmallTypes.nextOf
  refine wpAny_bind (wpAny_callSpecial?_slot (name := Str.ofString "__next__") st.typeIs F.slot_tuple_iterator_next (wpAny_call_entry F.slot_tuple_iterator_next st.typeIs F.entry_tuple_iterator_next ?_ (F.args_tuple_iterator_next_1 _)))
  show wpAny _ _ (field (.ref it) 0 >>= _) _ _ s; refine wpAny_bind (wpAny_field eo ed (x := .ref t) rfl ?_)
  show wpAny _ _ (if (Value.ref t == Value.none) = true then _ else _) _ _ s; rw [if_neg (show ¬ ((Value.ref t == Value.none) = true) from Bool.false_ne_true)]
  show wpAny _ _ (field (.ref it) 1 >>= _) _ _ s; refine wpAny_bind (wpAny_field eo ed (x := .int i 0) rfl ?_)
  show wpAny _ _ (seqItems? (.ref t) >>= _) _ _ s; refine wpAny_bind (wpAny_seqItems el edl ?_); simp only [Int.toNat_natCast, ix]
  refine wpAny_bind (wpAny_rule (wpAny_bind (wpAny_setField eo ed (by simp) ?_))); show wpAny _ _ (newExc (.type "StopIteration") [] >>= _) _ _ _
  refine wpAny_bind ?_; simp only [newExc, newTuple]; refine wpAny_bind (wpAny_newObj_type ?_ (by size_fits))
  refine wpAny_bind (m := firstArgMember _ _) (wpAny_of_eq (a := Value.none) (by first | rfl | (simp only [firstArgMember]; rfl)) ?_); refine wpAny_newObj_type ?_ (by size_fits)
  simp only [raiseNew]; refine wpAny_bind (wpAny_handled ?_); first | rw [show A.in1.handled = none from hh] | rw [hh]
  refine wpAny_bind (wpAny_pure (wpAny_throw ?_))
  exact q _ _ (((Heap.SameBut.update ..).extBut.push _).push _) ⟨_, Heap.get?_push_size _ rfl, rfl⟩
end
end L2
set_option maxHeartbeats 4000000
namespace L2
open PySem PySem.Spec PyProof.Rows
/-! ### for k, x in enumerate(a tuple) -/
abbrev eq1 (h : Heap) (a : Addr) : Heap := h.push { cls := .type "tuple_iterator", data := .fields #[.ref a, .int 0 0] }
abbrev eq2 (h : Heap) (a : Addr) : Heap := (eq1 h a).push { cls := .type "enumerate", data := .fields #[.none, .bool false, .ref h.objs.size, rawInt 0, .none, .none] }
theorem wp_ite {α : Type} {M : Model} {A : Around} {Q : α → Shared → Prop} {E : Value → Shared → Prop} {s : Shared} {c : Prop} [Decidable c] {a b : Sem α} (h1 : wpAny M A a Q E s) (h2 : wpAny M A b Q E s) : wpAny M A (if c then a else b) Q E s := by
  split
  · exact h1
  · exact h2
theorem meets_enumT (a : Addr) (xs : Array Value) :
    Meets (Builtin.«enumerate.__new__» ⟨[.type "enumerate", .ref a], []⟩) (fun _ R s => s.heap.IsTuple a xs ∧ R (.ok (.ret (.ref (eq1 s.heap a).objs.size))) { s with heap := eq2 s.heap a }) :=
  .of_wp fun prog w A R s h => by
    obtain ⟨hp, g, d, tk, os⟩ := s; obtain ⟨e1, h⟩ := h; have hsub := sub_enumerate
    have f1 : Heap.IsTuple (Shared.heap ⟨hp, g, d, tk, os⟩) a xs := e1
    wp_walk using wpAny_pyIter_tuple f1
    refine wpAny_stack fun st _ _ _ => wpAny_pure ?_
    show wpAny _ _ (if _ then _ else _) _ _ _
    refine wp_ite ?_ ?_
    · wp_walk using wpAny_pyIter_tuple f1
      exact ⟨_, rfl, h⟩
    · wp_walk using wpAny_pyIter_tuple f1
      exact ⟨_, rfl, h⟩
section
variable {prog : Program} {w : World} {A : Around} {E : Value → Shared → Prop} {s : Shared}
theorem call_enumT {a : Addr} {xs : Array Value} {Q : Value → Shared → Prop} (e1 : s.heap.IsTuple a xs)
    (q : ∀ h', IsEnum h' (s.heap.objs.size + 1) s.heap.objs.size 0 .none → h'.IsTupleIter s.heap.objs.size a 0 → h'.objs.size = s.heap.objs.size + 2 → (∀ c o, s.heap.get? c = some o → h'.get? c = some o) → Q (.ref (s.heap.objs.size + 1)) { s with heap := h' }) :
    wpAny (model prog w) A (call (.type "enumerate") [.ref a]) Q E s := by
  refine callType_new F.called_enumerate (by decide) (F.typeCall_enumerate_1 _) (F.newCall_enumerate_1 _) (fun obj => F.args_object_init_2 obj _) F.entry_enumerate_new (meets_enumT a xs) ⟨e1, ?_⟩
  have n1 : (eq1 s.heap a).objs.size = s.heap.objs.size + 1 := Heap.size_push ..
  have n2 : (eq2 s.heap a).objs.size = s.heap.objs.size + 2 := by rw [Heap.size_push, n1]
  have m2 : (eq2 s.heap a).get? (eq1 s.heap a).objs.size = some _ := Heap.get?_push_size _ rfl
  have m1 : (eq2 s.heap a).get? s.heap.objs.size = some _ := Heap.get?_push_of_some _ (Heap.get?_push_size _ rfl)
  show _ ∧ _
  rw [n1] at m2 ⊢
  exact ⟨⟨_, m2, rfl⟩, q _ m2 ⟨_, m1, rfl, rfl⟩ n2 fun c o x => Heap.get?_push_of_some _ (Heap.get?_push_of_some _ x)⟩
theorem draws_tuple (hh : A.handled = none) (it l : Addr) (ne : l ≠ it) (items : Array Value) : Draws prog w A it [it, l] items.size (fun i v => items[i]? = some v) (fun i h => h.IsTupleIter it l i ∧ h.IsTuple l items) where
  live := fun i h st => by
    obtain ⟨⟨o, e, _⟩, _⟩ := st
    exact ⟨o, e⟩
  frame := fun i h h' st k => by
    obtain ⟨s1, o, e, r⟩ := st
    exact ⟨s1.at fun o e => k it (by simp) o e, o, k l (by simp) o e, r⟩
  item := fun i s Q E hi st q => by
    obtain ⟨s1, t1⟩ := st
    refine nextT_item s1 t1 (x := items[i]) (Array.getElem?_eq_getElem hi) fun h' s2 sb => ?_
    refine q _ h' s.toks (Array.getElem?_eq_getElem hi) ⟨s2, ?_⟩ sb
    obtain ⟨o, e, r⟩ := t1
    exact ⟨o, (sb.2 l ne).trans e, r⟩
  done := fun s Q E st q => by
    obtain ⟨s1, t1⟩ := st
    exact nextT_end hh s1 t1 (Array.getElem?_eq_none (Nat.le_refl _)) fun h' e k x => q h' e k x
end
def Iten (K : PySem.W.Frag) (a : Addr) : It :=
  ⟨fun i H => ∃ xs x, SqT K H a xs ∧ xs[i]? = some x,
   fun i H v H' => ∃ T, v = .ref T ∧ H T = none ∧ ∀ xs x, SqT K H a xs → xs[i]? = some x → H' = upd H T (.tup [.int i, x]),
   fun i H => ∃ xs, SqT K H a xs ∧ xs.length = i⟩
def EnumAtT (e it a : Addr) (i : Nat) (h : Heap) : Prop := (∃ old, IsEnum h e it i old) ∧ h.IsTupleIter it a i ∧ a ≠ it ∧ a ≠ e
theorem turn_enumT {P : Program} {w : World} {K : PySem.W.Frag} {elts : List Expr} {kk : Nat} {pos : Pos} {e it a : Addr} (D : e ≠ it) : Turn P w K (.Tuple elts kk pos) (Iten K a) [e, it] e (EnumAtT e it a) where
  mem := by simp
  obj := fun i h st c hc => by
    obtain ⟨⟨old, ez⟩, ⟨o1, e1, c1, d1⟩, _⟩ := st
    simp only [List.mem_cons, List.not_mem_nil, or_false] at hc
    rcases hc with rfl | rfl
    · exact ⟨_, ez, fun v y => by cases y⟩
    · exact ⟨o1, e1, fun v y => by rw [d1] at y; cases y⟩
  keep := fun i h h' st k => by
    obtain ⟨⟨old, ez⟩, s1, ne⟩ := st
    exact ⟨⟨old, k e (by simp) _ ez⟩, s1.at fun o e1 => k it (by simp) o e1, ne⟩
  item := by
    intro X hP hw hK hc i pins s σ H E I hf st hg
    subst hP hw hK
    obtain ⟨⟨old, ez⟩, s1, ne1, ne2⟩ := st
    obtain ⟨xs, x, q1, g1⟩ := hg
    obtain ⟨its1, r1, p1, z1⟩ := I.tuple q1
    obtain ⟨ux, hx, rx⟩ := r1.get g1
    have t1 : s.heap.IsTuple a its1.toArray := p1
    have hi : i < its1.toArray.size := by
      have := (List.getElem?_eq_some_iff.mp hx).1
      simpa using this
    refine wpAny_pyNext_enum_itemD (draws_tuple (A := X.A.in1) (show X.A.in1.handled = none from I.ok.hd hc) it a ne1 its1.toArray) ez ⟨s1, t1⟩ hi D (by simp [D, Ne.symm ne2]) fun u h' tk hu a1 a2 a3 a4 a5 => ⟨_, rfl, ?_⟩
    have eu : u = ux := by
      have h1 : its1.toArray[i]? = some ux := by simpa using hx
      have h2 : its1.toArray[i]? = some u := hu
      rw [h1] at h2
      exact (Option.some.inj h2).symm
    subst eu
    refine wpAny_letOwnedTupleGo_enum (s := { s with heap := h', toks := tk + 1 }) a1 fun h2 b1 b2 => ?_
    have zlt : e < s.heap.objs.size := Heap.lt_size ez
    obtain ⟨o1, e1, _⟩ := id s1
    have lt1 : it < s.heap.objs.size := Heap.lt_size e1
    have fr : H s.heap.objs.size = none := I.hok.fresh (Nat.le_refl _)
    have I0 : Inv X pins σ (upd H s.heap.objs.size (.tup [.int i, x])) { s with heap := s.heap.push { cls := .type "tuple", data := .seq #[.int i tk, u] } } := by
      refine I.laid (t' := s.toks) (fun c o e => Heap.get?_push_of_some _ e) (Nat.le_refl _) ?_
      exact ⟨by show 2 ≤ sizeLine; exact Nat.le_of_lt (small1000 (by decide)), [.int i tk, u], .cons ⟨_, rfl⟩ (.cons rx .nil), ⟨_, Heap.get?_push_size _ rfl, rfl, rfl, _, rfl⟩⟩
    have nlt : ∀ c ∈ [e, it], c ≠ s.heap.objs.size := by
      intro c hc
      simp only [List.mem_cons, List.not_mem_nil, or_false] at hc
      rcases hc with rfl | rfl
      · exact Nat.ne_of_lt zlt
      · exact Nat.ne_of_lt lt1
    have hf0 : ∀ c ∈ [e, it], FpOk X pins (upd H s.heap.objs.size (.tup [.int i, x])) c := fun c hc => by
      obtain ⟨f0, f1⟩ := hf c hc
      exact ⟨by rw [upd_ne (nlt c hc)]; exact f0, f1⟩
    have I1 : Inv X pins σ (upd H s.heap.objs.size (.tup [.int i, x])) { s with heap := h2, toks := tk + 1 } := by
      refine Inv.turnedM (s := { s with heap := s.heap.push { cls := .type "tuple", data := .seq #[.int i tk, u] } }) (h' := h2) (t' := tk + 1) (fp := [e, it]) I0 (fun c o nc e0 => ?_) hf0
      simp only [List.mem_cons, List.not_mem_nil, or_false, not_or] at nc
      obtain ⟨n1, n2⟩ := nc
      rcases Heap.get?_push_cases e0 with ⟨rfl, rfl⟩ | e0
      · exact b2.extBut _ _ n1 a3
      · exact b2.extBut _ _ n1 (a5 c o n1 n2 e0)
    refine ⟨.ref s.heap.objs.size, _, I1, rfl, ⟨_, rfl, fr, fun xs' x' q1' g1' => ?_⟩, ⟨⟨_, by exact_mod_cast b1⟩, a2.1.at fun o e0 => b2.extBut _ _ (Ne.symm D) e0, ne1, ne2⟩, fun c hc => (hf0 c hc).1⟩
    have ex : xs' = xs := I.tuple_inj q1' q1
    subst ex
    rw [g1] at g1'
    cases g1'
    rfl
  done := by
    intro X hP hw hK hc i pins s σ H E I hf st hg
    subst hP hw hK
    obtain ⟨⟨old, ez⟩, s1, ne1, ne2⟩ := st
    obtain ⟨xs, q1, g⟩ := hg
    obtain ⟨its1, r1, p1, z1⟩ := I.tuple q1
    have l1 := r1.length
    have t1 : s.heap.IsTuple a its1.toArray := p1
    have ei : its1.toArray.size = i := by simp; omega
    refine wpAny_pyNext_enum_endD (draws_tuple (A := X.A.in1) (show X.A.in1.handled = none from I.ok.hd hc) it a ne1 its1.toArray) ez (by rw [ei]; exact ⟨s1, t1⟩) fun h' kk => ⟨rfl, ?_⟩
    refine I.turnedM (t' := s.toks) (fp := [e, it]) (fun c o nc e0 => ?_) hf
    simp only [List.mem_cons, List.not_mem_nil, or_false, not_or] at nc
    exact kk c o nc.2 e0
  self := fun _ _ _ _ _ st h => by
    obtain ⟨⟨old, ez⟩, _⟩ := st
    exact wpAny_pyIter_enum ez h
section
variable {X : Cx}
def iEnumT (K : PySem.W.Frag) (ta : TA) : TI := fun σ H R => ta σ H fun vs H1 => ∃ a xs, vs = [.ref a] ∧ SqT K H1 a xs ∧ R (Iten K a) H1
theorem pi_enumT {a : Expr} {ta : TA} {p pos : Pos} {elts : List Expr} {kk : Nat} {tp : Pos} (hg : Gl X "enumerate") (hm : X.mg "enumerate" = none) (ha : PA X [a] ta) (hs : starEach [a] X.env = [(false, eval a X.env)] := by rfl) :
    PI X (.Tuple elts kk tp) (.Call (.Name "enumerate" p) [a] [] pos) (iEnumT X.K ta) := by
  intro pins s σ H R I h
  refine Call_ (ld_blt I hg hm (show bootBuiltins "enumerate" = some (.type "enumerate") by decide +kernel) (PyProof.Rows.callWith_type1 (thn (ha pos pins s σ H _ I h) fun us s1 ⟨vs, H1, I1, r1, q1⟩ => ?_) (by rw [hs]; rfl) (by rfl)))
  obtain ⟨ea, xs, rfl, h1, q⟩ := q1
  obtain ⟨u1, rfl, rr1⟩ := vals1 r1
  cases rr1
  obtain ⟨its1, v1, p1, z1⟩ := I1.tuple h1
  have t1 : s1.heap.IsTuple ea its1.toArray := p1
  obtain ⟨oa, eoa, _⟩ := id t1
  have la : ea < s1.heap.objs.size := Heap.lt_size eoa
  refine call_enumT t1 fun h' c1 c2 c3 c4 => ?_
  refine wpAny_pyIter_enum (s := { s1 with heap := h' }) c1 ?_
  refine ⟨s1.heap.objs.size + 1, [s1.heap.objs.size + 1, s1.heap.objs.size], _, _, H1, rfl, I1.kept (t' := s1.toks) c4, turn_enumT (Nat.succ_ne_self _), ⟨⟨_, c1⟩, c2, Nat.ne_of_lt la, Nat.ne_of_lt (Nat.lt_succ_of_lt la)⟩, fun c hc => ?_, q⟩
  have hge : s1.heap.objs.size ≤ c := by
    simp only [List.mem_cons, List.not_mem_nil, or_false] at hc
    rcases hc with rfl | rfl
    · exact Nat.le_add_right _ 1
    · exact Nat.le_refl _
  exact I1.fpOk hge (I1.hok.fresh hge)
theorem for_enumT {K : PySem.W.Frag} {a : Addr} {xs : List V} {g : TG} {tb : TS} {D : Ends} {σ : St} {H : Hp} (Pv : Nat → St → Hp → Prop) (h0 : Pv 0 σ H) (hl : ∀ i σ H, i ≤ xs.length → Pv i σ H → SqT K H a xs)
    (hs : ∀ i x T σ H, xs[i]? = some x → H T = none → Pv i σ H → g (.ref T) σ (upd H T (.tup [.int i, x])) fun σ2 H2 => tb { D with nx := Pv (i + 1), ct := Pv (i + 1), bk := D.nx } σ2 H2) (hd : ∀ σ H, Pv xs.length σ H → D.nx σ H) :
    ∃ W : Nat → Nat → St → Hp → Prop, (∃ m, W 0 m σ H) ∧ ∀ i m σ H, W i m σ H →
      ((Iten K a).stop i H ∧ D.nx σ H) ∨ ((Iten K a).go i H ∧ ∃ N : St → Hp → Prop, (∀ σ' H', N σ' H' → ∃ m', m' < m ∧ W (i + 1) m' σ' H') ∧ ∀ x H', (Iten K a).yld i H x H' → g x σ H' fun σ2 H2 => tb { D with nx := N, ct := N, bk := D.nx } σ2 H2) := by
  refine ⟨fun i m σ H => m = xs.length - i ∧ i ≤ xs.length ∧ Pv i σ H, ⟨xs.length, rfl, Nat.zero_le _, h0⟩, ?_⟩
  rintro i m σ H ⟨rfl, hi, p⟩
  have q1 := hl i σ H hi p
  rcases Nat.lt_or_ge i xs.length with hlt | hge
  · refine .inr ⟨⟨xs, xs[i], q1, List.getElem?_eq_getElem hlt⟩, Pv (i + 1), fun σ' H' p' => ⟨xs.length - (i + 1), by omega, rfl, hlt, p'⟩, fun x H' y => ?_⟩
    obtain ⟨T, rfl, hT, e⟩ := y
    have e' := e xs xs[i] q1 (List.getElem?_eq_getElem hlt)
    subst e'
    exact hs i xs[i] T σ H (List.getElem?_eq_getElem hlt) hT p
  · have e : i = xs.length := by omega
    subst e
    exact .inl ⟨⟨xs, q1, rfl⟩, hd σ H p⟩
/-! ### a tuple's count -/
def rCountT : V → List V → Hp → VK → Prop := fun x vs H Q => ∃ (p : Addr) (xs : List V) (y : V), x = .ref p ∧ vs = [y] ∧ H p = some (.tup xs) ∧ flatV y = true ∧ xs.all flatV = true ∧ Q (.int ((xs.countP fun z => eqV z y : Nat) : Int)) H
def tBMT (r : V → List V → Hp → VK → Prop) (to : TE) (t : TA) : TE := fun σ H Q => to σ H fun x H1 => (∃ p xs, x = .ref p ∧ H1 p = some (.tup xs)) ∧ t σ H1 fun xs H2 => r x xs H2 Q
variable {o e : Expr} {es : List Expr} {to : TE} {t : TA} {name : Str} {apos cpos : Pos} {id : String} {r : V → List V → Hp → VK → Prop}
theorem pe_bmT (slot : Slot "tuple" name id) (hty : typeOf (.builtin id) = pure (.type "method_descriptor")) (hm : MtM X id r) (ho : PE X o to) (ha : PA X (e :: es) t)
    (hbase : attributeBase o name X.env (eval o X.env) = eval o X.env := by rfl)
    (hfew : ((backTo cpos (starEach (e :: es) X.env)).all (fun x => !x.1) && (backToKw cpos (keywordEach [] X.env)).all (fun x => x.1.isSome)
      && decide ((e :: es).length + ([] : List Keyword).length + (if ([] : List Keyword).isEmpty then 0 else 1) < 30)) = true := by rfl)
    (hline : (apos.endLine == cpos.line) = true := by rfl) (hs : starEach (e :: es) X.env = (false, eval e X.env) :: starEach es X.env := by rfl) (hplain : (backTo cpos (starEach es X.env)).any (·.1) = false := by rfl) :
    PE X (.Call (.Attribute o name apos) (e :: es) [] cpos) (tBMT r to t) := by
  intro pins s σ H Q I h
  refine wpAny_Call_method_late hbase hfew hline rfl (thn (ho pins s σ H _ I h) fun v s1 ⟨x, H1, I1, r1, ⟨p, xs, ex, hp⟩, q1⟩ => ?_)
  subst ex
  cases r1
  obtain ⟨_, its, rv, ob, e1, e2, e3, _⟩ := (show ObjOk X.prog X.w H1 s1.heap p (.tup xs) from I1.hok p _ hp)
  refine ⟨"tuple", id, F.plainAttrs_tuple, slot, hty, ⟨ob, e1, e2⟩, fun a e => ?_, ?_⟩
  · cases e
    exact ⟨ob, e1, e3⟩
  have hA := ha cpos pins s1 σ H1 _ I1 q1
  rw [hs] at hA ⊢
  refine Calls.callWith_builtin (by show (false || (backTo cpos (starEach es X.env)).any (·.1)) = false; rw [hplain] <;> rfl) (Calls.evalArgs_plain ?_)
  exact thn hA fun us s2 ⟨vs, H2, I2, r2, q2⟩ => hm pins s2 σ H2 (.ref p) vs _ us Q I2 rfl r2 q2
theorem countP_vals {y : V} : ∀ {xs : List V} {its : List Value}, Vals xs its → xs.all flatV = true → its.countP (eqU y) = xs.countP fun z => eqV z y
  | _, _, .nil, _ => rfl
  | x :: xs, u :: its, .cons r t, h => by
    rw [List.all_cons, Bool.and_eq_true] at h
    rw [List.countP_cons, List.countP_cons, eqU_of r h.1, countP_vals t h.2]
theorem mt_countT : MtM X "tuple.count" rCountT := by
  intro pins s σ H x vs v us Q I rx rv h
  obtain ⟨p, xs, y, rfl, rfl, hp, fy, fs, q⟩ := h
  cases rx
  obtain ⟨u, rfl, ru⟩ := rv.one
  obtain ⟨hz, its, r, ob, e1, e2, e3, n, e4⟩ := (show ObjOk X.prog X.w H s.heap p (.tup xs) from I.hok p _ hp)
  obtain ⟨c1, c2, c3, c4⟩ := ob
  dsimp only at e2 e3 e4
  subst e2 e3 e4
  refine call_meets F.slot_tuple_count ⟨_, e1, rfl⟩ F.entry_tuple_count (F.args_tuple_count_2 _ _) (SeqAt.tuple_countAt p its.toArray n none c4 u (eqU y)) ⟨e1, fun w' hw => mem_eqAt ru fy r fs w' (by simpa using hw), ?_⟩
  refine ⟨.int ((its.countP (eqU y) : Nat) : Int), H, I.kept (t' := s.toks + 1) fun b o e => e, ⟨s.toks, rfl⟩, ?_⟩
  rw [countP_vals r fs]
  exact q
end
end L2
set_option maxHeartbeats 4000000
namespace L2
open PySem PySem.Spec PyProof.Rows
section
variable {X : Cx}
/-! ### a slice of a list with a step -/
def pickV (xs : List V) (lo hi st : Option Int) : List V := (sliceRange (sliceBounds lo hi st xs.length).1 (sliceBounds lo hi st xs.length).2.1 (sliceBounds lo hi st xs.length).2.2).filterMap fun i => xs[i]?
theorem vals_none : ∀ {xs : List V} {us : List Value}, Vals xs us → ∀ {i : Nat}, xs[i]? = none → us[i]? = none := fun h i e => by
  have l := h.length
  rw [List.getElem?_eq_none_iff] at e ⊢
  omega
theorem vals_pick {xs : List V} {us : List Value} (h : Vals xs us) : ∀ l : List Nat, Vals (l.filterMap fun i => xs[i]?) (l.filterMap fun i => us[i]?)
  | [] => .nil
  | i :: r => by
    rw [List.filterMap_cons, List.filterMap_cons]
    cases e : xs[i]? with
    | none =>
      rw [vals_none h e]
      exact vals_pick h r
    | some x =>
      obtain ⟨u, hu, w⟩ := h.get e
      rw [hu]
      exact .cons w (vals_pick h r)
def rSlS3 (K : PySem.W.Frag) : V → Option Int → Option Int → Option Int → Hp → VK → Prop := fun x lo hi st H Q => ∃ a xs, x = .ref a ∧ SqL K H a xs ∧ st ≠ some 0 ∧ ∀ p, H p = none → Q (.ref p) (upd H p (.lst (pickV xs lo hi st)))
def tSl3 (r : V → Option Int → Option Int → Option Int → Hp → VK → Prop) (te : TE) (tl th ts : TO) : TE := fun σ H Q => te σ H fun x H1 => tl σ H1 fun l H2 => th σ H2 fun u H3 => ts σ H3 fun t H4 => r x l u t H4 Q
theorem pe_slice3 {e st : Expr} {lo hi : Option Expr} {te : TE} {tl th ts : TO} {p2 pos : Pos} (he : PE X e te) (hl : PO X lo tl) (hu : PO X hi th) (hs : PO X (some st) ts) (hv : ∀ o r : Value, letTemporaryGo e o r = pure () := by intro _ _; rfl) : PE X (.Subscript e (.Slice lo hi (some st) p2) pos) (tSl3 (rSlS3 X.K) te tl th ts) := by
  intro pins s σ H Q I h
  refine wpAny_Subscript_Slice_step slot_list_getitem.lookup (thn (he pins s σ H _ I h) fun v s1 ⟨x, H1, I1, r1, q1⟩ => ?_) hv
  refine wpAny_Slice (thn (hl pins s1 σ H1 _ I1 q1) fun vl s2 ⟨l, H2, I2, pl, q2⟩ => thn (hu pins s2 σ H2 _ I2 q2) fun vu s3 ⟨u, H3, I3, pu, q3⟩ => thn (hs pins s3 σ H3 _ I3 q3) fun vt s4 ⟨t, H4, I4, pt, q4⟩ => ?_)
  have I5 : Inv X pins σ H4 { s4 with heap := s4.heap.push { cls := .type "slice", data := .fields #[vl, vu, vt] } } := I4.kept (t' := s4.toks) fun b ob q => Heap.get?_push_of_some _ q
  obtain ⟨a, xs, rfl, hx, hz0, q⟩ := q4
  cases r1
  obtain ⟨its, r, ht, hz⟩ := I5.list hx
  have hlen := r.length
  refine ⟨ht.isList.typeIs, ?_⟩
  refine wpAny_getItem_list_slice ht.isList (Heap.IsSliceOf.new ..) pl pu pt hz0 ?_ (by rw [List.size_toArray] <;> omega)
  have sz := slicePick_size_le its.toArray l u t
  have hv : Vals (pickV xs l u t) (slicePick its.toArray l u t).toList := by
    have := vals_pick r (sliceRange (sliceBounds l u t xs.length).1 (sliceBounds l u t xs.length).2.1 (sliceBounds l u t xs.length).2.2)
    unfold slicePick pickV
    rw [List.size_toArray, ← hlen]
    simpa using this
  have hvl := hv.length
  refine ⟨.ref _, _, I5.laid (t' := s4.toks) (o := .lst (pickV xs l u t)) (fun b ob q => Heap.get?_push_of_some _ q) (Nat.le_refl _) ?_, rfl, q _ (I5.hok.fresh (Nat.le_refl _))⟩
  refine ⟨?_, _, 0, hv, by rw [Array.toArray_toList]; exact Heap.get?_push_size _ rfl⟩
  rw [hvl, Array.length_toList]
  have e1 : its.toArray.size = its.length := List.size_toArray
  omega
theorem pick_even {xs : List V} {y : V} (h : y ∈ pickV xs none none (some 2)) : ∃ j, xs[2 * j]? = some y := by
  unfold pickV at h
  obtain ⟨i, hi, e⟩ := List.mem_filterMap.mp h
  unfold sliceRange at hi
  obtain ⟨k, _, rfl⟩ := List.mem_map.mp hi
  refine ⟨k, ?_⟩
  rw [← e]
  congr 1
  show 2 * k = ((0 : Int) + 2 * (k : Int)).toNat
  omega
theorem pick_len {xs : List V} : (pickV xs none none (some 2)).length ≤ xs.length + 1 := by
  unfold pickV
  refine Nat.le_trans (List.length_filterMap_le _ _) ?_
  unfold sliceRange
  rw [List.length_map, List.length_range]
  show (if (2 : Int) > 0 then if (0 : Int) < (xs.length : Int) then ((xs.length : Int) - 0 + 2 - 1) / 2 else 0 else _).toNat ≤ _
  rw [if_pos (by decide)]
  split <;> omega
/-! ### two tuples, alike or not -/
inductive EqI (K : PySem.W.Frag) (H : Hp) : V → V → Bool → Prop
  | flat {x y : V} : flatV x = true → flatV y = true → EqI K H x y (eqV x y)
  | tb {a : Addr} {xs : List V} {b : Bool} : SqT K H a xs → EqI K H (.ref a) (.bl b) false
  | lb {a : Addr} {xs : List V} {b : Bool} : SqL K H a xs → EqI K H (.ref a) (.bl b) false
def rEqTT (K : PySem.W.Frag) : V → V → Hp → VK → Prop := fun x y H Q => ∃ (a b : Addr) (ts us : List V) (e : Nat → Bool), x = .ref a ∧ y = .ref b ∧ SqT K H a ts ∧ SqT K H b us ∧ (∀ j x y, ts[j]? = some x → us[j]? = some y → EqI K H x y (e j)) ∧ Q (.bl ((List.range (min ts.length us.length)).all e && ts.length == us.length)) H
theorem op_eqTT (hu : X.A.units + 8 < cLine) : OpR X (compareOp .Eq) (rEqTT X.K) := by
  intro pins s σ H x y v u Q I r1 r2 h
  obtain ⟨a, b, ts, us, e, rfl, rfl, h1, h2, he, q⟩ := h
  cases r1
  cases r2
  obtain ⟨i1, w1, p1, z1⟩ := I.tuple h1
  obtain ⟨i2, w2, p2, z2⟩ := I.tuple h2
  have l1 := w1.length
  have l2 := w2.length
  have rc := SeqAt.RcAt.tuples (A := X.A) (e := e) p1 p2 (by omega) (fun j j1 j2 => by
    have j1' : j < i1.length := by simpa using j1
    have j2' : j < i2.length := by simpa using j2
    have jx : j < ts.length := by omega
    have jy : j < us.length := by omega
    obtain ⟨u1, e1, v1⟩ := w1.get (i := j) (x := ts[j]) (List.getElem?_eq_getElem jx)
    obtain ⟨u2, e2, v2⟩ := w2.get (i := j) (x := us[j]) (List.getElem?_eq_getElem jy)
    rw [List.getElem?_eq_getElem j1'] at e1
    rw [List.getElem?_eq_getElem j2'] at e2
    have g1 : i1.toArray[j] = u1 := by simpa using Option.some.inj e1
    have g2 : i2.toArray[j] = u2 := by simpa using Option.some.inj e2
    rw [g1, g2]
    have q := he j _ _ (List.getElem?_eq_getElem jx) (List.getElem?_eq_getElem jy)
    generalize ts[j] = tx at q v1
    generalize us[j] = ty at q v2
    generalize e j = ej at q
    cases q with
    | flat f1 f2 => exact eqAt_V v1 v2 f1 f2
    | tb h =>
      obtain ⟨i3, w3, p3, z3⟩ := I.tuple h
      cases v1
      cases v2
      exact SeqAt.EqAt.tuple_bool _ p3 (by show X.A.units + 1 < cLine; omega)
    | lb h =>
      obtain ⟨i3, w3, p3, z3⟩ := I.list h
      cases v1
      cases v2
      exact SeqAt.EqAt.list_bool _ p3.isList (by show X.A.units + 1 < cLine; omega))
  refine rc _ _ _ _ ⟨.bl _, H, I, rfl, ?_⟩
  rw [List.size_toArray, List.size_toArray, ← l1, ← l2]
  exact q
/-! ### a def with defaults -/
structure FunD (K : PySem.W.Frag) (x qual : Str) (st : Stmt) (f : Addr) (fd : FuncData) : Prop where
  ex : ∃ (oc : Value) (od : Option Addr) (dV kV doc pm : Value) (an : Option Addr) (cdv ct : Value) (osl : Array (Option Value)),
    fd = PySem.W.fnOf x qual (defArgs st) (defBody st) (defScope st) dV kV doc pm an cdv ct ∧ K.lookup f = some ⟨oc, od, .func fd, osl⟩ ∧ PySem.W.codeIn K cdv qual = true
  kp : PySem.W.keepIn K (.ref f) = true
theorem FunD.ok {P : Program} {w : World} {K : PySem.W.Frag} {mg : Str → Option Value} {base : Heap} {x qual : Str} {st : Stmt} {f : Addr} {fd : FuncData} {N ps : List Str} {k : Nat} {sp : Sp} (F : FunD K x qual st f fd) (S : FnScope N ps (defScope st)) (len : ∀ vs H Q E, sp vs H Q E → vs.length = ps.length)
    (hbody : ∀ (cdv : Value) (A : Around) (outer : List Env) (s : Shared) (H : Hp) (vs : List V) (Q : VK) (E : XK), Room k (A.deeper (envOfC qual (defScope st) s.heap.objs.size f cdv)) → sp vs H Q E →
      ∃ t, PSs (cxOf CX0 P w K mg base N qual (defScope st) f cdv A outer s H E).nox (defBody st) t ∧ t { nx := fun _ H' => Q .non H', rt := Q } (start N vs) H) : FnOk P w K mg base CX0 (k + 1) f fd ps sp := by
  obtain ⟨oc, od, dV, kV, doc, pm, an, cdv, ct, osl, rfl, lk, hcd⟩ := F.ex
  refine fn_of lk hcd S len fun A outer s H vs Q E hr hsp => ?_
  obtain ⟨t, h, q⟩ := hbody cdv A outer s H vs Q E hr hsp
  exact ⟨t, h.nox, q⟩
end
end L2
/-! ### conditions as data -/
namespace CD
open PySem L2 PyProof.Rows
inductive Cd where
  | truth (b : Bool)
  | same (x y : Key)
  | all (l : List Cd)
  | one (l : List Cd)
  | opp (c : Cd)
def come (f : Str → Int) : Key → Int
  | .inl i => i
  | .inr x => f x
mutual
def ev (f : Str → Int) : Cd → Bool
  | .truth b => b
  | .same x y => come f x == come f y
  | .all l => evA f l
  | .one l => evO f l
  | .opp c => !ev f c
def evA (f : Str → Int) : List Cd → Bool
  | [] => true
  | c :: r => ev f c && evA f r
def evO (f : Str → Int) : List Cd → Bool
  | [] => false
  | c :: r => ev f c || evO f r
end
mutual
def cells : Cd → List Key
  | .truth _ => []
  | .same x y => [x, y]
  | .all l => cellsL l
  | .one l => cellsL l
  | .opp c => cells c
def cellsL : List Cd → List Key
  | [] => []
  | c :: r => cells c ++ cellsL r
end
mutual
def atoms : Cd → Int
  | .truth _ => 0
  | .same _ _ => 1
  | .all l => atomsL l
  | .one l => atomsL l
  | .opp c => atoms c
def atomsL : List Cd → Int
  | [] => 0
  | c :: r => atoms c + atomsL r
end
mutual
def depth : Cd → Nat
  | .truth _ => 1
  | .same _ _ => 1
  | .all l => depthL l + 1
  | .one l => depthL l + 1
  | .opp c => depth c + 1
def depthL : List Cd → Nat
  | [] => 0
  | c :: r => max (depth c) (depthL r)
end
theorem evA_all (f : Str → Int) : ∀ l : List Cd, evA f l = l.all (ev f)
  | [] => by simp [evA]
  | c :: r => by simp [evA, evA_all f r]
theorem evO_any (f : Str → Int) : ∀ l : List Cd, evO f l = l.any (ev f)
  | [] => by simp [evO]
  | c :: r => by simp [evO, evO_any f r]
theorem cellsL_mem {k : Key} : ∀ {l : List Cd}, k ∈ cellsL l ↔ ∃ c ∈ l, k ∈ cells c
  | [] => by simp [cellsL]
  | c :: r => by simp [cellsL, cellsL_mem (l := r)]
theorem depthL_le {n : Nat} : ∀ {l : List Cd}, depthL l ≤ n ↔ ∀ c ∈ l, depth c ≤ n
  | [] => by simp [depthL]
  | c :: r => by simp [depthL, Nat.max_le, depthL_le (l := r)]
theorem atomsL_sum : ∀ l : List Cd, atomsL l = (l.map atoms).sum
  | [] => by simp [atomsL]
  | c :: r => by simp [atomsL, atomsL_sum r]
theorem depth_pos : ∀ c : Cd, 0 < depth c
  | .truth _ => by simp [depth]
  | .same _ _ => by simp [depth]
  | .all _ => by simp [depth]
  | .one _ => by simp [depth]
  | .opp _ => by simp [depth]
mutual
/-- the same at fillings that are alike at the gaps -/
theorem ev_congr {f g : Str → Int} : ∀ c : Cd, (∀ x, Sum.inr x ∈ cells c → f x = g x) → ev f c = ev g c
  | .truth _, _ => by simp [ev]
  | .same x y, h => by
    have hx : come f x = come g x := by
      cases x with
      | inl i => rfl
      | inr s => exact h s (by simp [cells])
    have hy : come f y = come g y := by
      cases y with
      | inl i => rfl
      | inr s => exact h s (by simp [cells])
    simp [ev, hx, hy]
  | .all l, h => by simp only [ev]; exact (evL_congr l h).1
  | .one l, h => by simp only [ev]; exact (evL_congr l h).2
  | .opp c, h => by simp only [ev]; rw [ev_congr c (fun x hx => h x (by simpa [cells] using hx))]
theorem evL_congr {f g : Str → Int} : ∀ l : List Cd, (∀ x, Sum.inr x ∈ cellsL l → f x = g x) → evA f l = evA g l ∧ evO f l = evO g l
  | [], _ => ⟨rfl, rfl⟩
  | c :: r, h => by
    have h1 := ev_congr c (fun x hx => h x (by simp [cellsL, hx]))
    have h2 := evL_congr r (fun x hx => h x (by simp [cellsL, hx]))
    simp only [evA, evO, h1, h2.1, h2.2, and_self]
end
def nogap (c : Cd) : Bool := (cells c).all fun k => k.isLeft
theorem nogap_iff {c : Cd} : nogap c = true ↔ ∀ x, Sum.inr x ∉ cells c := by
  unfold nogap
  rw [List.all_eq_true]
  constructor
  · intro h x hx
    have := h _ hx
    cases this
  · intro h k hk
    cases k with
    | inl i => rfl
    | inr x => exact absurd hk (h x)
def setl (c : Cd) : V := if nogap c = true then .bl (ev (fun _ => 0) c) else .non
theorem setl_yes {c : Cd} (h : nogap c = true) (f : Str → Int) : setl c = .bl (ev f c) := by
  unfold setl
  rw [if_pos h, ev_congr (f := fun _ => 0) (g := f) c (fun x hx => absurd hx (nogap_iff.mp h x))]
theorem setl_no {c : Cd} (h : nogap c = false) : setl c = .non := by
  unfold setl
  rw [if_neg (by rw [h]; exact Bool.false_ne_true)]
/-! ### conditions as objects -/
/-- the five classes -/
structure Cl where
  t : Addr
  s : Addr
  a : Addr
  o : Addr
  p : Addr
def Cl.of (T : Cl) : Cd → Addr
  | .truth _ => T.t
  | .same _ _ => T.s
  | .all _ => T.a
  | .one _ => T.o
  | .opp _ => T.p
def meths : List Str := ["holds", "worked", "truth", "gaps", "standing", "atoms", "put", "replaced"]
/-- what each condition keeps -/
structure Bas (H : Hp) (fs : List (Str × V)) (c : Cd) : Prop where
  gp : ∃ (tg : Addr) (gs : List Str), fs.lookup ("kept_gaps" : Str) = some (.ref tg) ∧ H tg = some (.tup (gs.map V.str)) ∧ gs.Nodup ∧ sortedS gs = true ∧ ∀ x, x ∈ gs ↔ Sum.inr x ∈ cells c
  vp : ∃ (tv : Addr) (vs : List Int), fs.lookup ("kept_values" : Str) = some (.ref tv) ∧ H tv = some (.tup (vs.map V.int)) ∧ vs.Nodup ∧ vs.Pairwise (· ≤ ·) ∧ ∀ x, x ∈ vs ↔ Sum.inl x ∈ cells c
  at_ : fs.lookup ("kept_atoms" : Str) = some (.int (atoms c))
  st : fs.lookup ("settled" : Str) = some (setl c)
mutual
/-- the condition c stands at v -/
def IsC (T : Cl) (H : Hp) : Cd → V → Prop
  | .truth b, v => ∃ a dx fs, v = .ref a ∧ H a = some (.ins T.t dx fs) ∧ (∀ m ∈ meths, fs.lookup m = none) ∧ Bas H fs (.truth b) ∧ fs.lookup ("said" : Str) = some (.bl b)
  | .same x y, v => ∃ a dx fs, v = .ref a ∧ H a = some (.ins T.s dx fs) ∧ (∀ m ∈ meths, fs.lookup m = none) ∧ Bas H fs (.same x y) ∧ fs.lookup ("one" : Str) = some (kV x) ∧ fs.lookup ("other" : Str) = some (kV y)
  | .all l, v => ∃ a dx fs, v = .ref a ∧ H a = some (.ins T.a dx fs) ∧ (∀ m ∈ meths, fs.lookup m = none) ∧ Bas H fs (.all l) ∧ ∃ tp xs, fs.lookup ("parts" : Str) = some (.ref tp) ∧ H tp = some (.tup xs) ∧ IsL T H l xs
  | .one l, v => ∃ a dx fs, v = .ref a ∧ H a = some (.ins T.o dx fs) ∧ (∀ m ∈ meths, fs.lookup m = none) ∧ Bas H fs (.one l) ∧ ∃ tp xs, fs.lookup ("parts" : Str) = some (.ref tp) ∧ H tp = some (.tup xs) ∧ IsL T H l xs
  | .opp c, v => ∃ a dx fs, v = .ref a ∧ H a = some (.ins T.p dx fs) ∧ (∀ m ∈ meths, fs.lookup m = none) ∧ Bas H fs (.opp c) ∧ ∃ u, fs.lookup ("part" : Str) = some u ∧ IsC T H c u
def IsL (T : Cl) (H : Hp) : List Cd → List V → Prop
  | [], xs => xs = []
  | c :: r, xs => ∃ x ys, xs = x :: ys ∧ IsC T H c x ∧ IsL T H r ys
end
/-- its own fields -/
def Own (T : Cl) (H : Hp) (fs : List (Str × V)) : Cd → Prop
  | .truth b => fs.lookup ("said" : Str) = some (.bl b)
  | .same x y => fs.lookup ("one" : Str) = some (kV x) ∧ fs.lookup ("other" : Str) = some (kV y)
  | .all l => ∃ tp xs, fs.lookup ("parts" : Str) = some (.ref tp) ∧ H tp = some (.tup xs) ∧ IsL T H l xs
  | .one l => ∃ tp xs, fs.lookup ("parts" : Str) = some (.ref tp) ∧ H tp = some (.tup xs) ∧ IsL T H l xs
  | .opp c => ∃ u, fs.lookup ("part" : Str) = some u ∧ IsC T H c u
theorem isC_iff {T : Cl} {H : Hp} {c : Cd} {v : V} : IsC T H c v ↔ ∃ a dx fs, v = .ref a ∧ H a = some (.ins (T.of c) dx fs) ∧ (∀ m ∈ meths, fs.lookup m = none) ∧ Bas H fs c ∧ Own T H fs c := by
  cases c <;> simp only [IsC, Own, Cl.of]
/-- tuples and objects stay -/
structure Kp (H H' : Hp) : Prop where
  tup : ∀ b xs, H b = some (.tup xs) → H' b = some (.tup xs)
  ins : ∀ b C dx fs, H b = some (.ins C dx fs) → H' b = some (.ins C dx fs)
theorem Kp.of {H H' : Hp} (s : Same H H') : Kp H H' := ⟨fun b xs h => s b _ h, fun b C dx fs h => s b _ h⟩
theorem Kp.trans {H H1 H2 : Hp} (a : Kp H H1) (b : Kp H1 H2) : Kp H H2 := ⟨fun c xs h => b.tup c xs (a.tup c xs h), fun c C dx fs h => b.ins c C dx fs (a.ins c C dx fs h)⟩
theorem Bas.kp {H H' : Hp} {fs : List (Str × V)} {c : Cd} (k : Kp H H') (b : Bas H fs c) : Bas H' fs c := by
  obtain ⟨⟨tg, gs, e1, e2, e3⟩, ⟨tv, vs, e4, e5, e6⟩, e7, e8⟩ := b
  exact ⟨⟨tg, gs, e1, k.tup _ _ e2, e3⟩, ⟨tv, vs, e4, k.tup _ _ e5, e6⟩, e7, e8⟩
mutual
theorem IsC.kp {T : Cl} {H H' : Hp} (k : Kp H H') : ∀ {c : Cd} {v : V}, IsC T H c v → IsC T H' c v
  | .truth b, v, h => by
    simp only [IsC] at h ⊢
    obtain ⟨a, dx, fs, e1, e2, e3, e4, e5⟩ := h
    exact ⟨a, dx, fs, e1, k.ins _ _ _ _ e2, e3, e4.kp k, e5⟩
  | .same x y, v, h => by
    simp only [IsC] at h ⊢
    obtain ⟨a, dx, fs, e1, e2, e3, e4, e5⟩ := h
    exact ⟨a, dx, fs, e1, k.ins _ _ _ _ e2, e3, e4.kp k, e5⟩
  | .all l, v, h => by
    simp only [IsC] at h ⊢
    obtain ⟨a, dx, fs, e1, e2, e3, e4, tp, xs, e5, e6, e7⟩ := h
    exact ⟨a, dx, fs, e1, k.ins _ _ _ _ e2, e3, e4.kp k, tp, xs, e5, k.tup _ _ e6, IsL.kp k e7⟩
  | .one l, v, h => by
    simp only [IsC] at h ⊢
    obtain ⟨a, dx, fs, e1, e2, e3, e4, tp, xs, e5, e6, e7⟩ := h
    exact ⟨a, dx, fs, e1, k.ins _ _ _ _ e2, e3, e4.kp k, tp, xs, e5, k.tup _ _ e6, IsL.kp k e7⟩
  | .opp c, v, h => by
    simp only [IsC] at h ⊢
    obtain ⟨a, dx, fs, e1, e2, e3, e4, u, e5, e6⟩ := h
    exact ⟨a, dx, fs, e1, k.ins _ _ _ _ e2, e3, e4.kp k, u, e5, IsC.kp k e6⟩
theorem IsL.kp {T : Cl} {H H' : Hp} (k : Kp H H') : ∀ {l : List Cd} {xs : List V}, IsL T H l xs → IsL T H' l xs
  | [], xs, h => h
  | c :: r, xs, h => by
    simp only [IsL] at h ⊢
    obtain ⟨x, ys, e, h1, h2⟩ := h
    exact ⟨x, ys, e, IsC.kp k h1, IsL.kp k h2⟩
end
theorem Own.kp {T : Cl} {H H' : Hp} {fs : List (Str × V)} {c : Cd} (k : Kp H H') (h : Own T H fs c) : Own T H' fs c := by
  cases c with
  | truth b => exact h
  | same x y => exact h
  | all l => obtain ⟨tp, xs, e1, e2, e3⟩ := h; exact ⟨tp, xs, e1, k.tup _ _ e2, e3.kp k⟩
  | one l => obtain ⟨tp, xs, e1, e2, e3⟩ := h; exact ⟨tp, xs, e1, k.tup _ _ e2, e3.kp k⟩
  | opp c => obtain ⟨u, e1, e2⟩ := h; exact ⟨u, e1, e2.kp k⟩
theorem isL_get {T : Cl} {H : Hp} : ∀ {l : List Cd} {xs : List V} {i : Nat} {x : V}, IsL T H l xs → xs[i]? = some x → ∃ c, l[i]? = some c ∧ IsC T H c x
  | [], xs, i, x, h, e => by simp only [IsL] at h; subst h; simp at e
  | c :: r, xs, 0, x, h, e => by
    simp only [IsL] at h
    obtain ⟨y, ys, rfl, h1, h2⟩ := h
    simp at e; subst e
    exact ⟨c, rfl, h1⟩
  | c :: r, xs, i + 1, x, h, e => by
    simp only [IsL] at h
    obtain ⟨y, ys, rfl, h1, h2⟩ := h
    obtain ⟨d, h3, h4⟩ := isL_get h2 (i := i) (x := x) (by simpa using e)
    exact ⟨d, by simpa using h3, h4⟩
theorem isL_len {T : Cl} {H : Hp} : ∀ {l : List Cd} {xs : List V}, IsL T H l xs → l.length = xs.length
  | [], xs, h => by simp only [IsL] at h; subst h; rfl
  | c :: r, xs, h => by
    simp only [IsL] at h
    obtain ⟨y, ys, rfl, _, h2⟩ := h
    simp [isL_len h2]
theorem isL_snoc {T : Cl} {H : Hp} {c : Cd} {x : V} : ∀ {l : List Cd} {xs : List V}, IsL T H l xs → IsC T H c x → IsL T H (l ++ [c]) (xs ++ [x])
  | [], xs, h, h' => by simp only [IsL] at h; subst h; simp only [List.nil_append, IsL]; exact ⟨x, [], rfl, h', rfl⟩
  | d :: r, xs, h, h' => by
    simp only [IsL] at h
    obtain ⟨y, ys, rfl, h1, h2⟩ := h
    simp only [List.cons_append, IsL]
    exact ⟨y, ys ++ [x], rfl, h1, isL_snoc h2 h'⟩
/-! ### small facts -/
theorem nodup_sub {α : Type} [DecidableEq α] : ∀ {l m : List α}, l.Nodup → (∀ x ∈ l, x ∈ m) → l.length ≤ m.length
  | [], m, _, _ => Nat.zero_le _
  | a :: r, m, h, hs => by
    obtain ⟨h1, h2⟩ := List.nodup_cons.mp h
    have ha := hs a List.mem_cons_self
    have := nodup_sub (l := r) (m := m.erase a) h2 (fun x hx => (List.mem_erase_of_ne (show x ≠ a from fun e => h1 (e ▸ hx))).mpr (hs x (List.mem_cons_of_mem _ hx)))
    rw [List.length_erase_of_mem ha] at this
    have hp : 0 < m.length := List.length_pos_of_mem ha
    rw [List.length_cons]
    omega
def strsIn (l : List Key) : List Str := l.filterMap fun k => match k with | .inl _ => none | .inr x => some x
def intsIn (l : List Key) : List Int := l.filterMap fun k => match k with | .inl i => some i | .inr _ => none
theorem mem_strsIn {l : List Key} {x : Str} : x ∈ strsIn l ↔ Sum.inr x ∈ l := by
  unfold strsIn
  rw [List.mem_filterMap]
  constructor
  · rintro ⟨k, hk, e⟩
    cases k with
    | inl i => cases e
    | inr y => cases e; exact hk
  · intro h; exact ⟨_, h, rfl⟩
theorem mem_intsIn {l : List Key} {x : Int} : x ∈ intsIn l ↔ Sum.inl x ∈ l := by
  unfold intsIn
  rw [List.mem_filterMap]
  constructor
  · rintro ⟨k, hk, e⟩
    cases k with
    | inl i => cases e; exact hk
    | inr y => cases e
  · intro h; exact ⟨_, h, rfl⟩
/-- a list of keys that are all texts -/
theorem allStr : ∀ {ks : List Key}, (∀ k ∈ ks, ∃ x, k = Sum.inr x) → ∃ xs : List Str, ks = xs.map Sum.inr
  | [], _ => ⟨[], rfl⟩
  | k :: r, h => by
    obtain ⟨x, rfl⟩ := h k List.mem_cons_self
    obtain ⟨xs, e⟩ := allStr (ks := r) fun k hk => h k (List.mem_cons_of_mem _ hk)
    exact ⟨x :: xs, by rw [e]; rfl⟩
theorem allInt : ∀ {ks : List Key}, (∀ k ∈ ks, ∃ x, k = Sum.inl x) → ∃ xs : List Int, ks = xs.map Sum.inl
  | [], _ => ⟨[], rfl⟩
  | k :: r, h => by
    obtain ⟨x, rfl⟩ := h k List.mem_cons_self
    obtain ⟨xs, e⟩ := allInt (ks := r) fun k hk => h k (List.mem_cons_of_mem _ hk)
    exact ⟨x :: xs, by rw [e]; rfl⟩
theorem nodup_of_map {α β : Type} {f : α → β} : ∀ {l : List α}, (l.map f).Nodup → l.Nodup
  | [], _ => List.nodup_nil
  | a :: r, h => by
    rw [List.map_cons, List.nodup_cons] at h
    exact List.nodup_cons.mpr ⟨fun hm => h.1 (List.mem_map.mpr ⟨a, hm, rfl⟩), nodup_of_map h.2⟩
end CD
set_option maxHeartbeats 4000000
namespace K31
open PySem L2 CD
def top (i : Nat) : Stmt := PySem.Challenge.pw_maybetables_k31_tables_told_back.main.body.getD i (.Pass ⟨0, 0, 0, 0⟩)
abbrev sCellV : Stmt := top 7
abbrev sGapsA : Stmt := top 8
abbrev sValsA : Stmt := top 9
abbrev sCellsW : Stmt := top 10
abbrev sCheck : Stmt := top 11
abbrev sCheckC : Stmt := top 19
abbrev sCheckR : Stmt := top 20
abbrev sSeed : Stmt := top 24
abbrev sDraw : Stmt := top 25
abbrev sWord : Stmt := top 26
abbrev sWords : Stmt := top 27
abbrev sValues : Stmt := top 28
abbrev sCell : Stmt := top 29
abbrev sCondL : Stmt := top 30
abbrev sMade : Stmt := top 31
abbrev sAt : Stmt := top 32
abbrev sHolds : Stmt := top 33
abbrev sCells : Stmt := top 34
abbrev sDrawn : Stmt := top 35
abbrev sFillings : Stmt := top 36
abbrev sAlike : Stmt := top 37
abbrev sStanding : Stmt := top 38
abbrev sRight : Stmt := top 39
abbrev sLines : Stmt := top 40
abbrev sLaw : Stmt := top 41
abbrev sCInit : Stmt := inClass (top 12) 0
abbrev sCTruth : Stmt := inClass (top 12) 1
abbrev sCHolds : Stmt := inClass (top 12) 2
abbrev sTInit : Stmt := inClass (top 13) 0
abbrev sTWork : Stmt := inClass (top 13) 1
abbrev sSInit : Stmt := inClass (top 14) 0
abbrev sSWork : Stmt := inClass (top 14) 1
abbrev sAInit : Stmt := inClass (top 15) 0
abbrev sAWork : Stmt := inClass (top 15) 1
abbrev sOInit : Stmt := inClass (top 16) 0
abbrev sOWork : Stmt := inClass (top 16) 1
abbrev sPInit : Stmt := inClass (top 17) 0
abbrev sPWork : Stmt := inClass (top 17) 1
abbrev sBInit : Stmt := inClass (top 22) 0
abbrev sBCols : Stmt := inClass (top 22) 1
abbrev sBRows : Stmt := inClass (top 22) 2
abbrev sBWhole : Stmt := inClass (top 22) 3
abbrev sBGaps : Stmt := inClass (top 22) 4
abbrev sBStand : Stmt := inClass (top 22) 5
/-- what stands under the built-in names -/
structure Txt (mg : Str → Option Value) : Prop where
  range : mg "range" = none
  len : mg "len" = none
  sorted : mg "sorted" = none
  list : mg "list" = none
  dict : mg "dict" = none
  isi : mg "isinstance" = none
  bool : mg "bool" = none
  str : mg "str" = none
  set : mg "set" = none
  tuple : mg "tuple" = none
  sum : mg "sum" = none
  max : mg "max" = none
  range2 : mg "enumerate" = none
/-- a def of the text that keeps its promise -/
def Cal (P : Program) (w : World) (K : PySem.W.Frag) (mg : Str → Option Value) (base : Heap) (x : Str) (k : Nat) (ps : List Str) (sp : Sp) : Prop :=
  ∃ f fd, FnOk P w K mg base CX0 k f fd ps sp ∧ Binds K fd ps [] ∧ PySem.W.keepIn K (.ref f) = true ∧ mg x = some (.ref f)
theorem same_new {H : Hp} {p : Addr} (h : H p = none) (o : HO) : Same H (upd H p o) := fun b u q => by rw [upd_ne (ne_of_none q h)]; exact q
theorem same_upd {H H' : Hp} {p : Addr} (s : Same H H') (h : H p = none) (o : HO) : Same H (upd H' p o) := fun b u q => by rw [upd_ne (ne_of_none q h)]; exact s b u q
theorem _root_.L2.Same.tup {K : PySem.W.Frag} {H H' : Hp} {a : Addr} {xs : List V} (e : Same H H') (h : SqT K H a xs) : SqT K H' a xs := by
  rcases h with (h | ⟨o, h⟩) | h
  · exact .inl (.inl (e _ _ h))
  · exact .inl (.inr ⟨o, e _ _ h⟩)
  · exact .inr h
theorem small {n : Nat} (h : n ≤ 4000) : n ≤ sizeLine := Nat.le_trans h (by decide)
theorem kit_is (K : PySem.W.Frag) : PySem.W.kitOne K (.type "int") (.type "str") = some false := by kernel_rfl
theorem ty_key {K : PySem.W.Frag} {H : Hp} (k : Key) : TyOf K H (kV k) (match k with | .inl _ => .type "int" | .inr _ => .type "str") := by
  cases k with
  | inl i => exact .int i
  | inr x => exact .str x
theorem kit_key (K : PySem.W.Frag) (k : Key) : PySem.W.kitOne K (match k with | .inl _ => .type "int" | .inr _ => .type "str") (.type "str") = some k.isRight := by
  cases k with
  | inl i => exact kit_is K
  | inr x => exact kit_ss K "str"
theorem rel_ty {n : String} : ∀ u, RelV (.ty n) u → u = .type n := fun u r => r
/-! the promises -/
/-- a filling that has the gaps of c -/
def Has (H : Hp) (d : Addr) (f : Str → Int) (ks : List Key) : Prop := ∃ kvs, H d = some (.dK kvs) ∧ ∀ x, Sum.inr x ∈ ks → valV kvs (Sum.inr x : Key) = some (.int (f x))
def spCellV : Sp := fun vs H Q _ => ∃ (k : Key) (d : Addr) (f : Str → Int), vs = [kV k, .ref d] ∧ Has H d f [k] ∧ Q (.int (come f k)) H
def spGapsA (K : PySem.W.Frag) : Sp := fun vs H Q _ => ∃ (a : Addr) (ks : List Key), vs = [.ref a] ∧ SqL K H a (ks.map kV) ∧ ks.length ≤ 4000 ∧ ∀ l H', Same H H' → H' l = some (.lst ((strsIn ks).map V.str)) → Q (.ref l) H'
def spValsA (K : PySem.W.Frag) : Sp := fun vs H Q _ => ∃ (a : Addr) (ks : List Key), vs = [.ref a] ∧ SqL K H a (ks.map kV) ∧ ks.length ≤ 4000 ∧ ∀ l H', Same H H' → H' l = some (.lst ((intsIn ks).map V.int)) → Q (.ref l) H'
/-- the cells lie in a small pool -/
def Pool (ks : List Key) (n : Nat) : Prop := ∃ pool : List Key, pool.length < 64 ∧ n * pool.length ≤ 3000 ∧ ∀ k ∈ ks, k ∈ pool
def spCellsW (T : Cl) (K : PySem.W.Frag) : Sp := fun vs H Q _ => ∃ (a : Addr) (xs : List V) (l : List Cd), vs = [.ref a] ∧ (SqT K H a xs ∨ SqL K H a xs) ∧ IsL T H l xs ∧ Pool (cellsL l) l.length ∧
  ∀ (r : Addr) (H' : Hp) (ks : List Key), Same H H' → H r = none → H' r = some (.lst (ks.map kV)) → ks.length ≤ 3000 → (∀ k : Key, k ∈ ks ↔ k ∈ cellsL l) → Q (.ref r) H'
section
variable {P : Program} {w : World} {K : PySem.W.Frag} {mg : Str → Option Value} {base : Heap} {f : Addr} {fd : FuncData}
theorem scCV : FnScope ["cell", "filling"] ["cell", "filling"] (defScope sCellV) := ⟨rfl, rfl, rfl, by decide +kernel, rfl, by decide +kernel, by decide +kernel⟩
theorem ok_cellv (F : Fun K "cell_value" "cell_value" sCellV f fd) (T : Txt mg) : FnOk P w K mg base CX0 1 f fd ["cell", "filling"] spCellV := by
  refine F.ok scCV (fun vs H Q E h => ?_) (fun cdv A outer s H vs Q E hr h => ?_)
  · obtain ⟨k, d, f, rfl, _⟩ := h
    rfl
  obtain ⟨k, d, fl, rfl, ⟨kvs, hd, hk⟩, q⟩ := h
  have hu := hu_of hr
  refine ⟨_, pss_cons (ps_if (pt_val (pe_callB call_isi rfl T.isi PyProof.Rows.boot_isinstance (pa_cons (pv 0) (pa_cons (pe_bltn (v := .ty "str") rfl T.str PyProof.Rows.boot_str rfl) pa_nil)))) (pss_one (ps_ret (pe_dget hu (pv 1) (pv 0) (fun _ _ => rfl)))) pss_nil)
    (pss_one (ps_ret (pv 0))), ?_⟩
  refine ⟨_, rfl, _, _, _, _, _, rfl, rel_ty, ty_key k, kit_key K k, _, rfl, ?_⟩
  cases k with
  | inl i => exact iteF ⟨_, rfl, q⟩
  | inr x =>
    refine iteT ⟨_, rfl, _, rfl, d, _, rfl, ?_, q⟩
    have e : valV kvs (Sum.inr x : Key) = some (.int (come fl (Sum.inr x))) := hk x (by simp)
    rw [← e]
    exact DGet.k (k := Sum.inr x) hd
theorem scGA : FnScope ["cells"] ["cells"] (defScope sGapsA) := ⟨rfl, rfl, rfl, by decide +kernel, rfl, by decide +kernel, by decide +kernel⟩
theorem nd1 (x : Str) : ([x] : List Str).Nodup := by simp
theorem of_key {ks : List Key} {i : Nat} {x : V} (hi : (ks.map kV)[i]? = some x) : ∃ k, ks[i]? = some k ∧ x = kV k := by
  rw [List.getElem?_map] at hi
  cases z : ks[i]? with
  | none => rw [z] at hi; cases hi
  | some v => rw [z] at hi; exact ⟨v, rfl, (Option.some.inj hi).symm⟩
theorem strsIn_len (l : List Key) : (strsIn l).length ≤ l.length := List.length_filterMap_le _ _
theorem intsIn_len (l : List Key) : (intsIn l).length ≤ l.length := List.length_filterMap_le _ _
theorem strsIn_snoc (l : List Key) (k : Key) : strsIn (l ++ [k]) = strsIn l ++ (match k with | .inl _ => [] | .inr x => [x]) := by
  unfold strsIn
  rw [List.filterMap_append]
  cases k <;> rfl
theorem intsIn_snoc (l : List Key) (k : Key) : intsIn (l ++ [k]) = intsIn l ++ (match k with | .inl x => [x] | .inr _ => []) := by
  unfold intsIn
  rw [List.filterMap_append]
  cases k <;> rfl
theorem take_snoc {α : Type} {l : List α} {i : Nat} {a : α} (h : l[i]? = some a) : l.take (i + 1) = l.take i ++ [a] := by
  rw [List.take_add_one, h]; rfl
theorem ok_gapsa (F : Fun K "gaps_among" "gaps_among" sGapsA f fd) (T : Txt mg) : FnOk P w K mg base CX0 1 f fd ["cells"] (spGapsA K) := by
  refine F.ok scGA (fun vs H Q E h => ?_) (fun cdv A outer s H vs Q E hr h => ?_)
  · obtain ⟨a, ks, rfl, _⟩ := h
    rfl
  obtain ⟨a, ks, rfl, hS, hl, q⟩ := h
  refine ⟨_, pss_one (ps_ret (pe_lcG (caps := []) ["cell"] rfl (pi_list (pv 0)) ⟨rfl, by decide +kernel, by decide +kernel, rfl, .nil, rfl, rfl, rfl⟩
    (fun s H ex => pg_name (X := cxLG _ _ _ _ s H ex) (i := 0) (nd1 _) rfl (Or.inl rfl) (.inr rfl))
    (fun s H ex => pif_one (pt_val (pe_callB (call_isiK (K := K) rfl) rfl T.isi PyProof.Rows.boot_isinstance (pa_cons (pe_var (X := cxLG _ _ _ _ s H ex) (i := 0) rfl (Or.inl rfl)) (pa_cons (pe_bltn (v := .ty "str") rfl T.str PyProof.Rows.boot_str rfl) pa_nil)))))
    (fun s H ex => pe_var (X := cxLG _ _ _ _ s H ex) (i := 0) rfl (Or.inl rfl)))), ?_⟩
  refine ⟨_, rfl, a, rfl, ⟨_, hS⟩, fun D hD => ?_⟩
  refine lcg_list (K := K) (a := a) (xs := ks.map kV) (fun i σ H2 => ∃ u, σ = [u] ∧ Same H H2 ∧ H2 D = some (.lst ((strsIn (ks.take i)).map V.str)))
    ⟨none, rfl, same_new hD _, upd_same⟩ (fun i σ H2 _ ⟨_, _, s2, _⟩ => s2.seq hS) ?_ ?_
  · rintro i x σ H2 hi ⟨u, rfl, s2, h2⟩
    obtain ⟨k, hk, rfl⟩ := of_key hi
    refine ⟨_, rfl, _, _, _, _, _, rfl, rel_ty, ty_key k, kit_key K k, _, rfl, ?_⟩
    rw [take_snoc hk, strsIn_snoc]
    cases k with
    | inl j => exact iteF ⟨_, rfl, s2, by simpa using h2⟩
    | inr y =>
      refine iteT ⟨_, rfl, _, h2, ?_, _, rfl, same_upd s2 hD _, ?_⟩
      · have := strsIn_len (ks.take i)
        have : (ks.take i).length ≤ ks.length := by rw [List.length_take]; omega
        rw [List.length_map]
        exact Nat.lt_of_le_of_lt (by omega : _ ≤ 4000) (by decide)
      · rw [upd_same, List.map_append]; rfl
  · rintro σ H2 ⟨u, rfl, s2, h2⟩
    rw [List.length_map, List.take_length] at h2
    exact q D H2 s2 h2
theorem scVA : FnScope ["cells"] ["cells"] (defScope sValsA) := ⟨rfl, rfl, rfl, by decide +kernel, rfl, by decide +kernel, by decide +kernel⟩
theorem ok_valsa (F : Fun K "values_among" "values_among" sValsA f fd) (T : Txt mg) : FnOk P w K mg base CX0 1 f fd ["cells"] (spValsA K) := by
  refine F.ok scVA (fun vs H Q E h => ?_) (fun cdv A outer s H vs Q E hr h => ?_)
  · obtain ⟨a, ks, rfl, _⟩ := h
    rfl
  obtain ⟨a, ks, rfl, hS, hl, q⟩ := h
  refine ⟨_, pss_one (ps_ret (pe_lcG (caps := []) ["cell"] rfl (pi_list (pv 0)) ⟨rfl, by decide +kernel, by decide +kernel, rfl, .nil, rfl, rfl, rfl⟩
    (fun s H ex => pg_name (X := cxLG _ _ _ _ s H ex) (i := 0) (nd1 _) rfl (Or.inl rfl) (.inr rfl))
    (fun s H ex => pif_one (pt_not (pt_val (pe_callB (call_isiK (K := K) rfl) rfl T.isi PyProof.Rows.boot_isinstance (pa_cons (pe_var (X := cxLG _ _ _ _ s H ex) (i := 0) rfl (Or.inl rfl)) (pa_cons (pe_bltn (v := .ty "str") rfl T.str PyProof.Rows.boot_str rfl) pa_nil))))))
    (fun s H ex => pe_var (X := cxLG _ _ _ _ s H ex) (i := 0) rfl (Or.inl rfl)))), ?_⟩
  refine ⟨_, rfl, a, rfl, ⟨_, hS⟩, fun D hD => ?_⟩
  refine lcg_list (K := K) (a := a) (xs := ks.map kV) (fun i σ H2 => ∃ u, σ = [u] ∧ Same H H2 ∧ H2 D = some (.lst ((intsIn (ks.take i)).map V.int)))
    ⟨none, rfl, same_new hD _, upd_same⟩ (fun i σ H2 _ ⟨_, _, s2, _⟩ => s2.seq hS) ?_ ?_
  · rintro i x σ H2 hi ⟨u, rfl, s2, h2⟩
    obtain ⟨k, hk, rfl⟩ := of_key hi
    refine ⟨_, rfl, _, _, _, _, _, rfl, rel_ty, ty_key k, kit_key K k, _, rfl, ?_⟩
    rw [take_snoc hk, intsIn_snoc]
    cases k with
    | inr j => exact iteF ⟨_, rfl, s2, by simpa using h2⟩
    | inl y =>
      refine iteT ⟨_, rfl, _, h2, ?_, _, rfl, same_upd s2 hD _, ?_⟩
      · have := intsIn_len (ks.take i)
        have : (ks.take i).length ≤ ks.length := by rw [List.length_take]; omega
        rw [List.length_map]
        exact Nat.lt_of_le_of_lt (by omega : _ ≤ 4000) (by decide)
      · rw [upd_same, List.map_append]; rfl
  · rintro σ H2 ⟨u, rfl, s2, h2⟩
    rw [List.length_map, List.take_length] at h2
    exact q D H2 s2 h2

theorem scCW : FnScope ["parts", "cells", "part"] ["parts"] (defScope sCellsW) := ⟨rfl, rfl, rfl, by decide +kernel, rfl, by decide +kernel, by decide +kernel⟩
/-- what cells_within asks of the classes -/
structure Clz (K : PySem.W.Frag) (T : Cl) : Prop where
  cl : ∀ c : Cd, Cls K (T.of c)
  ng : ∀ c : Cd, NoAttr K (T.of c) "kept_gaps"
  nv : ∀ c : Cd, NoAttr K (T.of c) "kept_values"
  na : ∀ c : Cd, NoAttr K (T.of c) "kept_atoms"
  ns : ∀ c : Cd, NoAttr K (T.of c) "settled"
  nsd : NoAttr K T.t "said"
  no1 : NoAttr K T.s "one"
  no2 : NoAttr K T.s "other"
  npa : NoAttr K T.a "parts"
  npo : NoAttr K T.o "parts"
  npp : NoAttr K T.p "part"
theorem pool_bound {gs : List Str} {vs : List Int} {c : Cd} {pool : List Key} (h1 : gs.Nodup) (h2 : ∀ x, x ∈ gs ↔ Sum.inr x ∈ cells c) (h3 : vs.Nodup) (h4 : ∀ x, x ∈ vs ↔ Sum.inl x ∈ cells c) (hp : ∀ k ∈ cells c, k ∈ pool) : gs.length + vs.length ≤ pool.length := by
  have e : (gs.map (Sum.inr : Str → Key) ++ vs.map (Sum.inl : Int → Key)).length ≤ pool.length := by
    refine nodup_sub ?_ fun k hk => ?_
    · rw [List.nodup_append]
      refine ⟨?_, ?_, ?_⟩
      · exact (List.pairwise_map.mpr (h1.imp fun h e => h (Sum.inr.inj e)))
      · exact (List.pairwise_map.mpr (h3.imp fun h e => h (Sum.inl.inj e)))
      · intro a ha b hb e
        obtain ⟨x, _, rfl⟩ := List.mem_map.mp ha
        obtain ⟨y, _, rfl⟩ := List.mem_map.mp hb
        cases e
    · rcases List.mem_append.mp hk with h | h
      · obtain ⟨x, hx, rfl⟩ := List.mem_map.mp h
        exact hp _ ((h2 x).mp hx)
      · obtain ⟨x, hx, rfl⟩ := List.mem_map.mp h
        exact hp _ ((h4 x).mp hx)
  rw [List.length_append, List.length_map, List.length_map] at e
  exact e
theorem ok_cellsw {T : Cl} (F : Fun K "cells_within" "cells_within" sCellsW f fd) (Z : Clz K T) : FnOk P w K mg base CX0 1 f fd ["parts"] (spCellsW T K) := by
  refine F.ok scCW (fun vs H Q E h => ?_) (fun cdv A outer s H vs Q E hr h => ?_)
  · obtain ⟨a, xs, l, rfl, _⟩ := h
    rfl
  obtain ⟨a, xs, l, rfl, hS, hL, ⟨pool, p1, p2, p3⟩, q⟩ := h
  have hll := isL_len hL
  -- what one turn does
  have turn : ∀ (D : Addr) (i : Nat) (x : V) (ks : List Key) (H2 : Hp) (R : Hp → Prop), xs[i]? = some x → H D = none → Same H H2 → H2 D = some (.lst (ks.map kV)) → (∀ k : Key, k ∈ ks ↔ ∃ c ∈ l.take i, k ∈ cells c) → ks.length ≤ i * pool.length →
      (∀ (ks' : List Key) (H3 : Hp), Same H H3 → H3 D = some (.lst (ks'.map kV)) → (∀ k : Key, k ∈ ks' ↔ ∃ c ∈ l.take (i + 1), k ∈ cells c) → ks'.length ≤ (i + 1) * pool.length → R H3) →
      ∃ (ap : Addr) (C dx : Addr) (fs : List (Str × V)) (tg tv : Addr) (gs : List Str) (vs : List Int), x = .ref ap ∧ H2 ap = some (.ins C dx fs) ∧ Cls K C ∧ NoAttr K C "kept_gaps" ∧ NoAttr K C "kept_values" ∧ fs.lookup ("kept_gaps" : Str) = some (.ref tg) ∧ fs.lookup ("kept_values" : Str) = some (.ref tv) ∧
        SqT K H2 tg (gs.map V.str) ∧ (ks.map kV).length + (gs.map V.str).length ≤ sizeLine ∧ (upd H2 D (.lst (ks.map kV ++ gs.map V.str))) ap = some (.ins C dx fs) ∧ (upd H2 D (.lst (ks.map kV ++ gs.map V.str))) D = some (.lst (ks.map kV ++ gs.map V.str)) ∧ SqT K (upd H2 D (.lst (ks.map kV ++ gs.map V.str))) tv (vs.map V.int) ∧
        (ks.map kV ++ gs.map V.str).length + (vs.map V.int).length ≤ sizeLine ∧ R (upd (upd H2 D (.lst (ks.map kV ++ gs.map V.str))) D (.lst (ks.map kV ++ gs.map V.str ++ vs.map V.int))) := by
    intro D i x ks H2 R hi hD s2 hd hk hkl hR
    obtain ⟨c, hc, hC⟩ := isL_get hL hi
    have hcm := List.mem_of_getElem? hc
    have hil : i < l.length := (List.getElem?_eq_some_iff.mp hc).1
    obtain ⟨ap, dx, fs, rfl, ha, _, ⟨⟨tg, gs, g1, g2, g3, g4, g5⟩, ⟨tv, vs, v1, v2, v3, v4, v5⟩, _, _⟩, _⟩ := isC_iff.mp hC
    have hb := pool_bound g3 g5 v3 v5 (fun k hk => p3 k (cellsL_mem.mpr ⟨c, hcm, hk⟩))
    have nda : ap ≠ D := ne_of_none ha hD
    have ntv : tv ≠ D := ne_of_none v2 hD
    have bnd : (i + 1) * pool.length ≤ 3000 := Nat.le_trans (Nat.mul_le_mul_right _ hil) p2
    rw [Nat.succ_mul] at bnd
    refine ⟨ap, _, dx, fs, tg, tv, gs, vs, rfl, s2 _ _ ha, Z.cl c, Z.ng c, Z.nv c, g1, v1, SqT.of (s2 _ _ g2), ?_, ?_, upd_same, SqT.of (by rw [upd_ne ntv]; exact s2 _ _ v2), ?_, ?_⟩
    · rw [List.length_map, List.length_map]; exact small (by omega)
    · rw [upd_ne nda]; exact s2 _ _ ha
    · rw [List.length_append, List.length_map, List.length_map, List.length_map]; exact small (by omega)
    · refine hR (ks ++ gs.map Sum.inr ++ vs.map Sum.inl) _ (same_upd (same_upd s2 hD _) hD _) ?_ ?_ ?_
      · rw [upd_same, List.map_append, List.map_append, List.map_map, List.map_map]; rfl
      · intro k
        rw [List.take_add_one, hc]
        simp only [List.mem_append, hk, List.mem_map]
        constructor
        · rintro ((⟨c', h1, h2⟩ | ⟨y, hy, rfl⟩) | ⟨y, hy, rfl⟩)
          · exact ⟨c', .inl h1, h2⟩
          · exact ⟨c, .inr (by simp), (g5 y).mp hy⟩
          · exact ⟨c, .inr (by simp), (v5 y).mp hy⟩
        · rintro ⟨c', h1 | h1, h2⟩
          · exact .inl (.inl ⟨c', h1, h2⟩)
          · have e : c' = c := by simpa using h1
            subst e
            cases k with
            | inl y => exact .inr ⟨y, (v5 y).mpr h2, rfl⟩
            | inr y => exact .inl (.inr ⟨y, (g5 y).mpr h2, rfl⟩)
      · rw [List.length_append, List.length_append, List.length_map, List.length_map, Nat.succ_mul]; omega
  have fin : ∀ (D : Addr) (H2 : Hp) (ks : List Key), H D = none → Same H H2 → H2 D = some (.lst (ks.map kV)) → (∀ k : Key, k ∈ ks ↔ ∃ c ∈ l.take xs.length, k ∈ cells c) → ks.length ≤ xs.length * pool.length → Q (.ref D) H2 := by
    intro D H2 ks hD0 s2 hd hk hkl
    rw [← hll, List.take_length] at hk
    rw [← hll] at hkl
    exact q D H2 ks s2 hD0 hd (by omega) fun k => (hk k).trans cellsL_mem.symm
  rcases hS with hS | hS
  · refine ⟨_, pss_cons (ps_set (i := 1) scCW.nd rfl (Or.inl rfl) (pe_lst pa_nil))
      (pss_cons (ps_for PassesOwn.never rfl (pi_tup (pv 0)) (pg_name (i := 2) scCW.nd rfl (Or.inl rfl))
        (pss_cons (ps_expr (pe_bm PySem.F.plainAttrs_list PySem.F.slot_list_extend PySem.F.type_list_extend mt_extendT (pv 1) (pa_cons (pe_fld (pv 2) rfl) pa_nil)))
        (pss_one (ps_expr (pe_bm PySem.F.plainAttrs_list PySem.F.slot_list_extend PySem.F.type_list_extend mt_extendT (pv 1) (pa_cons (pe_fld (pv 2) rfl) pa_nil))))))
      (pss_one (ps_ret (pv 1)))), ?_⟩
    refine ⟨small (by decide), fun D hD => ?_⟩
    refine ⟨_, rfl, a, rfl, ⟨_, (same_new hD _).tup hS⟩, for_tup (K := K) (a := a) (xs := xs) (fun i σ H2 => ∃ (ks : List Key) (u : Option V), σ = [some (.ref a), some (.ref D), u] ∧ Same H H2 ∧ H2 D = some (.lst (ks.map kV)) ∧ (∀ k : Key, k ∈ ks ↔ ∃ c ∈ l.take i, k ∈ cells c) ∧ ks.length ≤ i * pool.length)
      ⟨[], none, rfl, same_new hD _, upd_same, by simp, Nat.zero_le _⟩ (fun i σ H2 _ ⟨_, _, _, s2, _⟩ => s2.tup hS) ?_ ?_⟩
    · rintro i x σ H2 hi ⟨ks, u, rfl, s2, hd, hk, hkl⟩
      obtain ⟨ap, C, dx, fs, tg, tv, gs, vs, rfl, ha, c1, c2, c3, l1, l2, z1, z2, z3, z4, z5, z6, hR⟩ := turn D i x ks H2 (fun H3 => ∃ (ks : List Key) (u : Option V), ([some (.ref a), some (.ref D), some x] : St) = [some (.ref a), some (.ref D), u] ∧ Same H H3 ∧ H3 D = some (.lst (ks.map kV)) ∧ (∀ k : Key, k ∈ ks ↔ ∃ c ∈ l.take (i + 1), k ∈ cells c) ∧ ks.length ≤ (i + 1) * pool.length) hi hD s2 hd hk hkl
        (fun ks' H3 s3 h3 k3 l3 => ⟨ks', _, rfl, s3, h3, k3, l3⟩)
      refine ⟨_, rfl, .inl ⟨rfl, _, SqL.of hd⟩, _, rfl, ap, C, dx, fs, _, rfl, ha, c1, c2, l1, D, tg, _, _, rfl, rfl, hd, z1, z2, ?_⟩
      exact ⟨_, rfl, .inl ⟨rfl, _, SqL.of z4⟩, _, rfl, ap, C, dx, fs, _, rfl, z3, c1, c3, l2, D, tv, _, _, rfl, rfl, z4, z5, z6, hR⟩
    · rintro σ H2 ⟨ks, u, rfl, s2, hd, hk, hkl⟩
      exact ⟨_, rfl, fin D H2 ks hD s2 hd hk hkl⟩
  · refine ⟨_, pss_cons (ps_set (i := 1) scCW.nd rfl (Or.inl rfl) (pe_lst pa_nil))
      (pss_cons (ps_for PassesOwn.never rfl (pi_list (pv 0)) (pg_name (i := 2) scCW.nd rfl (Or.inl rfl))
        (pss_cons (ps_expr (pe_bm PySem.F.plainAttrs_list PySem.F.slot_list_extend PySem.F.type_list_extend mt_extendT (pv 1) (pa_cons (pe_fld (pv 2) rfl) pa_nil)))
        (pss_one (ps_expr (pe_bm PySem.F.plainAttrs_list PySem.F.slot_list_extend PySem.F.type_list_extend mt_extendT (pv 1) (pa_cons (pe_fld (pv 2) rfl) pa_nil))))))
      (pss_one (ps_ret (pv 1)))), ?_⟩
    refine ⟨small (by decide), fun D hD => ?_⟩
    refine ⟨_, rfl, a, rfl, ⟨_, (same_new hD _).seq hS⟩, for_list (K := K) (a := a) (xs := xs) (fun i σ H2 => ∃ (ks : List Key) (u : Option V), σ = [some (.ref a), some (.ref D), u] ∧ Same H H2 ∧ H2 D = some (.lst (ks.map kV)) ∧ (∀ k : Key, k ∈ ks ↔ ∃ c ∈ l.take i, k ∈ cells c) ∧ ks.length ≤ i * pool.length)
      ⟨[], none, rfl, same_new hD _, upd_same, by simp, Nat.zero_le _⟩ (fun i σ H2 _ ⟨_, _, _, s2, _⟩ => s2.seq hS) ?_ ?_⟩
    · rintro i x σ H2 hi ⟨ks, u, rfl, s2, hd, hk, hkl⟩
      obtain ⟨ap, C, dx, fs, tg, tv, gs, vs, rfl, ha, c1, c2, c3, l1, l2, z1, z2, z3, z4, z5, z6, hR⟩ := turn D i x ks H2 (fun H3 => ∃ (ks : List Key) (u : Option V), ([some (.ref a), some (.ref D), some x] : St) = [some (.ref a), some (.ref D), u] ∧ Same H H3 ∧ H3 D = some (.lst (ks.map kV)) ∧ (∀ k : Key, k ∈ ks ↔ ∃ c ∈ l.take (i + 1), k ∈ cells c) ∧ ks.length ≤ (i + 1) * pool.length) hi hD s2 hd hk hkl
        (fun ks' H3 s3 h3 k3 l3 => ⟨ks', _, rfl, s3, h3, k3, l3⟩)
      refine ⟨_, rfl, .inl ⟨rfl, _, SqL.of hd⟩, _, rfl, ap, C, dx, fs, _, rfl, ha, c1, c2, l1, D, tg, _, _, rfl, rfl, hd, z1, z2, ?_⟩
      exact ⟨_, rfl, .inl ⟨rfl, _, SqL.of z4⟩, _, rfl, ap, C, dx, fs, _, rfl, z3, c1, c3, l2, D, tv, _, _, rfl, rfl, z4, z5, z6, hR⟩
    · rintro σ H2 ⟨ks, u, rfl, s2, hd, hk, hkl⟩
      exact ⟨_, rfl, fin D H2 ks hD s2 hd hk hkl⟩
end
end K31
set_option maxHeartbeats 4000000
namespace K31
open PySem L2 CD
/-- a method of the class at C -/
def MethFn (K : PySem.W.Frag) (C : Addr) (m qual : Str) (st : Stmt) (ps : List Str) : Prop := ∃ f fd, Meth K C m f ∧ Fun K m qual st f fd ∧ Binds K fd ps []
/-- the classes as the text makes them -/
structure Tc (K : PySem.W.Frag) (mg : Str → Option Value) (T : Cl) (CC : Addr) : Prop where
  z : Clz K T
  x : Txt mg
  dj : [T.t, T.s, T.a, T.o, T.p].Nodup
  hH : ∀ c : Cd, MethFn K (T.of c) "holds" "Cond.holds" sCHolds ["self", "filling"]
  hT : ∀ c : Cd, MethFn K (T.of c) "truth" "Cond.truth" sCTruth ["self", "filling"]
  wT : MethFn K T.t "worked" "Truth.worked" sTWork ["self", "filling"]
  wS : MethFn K T.s "worked" "Same.worked" sSWork ["self", "filling"]
  wA : MethFn K T.a "worked" "AllOf.worked" sAWork ["self", "filling"]
  wO : MethFn K T.o "worked" "OneOf.worked" sOWork ["self", "filling"]
  wP : MethFn K T.p "worked" "Opposite.worked" sPWork ["self", "filling"]
theorem Tc.of_t {K : PySem.W.Frag} {mg : Str → Option Value} {T : Cl} {CC : Addr} (h : Tc K mg T CC) {c : Cd} (e : T.of c = T.t) : ∃ b, c = .truth b := by
  have := h.dj
  simp only [List.nodup_cons, List.mem_cons, List.not_mem_nil, or_false, not_or] at this
  cases c with
  | truth b => exact ⟨b, rfl⟩
  | same x y => exact absurd e.symm this.1.1
  | all l => exact absurd e.symm this.1.2.1
  | one l => exact absurd e.symm this.1.2.2.1
  | opp c => exact absurd e.symm this.1.2.2.2
theorem Tc.of_s {K : PySem.W.Frag} {mg : Str → Option Value} {T : Cl} {CC : Addr} (h : Tc K mg T CC) {c : Cd} (e : T.of c = T.s) : ∃ x y, c = .same x y := by
  have := h.dj
  simp only [List.nodup_cons, List.mem_cons, List.not_mem_nil, or_false, not_or] at this
  cases c with
  | truth b => exact absurd e this.1.1
  | same x y => exact ⟨x, y, rfl⟩
  | all l => exact absurd e.symm this.2.1.1
  | one l => exact absurd e.symm this.2.1.2.1
  | opp c => exact absurd e.symm this.2.1.2.2
theorem Tc.of_a {K : PySem.W.Frag} {mg : Str → Option Value} {T : Cl} {CC : Addr} (h : Tc K mg T CC) {c : Cd} (e : T.of c = T.a) : ∃ l, c = .all l := by
  have := h.dj
  simp only [List.nodup_cons, List.mem_cons, List.not_mem_nil, or_false, not_or] at this
  cases c with
  | truth b => exact absurd e this.1.2.1
  | same x y => exact absurd e this.2.1.1
  | all l => exact ⟨l, rfl⟩
  | one l => exact absurd e.symm this.2.2.1.1
  | opp c => exact absurd e.symm this.2.2.1.2
theorem Tc.of_o {K : PySem.W.Frag} {mg : Str → Option Value} {T : Cl} {CC : Addr} (h : Tc K mg T CC) {c : Cd} (e : T.of c = T.o) : ∃ l, c = .one l := by
  have := h.dj
  simp only [List.nodup_cons, List.mem_cons, List.not_mem_nil, or_false, not_or] at this
  cases c with
  | truth b => exact absurd e this.1.2.2.1
  | same x y => exact absurd e this.2.1.2.1
  | all l => exact absurd e this.2.2.1.1
  | one l => exact ⟨l, rfl⟩
  | opp c => exact absurd e.symm this.2.2.2.1
theorem Tc.of_p {K : PySem.W.Frag} {mg : Str → Option Value} {T : Cl} {CC : Addr} (h : Tc K mg T CC) {c : Cd} (e : T.of c = T.p) : ∃ d, c = .opp d := by
  have := h.dj
  simp only [List.nodup_cons, List.mem_cons, List.not_mem_nil, or_false, not_or] at this
  cases c with
  | truth b => exact absurd e this.1.2.2.2
  | same x y => exact absurd e this.2.1.2.2
  | all l => exact absurd e this.2.2.1.2
  | one l => exact absurd e this.2.2.2.1
  | opp c => exact ⟨c, rfl⟩
def dom (T : Cl) (C : Addr) : Prop := ∃ c : Cd, T.of c = C
def spHold (T : Cl) (n : Nat) : Sp := fun vs H Q _ => ∃ (v : V) (d : Addr) (c : Cd) (f : Str → Int), vs = [v, .ref d] ∧ IsC T H c v ∧ depth c ≤ n ∧ Has H d f (cells c) ∧ Q (.bl (ev f c)) H
def spWork (T : Cl) (n : Nat) (C : Addr) : Sp := fun vs H Q _ => ∃ (a d : Addr) (H0 : Hp) (c : Cd) (dx : Addr) (fs : List (Str × V)) (f : Str → Int), vs = [.ref a, .ref d] ∧ T.of c = C ∧ H a = some (.ins C dx fs) ∧ Same H0 H ∧ Own T H0 fs c ∧ depth c ≤ n + 1 ∧ Has H d f (cells c) ∧ Q (.bl (ev f c)) H
theorem Has.sub {H : Hp} {d : Addr} {f : Str → Int} {ks ks' : List Key} (h : Has H d f ks) (hs : ∀ x : Str, Sum.inr x ∈ ks' → Sum.inr x ∈ ks) : Has H d f ks' := by
  obtain ⟨kvs, h1, h2⟩ := h
  exact ⟨kvs, h1, fun x hx => h2 x (hs x hx)⟩
section
variable {P : Program} {w : World} {K : PySem.W.Frag} {mg : Str → Option Value} {base : Heap} {f : Addr} {fd : FuncData} {T : Cl} {CC : Addr}
theorem scW1 : FnScope ["self", "filling"] ["self", "filling"] (defScope sTWork) := ⟨rfl, rfl, rfl, by decide +kernel, rfl, by decide +kernel, by decide +kernel⟩
theorem ok_wT {n k : Nat} (F : Fun K "worked" "Truth.worked" sTWork f fd) (Z : Tc K mg T CC) : FnOk P w K mg base CX0 (k + 1) f fd ["self", "filling"] (spWork T n T.t) := by
  refine F.ok scW1 (fun vs H Q E h => ?_) (fun cdv A outer s H vs Q E hr h => ?_)
  · obtain ⟨a, d, H0, c, dx, fs, f, rfl, _⟩ := h
    rfl
  obtain ⟨a, d, H0, c, dx, fs, fl, rfl, hc, ha, s0, hO, hd, hF, q⟩ := h
  obtain ⟨b, rfl⟩ := Z.of_t hc
  refine ⟨_, pss_one (ps_ret (pe_fld (pv 0) rfl)), ?_⟩
  refine ⟨_, rfl, a, T.t, dx, fs, _, rfl, ha, Z.z.cl (.truth b), Z.z.nsd, hO, ?_⟩
  have e : ev fl (.truth b) = b := by simp [ev]
  rw [e] at q
  exact q
theorem scW2 : FnScope ["self", "filling"] ["self", "filling"] (defScope sSWork) := ⟨rfl, rfl, rfl, by decide +kernel, rfl, by decide +kernel, by decide +kernel⟩
theorem ok_wS {n k : Nat} (F : Fun K "worked" "Same.worked" sSWork f fd) (Z : Tc K mg T CC) (C1 : Cal P w K mg base "cell_value" 1 ["cell", "filling"] spCellV) : FnOk P w K mg base CX0 (k + 2) f fd ["self", "filling"] (spWork T n T.s) := by
  obtain ⟨g1, d1, G1, b1, k1, m1⟩ := C1
  refine F.ok scW2 (fun vs H Q E h => ?_) (fun cdv A outer s H vs Q E hr h => ?_)
  · obtain ⟨a, d, H0, c, dx, fs, f, rfl, _⟩ := h
    rfl
  obtain ⟨a, d, H0, c, dx, fs, fl, rfl, hc, ha, s0, hO, hd, hF, q⟩ := h
  obtain ⟨x, y, rfl⟩ := Z.of_s hc
  have hr1 : Room 1 _ := hr.mono (by omega)
  refine ⟨_, pss_one (ps_ret (pe_cmpR op_eq (pe_call G1 hr1 rfl m1 k1 b1 .nil pass0 (pa_cons (pe_fld (pv 0) rfl) (pa_cons (pv 1) pa_nil))) (pe_call G1 hr1 rfl m1 k1 b1 .nil pass0 (pa_cons (pe_fld (pv 0) rfl) (pa_cons (pv 1) pa_nil))) (nomark _))), ?_⟩
  obtain ⟨h1, h2⟩ := hO
  refine ⟨_, rfl, a, T.s, dx, fs, _, rfl, ha, Z.z.cl (.same x y), Z.z.no1, h1, _, rfl, x, d, fl, rfl, hF.sub (fun z hz => by simp at hz; simp [cells, hz]), ?_⟩
  refine ⟨_, rfl, a, T.s, dx, fs, _, rfl, ha, Z.z.cl (.same x y), Z.z.no2, h2, _, rfl, y, d, fl, rfl, hF.sub (fun z hz => by simp at hz; simp [cells, hz]), rfl, ?_⟩
  rw [dec_int]
  have e : ev fl (.same x y) = (come fl x == come fl y) := by simp [ev]
  rw [e] at q
  exact q
theorem scW3 : FnScope ["self", "filling", "part"] ["self", "filling"] (defScope sAWork) := ⟨rfl, rfl, rfl, by decide +kernel, rfl, by decide +kernel, by decide +kernel⟩
theorem all_take {α : Type} {p : α → Bool} : ∀ {l : List α} {i : Nat} {a : α}, l[i]? = some a → (∀ x ∈ l.take i, p x = true) → p a = true → ∀ x ∈ l.take (i + 1), p x = true := by
  intro l i a h h1 h2 x hx
  rw [take_snoc h] at hx
  rcases List.mem_append.mp hx with hx | hx
  · exact h1 x hx
  · have : x = a := by simpa using hx
    subst this; exact h2
theorem isC_ref {T : Cl} {H : Hp} {c : Cd} {v : V} (h : IsC T H c v) {m : Str} (hm : m ∈ meths) : ∃ a dx fs, v = .ref a ∧ H a = some (.ins (T.of c) dx fs) ∧ fs.lookup m = none := by
  obtain ⟨a, dx, fs, e1, e2, e3, _⟩ := isC_iff.mp h
  exact ⟨a, dx, fs, e1, e2, e3 m hm⟩
theorem mem_holds : ("holds" : Str) ∈ meths := by unfold meths; simp
theorem mem_worked : ("worked" : Str) ∈ meths := by unfold meths; simp
theorem mem_truth : ("truth" : Str) ∈ meths := by unfold meths; simp
abbrev FamH (P : Program) (w : World) (K : PySem.W.Frag) (mg : Str → Option Value) (base : Heap) (T : Cl) (n : Nat) : Prop := Fam P w K mg base CX0 (2 * n + 1) (dom T) "holds" ["self", "filling"] (fun _ => spHold T n)
abbrev FamW (P : Program) (w : World) (K : PySem.W.Frag) (mg : Str → Option Value) (base : Heap) (T : Cl) (n : Nat) : Prop := Fam P w K mg base CX0 (2 * n + 2) (dom T) "worked" ["self", "filling"] (spWork T n)
theorem ok_wA {n : Nat} (F : Fun K "worked" "AllOf.worked" sAWork f fd) (Z : Tc K mg T CC) (FH : FamH P w K mg base T n) : FnOk P w K mg base CX0 (2 * n + 2) f fd ["self", "filling"] (spWork T n T.a) := by
  refine F.ok scW3 (fun vs H Q E h => ?_) (fun cdv A outer s H vs Q E hr h => ?_)
  · obtain ⟨a, d, H0, c, dx, fs, f, rfl, _⟩ := h
    rfl
  obtain ⟨a, d, H0, c, dx, fs, fl, rfl, hc, ha, s0, hO, hd, hF, q⟩ := h
  obtain ⟨l, rfl⟩ := Z.of_a hc
  obtain ⟨tp, xs, h1, h2, hL⟩ := hO
  have hL' : IsL T H l xs := hL.kp (.of s0)
  have e : ev fl (.all l) = l.all (ev fl) := by simp only [ev]; exact evA_all fl l
  rw [e] at q
  have hdl : ∀ c ∈ l, depth c ≤ n := depthL_le.mp (by simp only [depth] at hd; omega)
  have hcl : ∀ c ∈ l, ∀ x : Str, Sum.inr x ∈ cells c → (Sum.inr x : Key) ∈ cells (.all l) := fun c hc x hx => by simp only [cells]; exact cellsL_mem.mpr ⟨c, hc, hx⟩
  refine ⟨_, pss_cons (ps_for PassesOwn.never rfl (pi_tup (pe_fld (pv 0) rfl)) (pg_name (i := 2) scW3.nd rfl (Or.inl rfl))
      (pss_one (ps_if (pt_not (pt_val (pe_methF (pv 2) FH hr pass0 (pa_cons (pv 1) pa_nil)))) (pss_one (ps_ret pe_bl)) pss_nil)))
    (pss_one (ps_ret pe_bl)), ?_⟩
  refine ⟨_, rfl, a, T.a, dx, fs, _, rfl, ha, Z.z.cl (.all l), Z.z.npa, h1, tp, rfl, ⟨_, SqT.of (s0 _ _ h2)⟩, for_tup (K := K) (a := tp) (xs := xs) (fun i σ H2 => H2 = H ∧ (∃ u, σ = [some (.ref a), some (.ref d), u]) ∧ ∀ c ∈ l.take i, ev fl c = true)
    ⟨rfl, ⟨none, rfl⟩, by simp⟩ (fun i σ H2 _ ⟨z, _⟩ => z ▸ SqT.of (s0 _ _ h2)) ?_ ?_⟩
  · rintro i x σ H2 hi ⟨rfl, ⟨u, rfl⟩, hg⟩
    obtain ⟨c, hci, hC⟩ := isL_get hL' hi
    have hcm := List.mem_of_getElem? hci
    obtain ⟨ap, dx', fs', rfl, e2, e3⟩ := isC_ref hC mem_holds
    refine ⟨_, rfl, ap, T.of c, dx', fs', rfl, e2, ⟨c, rfl⟩, e3, _, rfl, _, d, c, fl, rfl, hC, hdl c hcm, hF.sub (hcl c hcm), _, rfl, ?_⟩
    cases hv : ev fl c with
    | false =>
      refine iteT ?_
      have : l.all (ev fl) = false := by
        cases hq : l.all (ev fl) with
        | false => rfl
        | true => rw [List.all_eq_true.mp hq c hcm] at hv; cases hv
      rw [this] at q
      exact q
    | true => exact iteF ⟨rfl, ⟨_, rfl⟩, all_take hci hg hv⟩
  · rintro σ H2 ⟨rfl, ⟨u, rfl⟩, hg⟩
    rw [← isL_len hL', List.take_length] at hg
    rw [List.all_eq_true.mpr hg] at q
    exact q
theorem scW4 : FnScope ["self", "filling", "part"] ["self", "filling"] (defScope sOWork) := ⟨rfl, rfl, rfl, by decide +kernel, rfl, by decide +kernel, by decide +kernel⟩
theorem ok_wO {n : Nat} (F : Fun K "worked" "OneOf.worked" sOWork f fd) (Z : Tc K mg T CC) (FH : FamH P w K mg base T n) : FnOk P w K mg base CX0 (2 * n + 2) f fd ["self", "filling"] (spWork T n T.o) := by
  refine F.ok scW4 (fun vs H Q E h => ?_) (fun cdv A outer s H vs Q E hr h => ?_)
  · obtain ⟨a, d, H0, c, dx, fs, f, rfl, _⟩ := h
    rfl
  obtain ⟨a, d, H0, c, dx, fs, fl, rfl, hc, ha, s0, hO, hd, hF, q⟩ := h
  obtain ⟨l, rfl⟩ := Z.of_o hc
  obtain ⟨tp, xs, h1, h2, hL⟩ := hO
  have hL' : IsL T H l xs := hL.kp (.of s0)
  have e : ev fl (.one l) = l.any (ev fl) := by simp only [ev]; exact evO_any fl l
  rw [e] at q
  have hdl : ∀ c ∈ l, depth c ≤ n := depthL_le.mp (by simp only [depth] at hd; omega)
  have hcl : ∀ c ∈ l, ∀ x : Str, Sum.inr x ∈ cells c → (Sum.inr x : Key) ∈ cells (.one l) := fun c hc x hx => by simp only [cells]; exact cellsL_mem.mpr ⟨c, hc, hx⟩
  refine ⟨_, pss_cons (ps_for PassesOwn.never rfl (pi_tup (pe_fld (pv 0) rfl)) (pg_name (i := 2) scW4.nd rfl (Or.inl rfl))
      (pss_one (ps_if (pt_val (pe_methF (pv 2) FH hr pass0 (pa_cons (pv 1) pa_nil))) (pss_one (ps_ret pe_bl)) pss_nil)))
    (pss_one (ps_ret pe_bl)), ?_⟩
  refine ⟨_, rfl, a, T.o, dx, fs, _, rfl, ha, Z.z.cl (.one l), Z.z.npo, h1, tp, rfl, ⟨_, SqT.of (s0 _ _ h2)⟩, for_tup (K := K) (a := tp) (xs := xs) (fun i σ H2 => H2 = H ∧ (∃ u, σ = [some (.ref a), some (.ref d), u]) ∧ ∀ c ∈ l.take i, (!ev fl c) = true)
    ⟨rfl, ⟨none, rfl⟩, by simp⟩ (fun i σ H2 _ ⟨z, _⟩ => z ▸ SqT.of (s0 _ _ h2)) ?_ ?_⟩
  · rintro i x σ H2 hi ⟨rfl, ⟨u, rfl⟩, hg⟩
    obtain ⟨c, hci, hC⟩ := isL_get hL' hi
    have hcm := List.mem_of_getElem? hci
    obtain ⟨ap, dx', fs', rfl, e2, e3⟩ := isC_ref hC mem_holds
    refine ⟨_, rfl, ap, T.of c, dx', fs', rfl, e2, ⟨c, rfl⟩, e3, _, rfl, _, d, c, fl, rfl, hC, hdl c hcm, hF.sub (hcl c hcm), _, rfl, ?_⟩
    cases hv : ev fl c with
    | true =>
      refine iteT ?_
      have : l.any (ev fl) = true := List.any_eq_true.mpr ⟨c, hcm, hv⟩
      rw [this] at q
      exact q
    | false => exact iteF ⟨rfl, ⟨_, rfl⟩, all_take hci hg (by rw [hv]; rfl)⟩
  · rintro σ H2 ⟨rfl, ⟨u, rfl⟩, hg⟩
    rw [← isL_len hL', List.take_length] at hg
    have : l.any (ev fl) = false := by
      rw [List.any_eq_false]
      intro c hc hv
      have := hg c hc
      rw [hv] at this; cases this
    rw [this] at q
    exact q
theorem scW5 : FnScope ["self", "filling"] ["self", "filling"] (defScope sPWork) := ⟨rfl, rfl, rfl, by decide +kernel, rfl, by decide +kernel, by decide +kernel⟩
theorem ok_wP {n : Nat} (F : Fun K "worked" "Opposite.worked" sPWork f fd) (Z : Tc K mg T CC) (FH : FamH P w K mg base T n) : FnOk P w K mg base CX0 (2 * n + 2) f fd ["self", "filling"] (spWork T n T.p) := by
  refine F.ok scW5 (fun vs H Q E h => ?_) (fun cdv A outer s H vs Q E hr h => ?_)
  · obtain ⟨a, d, H0, c, dx, fs, f, rfl, _⟩ := h
    rfl
  obtain ⟨a, d, H0, c, dx, fs, fl, rfl, hc, ha, s0, hO, hd, hF, q⟩ := h
  obtain ⟨c, rfl⟩ := Z.of_p hc
  obtain ⟨u, h1, hC⟩ := hO
  have hC' : IsC T H c u := hC.kp (.of s0)
  obtain ⟨ap, dx', fs', rfl, e2, e3⟩ := isC_ref hC' mem_holds
  refine ⟨_, pss_one (ps_ret (pe_not (pe_methF (pe_fld (pv 0) rfl) FH hr pass0 (pa_cons (pv 1) pa_nil)))), ?_⟩
  refine ⟨_, rfl, a, T.p, dx, fs, _, rfl, ha, Z.z.cl (.opp c), Z.z.npp, h1, ap, T.of c, dx', fs', rfl, e2, ⟨c, rfl⟩, e3, _, rfl, _, d, c, fl, rfl, hC', (by simp only [depth] at hd; omega), hF.sub (fun x hx => by simpa only [cells] using hx), _, rfl, ?_⟩
  have e : ev fl (.opp c) = !ev fl c := by simp only [ev]
  rw [e] at q
  exact q
theorem scH : FnScope ["self", "filling"] ["self", "filling"] (defScope sCHolds) := ⟨rfl, rfl, rfl, by decide +kernel, rfl, by decide +kernel, by decide +kernel⟩
theorem ok_holds {n : Nat} (F : Fun K "holds" "Cond.holds" sCHolds f fd) (Z : Tc K mg T CC) (FW : FamW P w K mg base T n) : FnOk P w K mg base CX0 (2 * (n + 1) + 1) f fd ["self", "filling"] (spHold T (n + 1)) := by
  refine F.ok scH (fun vs H Q E h => ?_) (fun cdv A outer s H vs Q E hr h => ?_)
  · obtain ⟨v, d, c, f, rfl, _⟩ := h
    rfl
  obtain ⟨v, d, c, fl, rfl, hC, hd, hF, q⟩ := h
  obtain ⟨a, dx, fs, rfl, ha, hm, hB, hO⟩ := isC_iff.mp hC
  refine ⟨_, pss_cons (ps_if (pt_cmpR op_notN (pe_fld (pv 0) rfl) pe_non (nomark _)) (pss_one (ps_ret (pe_fld (pv 0) rfl))) pss_nil)
    (pss_one (ps_ret (pe_methF (pv 0) FW hr pass0 (pa_cons (pv 1) pa_nil)))), ?_⟩
  refine ⟨_, rfl, a, T.of c, dx, fs, _, rfl, ha, Z.z.cl c, Z.z.ns c, hB.st, rfl, _, rfl, ?_⟩
  cases hn : nogap c with
  | true =>
    have e := setl_yes hn fl
    rw [e]
    refine iteT ⟨_, rfl, a, T.of c, dx, fs, _, rfl, ha, Z.z.cl c, Z.z.ns c, hB.st, ?_⟩
    rw [e]
    exact q
  | false =>
    rw [setl_no hn]
    refine iteF ?_
    exact ⟨_, rfl, a, T.of c, dx, fs, rfl, ha, ⟨c, rfl⟩, hm _ mem_worked, _, rfl, a, d, H, c, dx, fs, fl, rfl, rfl, ha, Same.refl H, hO, hd, hF, q⟩
theorem fam_W {n : Nat} (Z : Tc K mg T CC) (C1 : Cal P w K mg base "cell_value" 1 ["cell", "filling"] spCellV) (FH : FamH P w K mg base T n) : FamW P w K mg base T n := by
  rintro C ⟨c, rfl⟩
  cases c with
  | truth b => obtain ⟨f, fd, m, F, b'⟩ := Z.wT; exact ⟨f, fd, Z.z.cl (.truth b), m, ok_wT F Z, b'⟩
  | same x y => obtain ⟨f, fd, m, F, b⟩ := Z.wS; exact ⟨f, fd, Z.z.cl (.same x y), m, ok_wS F Z C1, b⟩
  | all l => obtain ⟨f, fd, m, F, b⟩ := Z.wA; exact ⟨f, fd, Z.z.cl (.all l), m, ok_wA F Z FH, b⟩
  | one l => obtain ⟨f, fd, m, F, b⟩ := Z.wO; exact ⟨f, fd, Z.z.cl (.one l), m, ok_wO F Z FH, b⟩
  | opp c => obtain ⟨f, fd, m, F, b⟩ := Z.wP; exact ⟨f, fd, Z.z.cl (.opp c), m, ok_wP F Z FH, b⟩
theorem fam_H (Z : Tc K mg T CC) (C1 : Cal P w K mg base "cell_value" 1 ["cell", "filling"] spCellV) : ∀ n, FamH P w K mg base T n
  | 0 => by
    rintro C ⟨c, rfl⟩
    obtain ⟨f, fd, m, F, b⟩ := Z.hH c
    refine ⟨f, fd, Z.z.cl c, m, ⟨fun vs H Q E h => ?_, fun A outer s H args us vs Q E hr e0 hb r h => ?_⟩, b⟩
    · obtain ⟨v, d, c, f, rfl, _⟩ := h
      rfl
    · obtain ⟨v, d, c', f, _, _, hd, _⟩ := h
      have := depth_pos c'
      exact absurd hd (by omega)
  | n + 1 => by
    rintro C ⟨c, rfl⟩
    obtain ⟨f, fd, m, F, b⟩ := Z.hH c
    exact ⟨f, fd, Z.z.cl c, m, ok_holds F Z (fam_W Z C1 (fam_H Z C1 n)), b⟩
/-! ### truth -/
def spTruth (T : Cl) (n : Nat) : Sp := fun vs H Q _ => ∃ (v : V) (d : Addr) (c : Cd) (f : Str → Int), vs = [v, .ref d] ∧ IsC T H c v ∧ depth c ≤ n ∧ Has H d f (cells c) ∧ Q (.bl (ev f c)) H
theorem scTr : FnScope ["self", "filling"] ["self", "filling"] (defScope sCTruth) := ⟨rfl, rfl, rfl, by decide +kernel, rfl, by decide +kernel, by decide +kernel⟩
theorem scCk : FnScope ["gaps", "filling", "gap"] ["gaps", "filling"] (defScope sCheck) := ⟨rfl, rfl, rfl, by decide +kernel, rfl, by decide +kernel, by decide +kernel⟩
theorem of_str {gs : List Str} {i : Nat} {x : V} (hi : (gs.map V.str)[i]? = some x) : ∃ g, gs[i]? = some g ∧ g ∈ gs ∧ x = V.str g := by
  rw [List.getElem?_map] at hi
  cases z : gs[i]? with
  | none => rw [z] at hi; cases hi
  | some v => rw [z] at hi; exact ⟨v, rfl, List.mem_of_getElem? z, (Option.some.inj hi).symm⟩
/-- a filling that has all these gaps is not refused -/
def spCheck (K : PySem.W.Frag) : Sp := fun vs H Q _ => ∃ (a d : Addr) (gs : List Str) (f : Str → Int) (ks : List Key), vs = [.ref a, .ref d] ∧ SqT K H a (gs.map V.str) ∧ Has H d f ks ∧ (∀ g ∈ gs, Sum.inr g ∈ ks) ∧ Q .non H
theorem ok_check (F : Fun K "check_filling" "check_filling" sCheck f fd) : FnOk P w K mg base CX0 1 f fd ["gaps", "filling"] (spCheck K) := by
  refine F.ok scCk (fun vs H Q E h => ?_) (fun cdv A outer s H vs Q E hr h => ?_)
  · obtain ⟨a, d, gs, f, ks, rfl, _⟩ := h
    rfl
  obtain ⟨a, d, gs, fl, ks, rfl, hS, ⟨kvs, hk, hkv⟩, hg, q⟩ := h
  have hu := hu_of hr
  refine ⟨_, pss_one (ps_for PassesOwn.never rfl (pi_tup (pv 0)) (pg_name (i := 2) scCk.nd rfl (Or.inl rfl))
      (pss_one (ps_if (pt_cmp (pc_dnotin hu (pv 2) (pv 1))) pss_never pss_nil))), ?_⟩
  refine ⟨_, rfl, a, rfl, ⟨_, hS⟩, for_tup (K := K) (a := a) (xs := gs.map V.str) (fun i σ H2 => H2 = H ∧ ∃ u, σ = [some (.ref a), some (.ref d), u])
    ⟨rfl, none, rfl⟩ (fun i σ H2 _ ⟨z, _⟩ => z ▸ hS) ?_ ?_⟩
  · rintro i x σ H2 hi ⟨rfl, u, rfl⟩
    obtain ⟨g, hgi, hgm, rfl⟩ := of_str hi
    refine ⟨_, rfl, _, rfl, d, _, rfl, DGet.k (k := Sum.inr g) hk, _, rfl, ?_⟩
    rw [hkv g (hg g hgm)]
    exact iteF ⟨rfl, _, rfl⟩
  · rintro σ H2 ⟨rfl, u, rfl⟩
    exact q
theorem ok_truth {n : Nat} (F : Fun K "truth" "Cond.truth" sCTruth f fd) (Z : Tc K mg T CC) (C1 : Cal P w K mg base "check_filling" 1 ["gaps", "filling"] (spCheck K)) (FH : FamH P w K mg base T n) : FnOk P w K mg base CX0 (2 * n + 2) f fd ["self", "filling"] (spTruth T n) := by
  obtain ⟨g1, d1, G1, b1, k1, m1⟩ := C1
  refine F.ok scTr (fun vs H Q E h => ?_) (fun cdv A outer s H vs Q E hr h => ?_)
  · obtain ⟨v, d, c, f, rfl, _⟩ := h
    rfl
  obtain ⟨v, d, c, fl, rfl, hC, hd, hF, q⟩ := h
  obtain ⟨a, dx, fs, rfl, ha, hm, hB, hO⟩ := isC_iff.mp hC
  obtain ⟨tg, gs, g1', g2, g3, g4, g5⟩ := hB.gp
  have hr1 : Room 1 _ := hr.mono (by omega)
  refine ⟨_, pss_cons (ps_expr (pe_call G1 hr1 rfl m1 k1 b1 .nil pass0 (pa_cons (pe_fld (pv 0) rfl) (pa_cons (pv 1) pa_nil))))
    (pss_one (ps_ret (pe_methF (pv 0) FH hr pass0 (pa_cons (pv 1) pa_nil)))), ?_⟩
  refine ⟨_, rfl, a, T.of c, dx, fs, _, rfl, ha, Z.z.cl c, Z.z.ng c, g1', _, rfl, tg, d, gs, fl, cells c, rfl, SqT.of g2, hF, fun g hg => (g5 g).mp hg, ?_⟩
  exact ⟨_, rfl, a, T.of c, dx, fs, rfl, ha, ⟨c, rfl⟩, hm _ mem_holds, _, rfl, _, d, c, fl, rfl, hC, hd, hF, q⟩
end
end K31
set_option maxHeartbeats 4000000
namespace K31
open PySem L2 CD
/-- all but a stays -/
def KeepB (a : Addr) (H H' : Hp) : Prop := ∀ b o, b ≠ a → H b = some o → H' b = some o
theorem KeepB.trans {a : Addr} {H H1 H2 : Hp} (x : KeepB a H H1) (y : KeepB a H1 H2) : KeepB a H H2 := fun b o n h => y b o n (x b o n h)
theorem KeepB.of {a : Addr} {H H' : Hp} (s : Same H H') : KeepB a H H' := fun b o _ h => s b o h
theorem KeepB.upd {a : Addr} {H : Hp} {o : HO} : KeepB a H (upd H a o) := fun b u n h => by rw [upd_ne n]; exact h
theorem KeepB.same {a : Addr} {H0 H H' : Hp} (k : KeepB a H H') (s : Same H0 H) (h : H0 a = none) : Same H0 H' := fun b o q => k b o (ne_of_none q h) (s b o q)
def ownNames : List Str := ["said", "one", "other", "parts", "part"]
theorem own_put {T : Cl} {H : Hp} {fs : List (Str × V)} {c : Cd} {g : Str} {y : V} (hg : g ∉ ownNames) (h : Own T H fs c) : Own T H (putF g y fs) c := by
  have e : ∀ f ∈ ownNames, (putF g y fs).lookup f = fs.lookup f := fun f hf => by rw [lookup_putF, if_neg (fun z : f = g => hg (z ▸ hf))]
  cases c with
  | truth b => exact (e "said" (by unfold ownNames; simp)).trans h
  | same x y => exact ⟨(e "one" (by unfold ownNames; simp)).trans h.1, (e "other" (by unfold ownNames; simp)).trans h.2⟩
  | all l => obtain ⟨tp, xs, h1, h2⟩ := h; exact ⟨tp, xs, (e "parts" (by unfold ownNames; simp)).trans h1, h2⟩
  | one l => obtain ⟨tp, xs, h1, h2⟩ := h; exact ⟨tp, xs, (e "parts" (by unfold ownNames; simp)).trans h1, h2⟩
  | opp c => obtain ⟨u, h1, h2⟩ := h; exact ⟨u, (e "part" (by unfold ownNames; simp)).trans h1, h2⟩
theorem meth_put {fs : List (Str × V)} {g : Str} {y : V} (hg : g ∉ meths) (h : ∀ m ∈ meths, fs.lookup m = none) : ∀ m ∈ meths, (putF g y fs).lookup m = none := by
  intro m hm
  rw [lookup_putF, if_neg (fun z : m = g => hg (z ▸ hm))]
  exact h m hm
theorem ng1 : ("kept_gaps" : Str) ∉ ownNames ∧ ("kept_gaps" : Str) ∉ meths := by unfold ownNames meths; decide +kernel
theorem ng2 : ("kept_values" : Str) ∉ ownNames ∧ ("kept_values" : Str) ∉ meths := by unfold ownNames meths; decide +kernel
theorem ng3 : ("kept_atoms" : Str) ∉ ownNames ∧ ("kept_atoms" : Str) ∉ meths := by unfold ownNames meths; decide +kernel
theorem ng4 : ("settled" : Str) ∉ ownNames ∧ ("settled" : Str) ∉ meths := by unfold ownNames meths; decide +kernel
/-- the texts of a set -/
theorem strs_set {ks kys : List Key} {c : Cd} {pool : List Key} (nd : ks.Nodup) (hm : ∀ k, k ∈ ks ↔ k ∈ (strsIn kys).map Sum.inr) (hk : ∀ k : Key, k ∈ kys ↔ k ∈ cells c) (hp : ∀ k ∈ cells c, k ∈ pool) (pl : pool.length < 64) :
    ∃ xs : List Str, ks = xs.map Sum.inr ∧ xs.Nodup ∧ xs.length < 64 ∧ ∀ x, x ∈ xs ↔ Sum.inr x ∈ cells c := by
  obtain ⟨xs, rfl⟩ := allStr (ks := ks) (fun k h => by obtain ⟨x, _, e⟩ := List.mem_map.mp ((hm k).mp h); exact ⟨x, e.symm⟩)
  have mem : ∀ x, x ∈ xs ↔ Sum.inr x ∈ cells c := fun x => by
    have h1 := hm (Sum.inr x)
    rw [List.mem_map, List.mem_map] at h1
    rw [← hk, ← mem_strsIn]
    constructor
    · intro hx
      obtain ⟨y, hy, e⟩ := h1.mp ⟨x, hx, rfl⟩
      exact (Sum.inr.inj e) ▸ hy
    · intro hx
      obtain ⟨y, hy, e⟩ := h1.mpr ⟨x, hx, rfl⟩
      exact (Sum.inr.inj e) ▸ hy
  refine ⟨xs, rfl, nodup_of_map nd, ?_, mem⟩
  have := nodup_sub (l := xs.map (Sum.inr : Str → Key)) (m := pool) nd (fun k hk => by
    obtain ⟨x, hx, rfl⟩ := List.mem_map.mp hk
    exact hp _ ((mem x).mp hx))
  rw [List.length_map] at this
  omega
theorem ints_set {ks kys : List Key} {c : Cd} {pool : List Key} (nd : ks.Nodup) (hm : ∀ k, k ∈ ks ↔ k ∈ (intsIn kys).map Sum.inl) (hk : ∀ k : Key, k ∈ kys ↔ k ∈ cells c) (hp : ∀ k ∈ cells c, k ∈ pool) (pl : pool.length < 64) :
    ∃ xs : List Int, ks = xs.map Sum.inl ∧ xs.Nodup ∧ xs.length < 64 ∧ ∀ x, x ∈ xs ↔ Sum.inl x ∈ cells c := by
  obtain ⟨xs, rfl⟩ := allInt (ks := ks) (fun k h => by obtain ⟨x, _, e⟩ := List.mem_map.mp ((hm k).mp h); exact ⟨x, e.symm⟩)
  have mem : ∀ x, x ∈ xs ↔ Sum.inl x ∈ cells c := fun x => by
    have h1 := hm (Sum.inl x)
    rw [List.mem_map, List.mem_map] at h1
    rw [← hk, ← mem_intsIn]
    constructor
    · intro hx
      obtain ⟨y, hy, e⟩ := h1.mp ⟨x, hx, rfl⟩
      exact (Sum.inl.inj e) ▸ hy
    · intro hx
      obtain ⟨y, hy, e⟩ := h1.mpr ⟨x, hx, rfl⟩
      exact (Sum.inl.inj e) ▸ hy
  refine ⟨xs, rfl, nodup_of_map nd, ?_, mem⟩
  have := nodup_sub (l := xs.map (Sum.inl : Int → Key)) (m := pool) nd (fun k hk => by
    obtain ⟨x, hx, rfl⟩ := List.mem_map.mp hk
    exact hp _ ((mem x).mp hx))
  rw [List.length_map] at this
  omega
/-- what each condition is handed to be made -/
def spBase (T : Cl) (K : PySem.W.Frag) (n : Nat) : Sp := fun vs H Q _ => ∃ (a r : Addr) (H0 : Hp) (c : Cd) (dx : Addr) (fs : List (Str × V)) (kys pool : List Key), vs = [.ref a, .ref r, .int (atoms c)] ∧ H a = some (.ins (T.of c) dx fs) ∧ Same H0 H ∧ H0 a = none ∧ Own T H0 fs c ∧ depth c ≤ n + 1 ∧
  SqL K H r (kys.map kV) ∧ kys.length ≤ 3000 ∧ (∀ k : Key, k ∈ kys ↔ k ∈ cells c) ∧ pool.length < 64 ∧ (∀ k ∈ cells c, k ∈ pool) ∧ fs.length ≤ 10 ∧ (∀ m ∈ meths, fs.lookup m = none) ∧
  ∀ H' fs', KeepB a H H' → H' a = some (.ins (T.of c) dx fs') → (∀ m ∈ meths, fs'.lookup m = none) → Bas H' fs' c → Own T H0 fs' c → Q .non H'
section
variable {P : Program} {w : World} {K : PySem.W.Frag} {mg : Str → Option Value} {base : Heap} {f : Addr} {fd : FuncData} {T : Cl} {CC : Addr}
theorem map_kVs (xs : List Str) : xs.map V.str = (xs.map (Sum.inr : Str → Key)).map kV := by rw [List.map_map]; rfl
theorem map_kVi (xs : List Int) : xs.map V.int = (xs.map (Sum.inl : Int → Key)).map kV := by rw [List.map_map]; rfl
theorem scCI : FnScope ["self", "cells", "atoms"] ["self", "cells", "atoms"] (defScope sCInit) := ⟨rfl, rfl, rfl, by decide +kernel, rfl, by decide +kernel, by decide +kernel⟩
theorem put_has {f : Str} {v : V} {fs : List (Str × V)} : (putF f v fs).lookup f = some v := by rw [lookup_putF, if_pos rfl]
theorem put_ne {f g : Str} {v : V} {fs : List (Str × V)} (h : g ≠ f) : (putF f v fs).lookup g = fs.lookup g := by rw [lookup_putF, if_neg h]
theorem ok_cinit {n : Nat} (F : Fun K "__init__" "Cond.__init__" sCInit f fd) (Z : Tc K mg T CC) (C1 : Cal P w K mg base "gaps_among" 1 ["cells"] (spGapsA K)) (C2 : Cal P w K mg base "values_among" 1 ["cells"] (spValsA K)) (FW : FamW P w K mg base T n) : FnOk P w K mg base CX0 (2 * n + 3) f fd ["self", "cells", "atoms"] (spBase T K n) := by
  obtain ⟨g1, d1, G1, b1, k1, m1⟩ := C1
  obtain ⟨g2, d2, G2, b2, k2, m2⟩ := C2
  refine F.ok scCI (fun vs H Q E h => ?_) (fun cdv A outer s H vs Q E hr h => ?_)
  · obtain ⟨a, r, H0, c, dx, fs, kys, pool, rfl, _⟩ := h
    rfl
  obtain ⟨a, r, H0, c, dx, fs, kys, pool, rfl, ha, s0, h0, hO, hd, hS, hkl0, hk, hpl, hp, hfl, hms, q⟩ := h
  have hkl : kys.length ≤ 4000 := Nat.le_trans hkl0 (by decide)
  have hr1 : Room 1 _ := hr.mono (by omega)
  refine ⟨_, pss_cons (ps_fld (pv 0) (pe_callTy call_tuple_of rfl Z.x.tuple PyProof.Rows.boot_tuple (pa_cons (pe_callB (call_sorted_setS rfl) rfl Z.x.sorted PyProof.Rows.boot_sorted (pa_cons (pe_callTy (call_set_of rfl) rfl Z.x.set PyProof.Rows.boot_set (pa_cons (pe_call G1 hr1 rfl m1 k1 b1 .nil pass0 (pa_cons (pv 1) pa_nil)) pa_nil)) pa_nil)) pa_nil)) rfl)
    (pss_cons (ps_fld (pv 0) (pe_callTy call_tuple_of rfl Z.x.tuple PyProof.Rows.boot_tuple (pa_cons (pe_callB (call_sorted_setI rfl) rfl Z.x.sorted PyProof.Rows.boot_sorted (pa_cons (pe_callTy (call_set_of rfl) rfl Z.x.set PyProof.Rows.boot_set (pa_cons (pe_call G2 hr1 rfl m2 k2 b2 .nil pass0 (pa_cons (pv 1) pa_nil)) pa_nil)) pa_nil)) pa_nil)) rfl)
    (pss_cons (ps_fld (pv 0) (pv 2) rfl)
    (pss_cons (ps_fld (pv 0) pe_non rfl)
    (pss_one (ps_if (pt_not (pt_truth (pe_fld (pv 0) rfl) (fun _ => rfl))) (pss_one (ps_fld (pv 0) (pe_methF (pv 0) FW hr pass0 (pa_cons pe_dnewK pa_nil)) rfl)) pss_nil))))), ?_⟩
  -- the gaps
  refine ⟨_, rfl, r, kys, rfl, hS, hkl, fun l1 H1 s1 hl1 => ⟨l1, (strsIn kys).map Sum.inr, rfl, SqL.of (by rw [← map_kVs]; exact hl1), by rw [List.length_map]; exact Nat.le_trans (strsIn_len _) hkl, fun l2 ks hl2 nd hm => ?_⟩⟩
  obtain ⟨gs0, rfl, gnd, gl, gm⟩ := strs_set nd hm hk hp hpl
  refine ⟨l2, gs0, rfl, upd_same, gl, fun l3 gs hl3 pg sg => ⟨l3, _, rfl, .inl ⟨SqL.of upd_same, fun tg htg => ?_⟩⟩⟩
  generalize SetO _ _ l2 (List.map Sum.inr gs0) = so at hl3 htg ⊢
  have w2 := same_new hl2 so
  have w3 := same_new hl3 (.lst (gs.map V.str))
  have w4 := same_new htg (.tup (gs.map V.str))
  have s4 := s1.trans (w2.trans (w3.trans w4))
  have hg4 := upd_same (H := upd (upd H1 l2 so) l3 (.lst (gs.map V.str))) (a := tg) (o := .tup (gs.map V.str))
  have htg0 : H tg = none := by
    cases e : H tg with
    | none => rfl
    | some o => rw [(s1.trans (w2.trans w3)) _ _ e] at htg; cases htg
  generalize upd (upd (upd H1 l2 so) l3 (.lst (gs.map V.str))) tg (.tup (gs.map V.str)) = H4 at s4 hg4
  refine ⟨_, rfl, a, T.of c, dx, fs, rfl, s4 _ _ ha, Z.z.cl c, Z.z.ng c, by omega, ?_⟩
  have nta : tg ≠ a := fun e => by rw [e, ha] at htg0; cases htg0
  have nra : r ≠ a ∨ True := .inr trivial
  have kb5 : KeepB a H (upd H4 a (.ins (T.of c) dx (putF "kept_gaps" (.ref tg) fs))) := (KeepB.of s4).trans KeepB.upd
  have ha5 := upd_same (H := H4) (a := a) (o := .ins (T.of c) dx (putF "kept_gaps" (.ref tg) fs))
  have hg5 : (upd H4 a (.ins (T.of c) dx (putF "kept_gaps" (.ref tg) fs))) tg = some (.tup (gs.map V.str)) := by rw [upd_ne nta]; exact hg4
  have hS5 : SqL K (upd H4 a (.ins (T.of c) dx (putF "kept_gaps" (.ref tg) fs))) r (kys.map kV) := by
    rcases hS with (h | ⟨o, h⟩) | h
    · exact .inl (.inl (kb5 _ _ (fun e => by rw [e, ha] at h; cases h) h))
    · exact .inl (.inr ⟨o, kb5 _ _ (fun e => by rw [e, ha] at h; cases h) h⟩)
    · exact .inr h
  generalize upd H4 a (.ins (T.of c) dx (putF "kept_gaps" (.ref tg) fs)) = H5 at kb5 ha5 hg5 hS5
  -- the values
  refine ⟨_, rfl, r, kys, rfl, hS5, hkl, fun j1 J1 z1 hj1 => ⟨j1, (intsIn kys).map Sum.inl, rfl, SqL.of (by rw [← map_kVi]; exact hj1), by rw [List.length_map]; exact Nat.le_trans (intsIn_len _) hkl, fun j2 ks' hj2 nd' hm' => ?_⟩⟩
  obtain ⟨vs0, rfl, vnd, vl, vm⟩ := ints_set nd' hm' hk hp hpl
  refine ⟨j2, vs0, rfl, upd_same, vl, fun j3 vs hj3 pv' sv => ⟨j3, _, rfl, .inl ⟨SqL.of upd_same, fun tv htv => ?_⟩⟩⟩
  generalize SetO _ _ j2 (List.map Sum.inl vs0) = so' at hj3 htv ⊢
  have y2 := same_new hj2 so'
  have y3 := same_new hj3 (.lst (vs.map V.int))
  have y4 := same_new htv (.tup (vs.map V.int))
  have s9 := z1.trans (y2.trans (y3.trans y4))
  have hv9 := upd_same (H := upd (upd J1 j2 so') j3 (.lst (vs.map V.int))) (a := tv) (o := .tup (vs.map V.int))
  have htv0 : H5 tv = none := by
    cases e : H5 tv with
    | none => rfl
    | some o => rw [(z1.trans (y2.trans y3)) _ _ e] at htv; cases htv
  generalize upd (upd (upd J1 j2 so') j3 (.lst (vs.map V.int))) tv (.tup (vs.map V.int)) = H9 at s9 hv9
  have nva : tv ≠ a := fun e => by rw [e, ha5] at htv0; cases htv0
  have lf1 := length_putF "kept_gaps" (.ref tg) fs
  refine ⟨_, rfl, a, T.of c, dx, _, rfl, s9 _ _ ha5, Z.z.cl c, Z.z.nv c, by omega, ?_⟩
  have lf2 := length_putF "kept_values" (.ref tv) (putF "kept_gaps" (.ref tg) fs)
  -- the atoms
  refine ⟨_, rfl, _, rfl, a, T.of c, dx, _, rfl, upd_same, Z.z.cl c, Z.z.na c, by omega, ?_⟩
  have lf3 := length_putF "kept_atoms" (.int (atoms c)) (putF "kept_values" (.ref tv) (putF "kept_gaps" (.ref tg) fs))
  refine ⟨_, rfl, a, T.of c, dx, _, rfl, upd_same, Z.z.cl c, Z.z.ns c, by omega, ?_⟩
  have lf4 := length_putF "settled" .non (putF "kept_atoms" (.int (atoms c)) (putF "kept_values" (.ref tv) (putF "kept_gaps" (.ref tg) fs)))
  -- what stands now
  have o4 : Own T H0 (putF "settled" .non (putF "kept_atoms" (.int (atoms c)) (putF "kept_values" (.ref tv) (putF "kept_gaps" (.ref tg) fs)))) c := own_put ng4.1 (own_put ng3.1 (own_put ng2.1 (own_put ng1.1 hO)))
  have e4 : ∀ m ∈ meths, (putF "settled" .non (putF "kept_atoms" (.int (atoms c)) (putF "kept_values" (.ref tv) (putF "kept_gaps" (.ref tg) fs)))).lookup m = none := meth_put ng4.2 (meth_put ng3.2 (meth_put ng2.2 (meth_put ng1.2 hms)))
  have fg : (putF "settled" .non (putF "kept_atoms" (.int (atoms c)) (putF "kept_values" (.ref tv) (putF "kept_gaps" (.ref tg) fs)))).lookup ("kept_gaps" : Str) = some (.ref tg) := by
    rw [put_ne (by decide), put_ne (by decide), put_ne (by decide), put_has]
  have fv : (putF "settled" .non (putF "kept_atoms" (.int (atoms c)) (putF "kept_values" (.ref tv) (putF "kept_gaps" (.ref tg) fs)))).lookup ("kept_values" : Str) = some (.ref tv) := by
    rw [put_ne (by decide), put_ne (by decide), put_has]
  have fa : (putF "settled" .non (putF "kept_atoms" (.int (atoms c)) (putF "kept_values" (.ref tv) (putF "kept_gaps" (.ref tg) fs)))).lookup ("kept_atoms" : Str) = some (.int (atoms c)) := by
    rw [put_ne (by decide), put_has]
  have fst : (putF "settled" .non (putF "kept_atoms" (.int (atoms c)) (putF "kept_values" (.ref tv) (putF "kept_gaps" (.ref tg) fs)))).lookup ("settled" : Str) = some .non := put_has
  have kbX : ∀ o1 o2 o3 : HO, KeepB a H9 (upd (upd (upd H9 a o1) a o2) a o3) := fun o1 o2 o3 => (KeepB.upd.trans KeepB.upd).trans KeepB.upd
  have kb := kbX (.ins (T.of c) dx (putF "kept_values" (.ref tv) (putF "kept_gaps" (.ref tg) fs))) (.ins (T.of c) dx (putF "kept_atoms" (.int (atoms c)) (putF "kept_values" (.ref tv) (putF "kept_gaps" (.ref tg) fs))))
    (.ins (T.of c) dx (putF "settled" .non (putF "kept_atoms" (.int (atoms c)) (putF "kept_values" (.ref tv) (putF "kept_gaps" (.ref tg) fs)))))
  have haN := upd_same (H := upd (upd H9 a (.ins (T.of c) dx (putF "kept_values" (.ref tv) (putF "kept_gaps" (.ref tg) fs)))) a (.ins (T.of c) dx (putF "kept_atoms" (.int (atoms c)) (putF "kept_values" (.ref tv) (putF "kept_gaps" (.ref tg) fs))))) (a := a) (o := .ins (T.of c) dx (putF "settled" .non (putF "kept_atoms" (.int (atoms c)) (putF "kept_values" (.ref tv) (putF "kept_gaps" (.ref tg) fs)))))
  generalize upd (upd (upd H9 a (.ins (T.of c) dx (putF "kept_values" (.ref tv) (putF "kept_gaps" (.ref tg) fs)))) a (.ins (T.of c) dx (putF "kept_atoms" (.int (atoms c)) (putF "kept_values" (.ref tv) (putF "kept_gaps" (.ref tg) fs))))) a (.ins (T.of c) dx (putF "settled" .non (putF "kept_atoms" (.int (atoms c)) (putF "kept_values" (.ref tv) (putF "kept_gaps" (.ref tg) fs))))) = HN at kb haN
  generalize putF "settled" .non (putF "kept_atoms" (.int (atoms c)) (putF "kept_values" (.ref tv) (putF "kept_gaps" (.ref tg) fs))) = fN at o4 e4 fg fv fa fst haN lf4
  have hgN : HN tg = some (.tup (gs.map V.str)) := kb _ _ nta (s9 _ _ hg5)
  have hvN : HN tv = some (.tup (vs.map V.int)) := kb _ _ nva hv9
  have kN : KeepB a H HN := kb5.trans ((KeepB.of s9).trans kb)
  have gm' : ∀ x, x ∈ gs ↔ Sum.inr x ∈ cells c := fun x => (pg.mem_iff).trans (gm x)
  have vm' : ∀ x, x ∈ vs ↔ Sum.inl x ∈ cells c := fun x => (pv'.mem_iff).trans (vm x)
  refine ⟨_, rfl, a, T.of c, dx, _, _, rfl, haN, Z.z.cl c, Z.z.ng c, fg, _, .inr (.inl ⟨_, SqT.of hgN, rfl⟩), ?_⟩
  cases hn : nogap c with
  | false =>
    have hne : (gs.map V.str).isEmpty = false := by
      cases he : gs with
      | nil =>
        have : nogap c = true := nogap_iff.mpr fun x hx => by have := (gm' x).mpr hx; rw [he] at this; cases this
        rw [this] at hn; cases hn
      | cons y r => rfl
    rw [hne]
    refine iteF ?_
    refine q HN fN kN haN e4 ⟨⟨tg, gs, fg, hgN, (pg.nodup_iff).mpr gnd, sg, gm'⟩, ⟨tv, vs, fv, hvN, (pv'.nodup_iff).mpr vnd, sv, vm'⟩, fa, ?_⟩ o4
    rw [fst, setl_no hn]
  | true =>
    have hne : (gs.map V.str).isEmpty = true := by
      cases he : gs with
      | nil => rfl
      | cons y r => exact absurd ((gm' y).mp (by rw [he]; simp)) (nogap_iff.mp hn y)
    rw [hne]
    refine iteT ?_
    refine ⟨_, rfl, a, T.of c, dx, fN, rfl, haN, ⟨c, rfl⟩, e4 _ mem_worked, fun d hd' => ?_⟩
    have nda : a ≠ d := fun e => by rw [← e, haN] at hd'; cases hd'
    have wd := same_new hd' (.dK [])
    have sW : Same H0 (upd HN d (.dK [])) := (kN.same s0 h0).trans wd
    refine ⟨a, d, H0, c, dx, fN, fun _ => 0, rfl, rfl, wd _ _ haN, sW, o4, hd, ⟨[], upd_same, fun x hx => absurd hx (nogap_iff.mp hn x)⟩, ?_⟩
    refine ⟨_, rfl, a, T.of c, dx, fN, rfl, wd _ _ haN, Z.z.cl c, Z.z.ns c, by omega, ?_⟩
    have hE : setl c = .bl (ev (fun _ => 0) c) := setl_yes hn _
    have kE : KeepB a H (upd (upd HN d (.dK [])) a (.ins (T.of c) dx (putF "settled" (.bl (ev (fun _ => 0) c)) fN))) := kN.trans ((KeepB.of wd).trans KeepB.upd)
    refine q _ _ kE upd_same (meth_put ng4.2 e4) ⟨⟨tg, gs, ?_, ?_, (pg.nodup_iff).mpr gnd, sg, gm'⟩, ⟨tv, vs, ?_, ?_, (pv'.nodup_iff).mpr vnd, sv, vm'⟩, ?_, ?_⟩ (own_put ng4.1 o4)
    · rw [put_ne (by decide)]; exact fg
    · rw [upd_ne nta]; exact wd _ _ hgN
    · rw [put_ne (by decide)]; exact fv
    · rw [upd_ne nva]; exact wd _ _ hvN
    · rw [put_ne (by decide)]; exact fa
    · rw [put_has, hE]
end
end K31
set_option maxHeartbeats 4000000
namespace K31
open PySem L2 CD
def CBase (P : Program) (w : World) (K : PySem.W.Frag) (mg : Str → Option Value) (base : Heap) (T : Cl) (CC : Addr) (n : Nat) : Prop := ∃ f fd mc, ClsFn K CC mc "__init__" f ∧ FnOk P w K mg base CX0 (2 * n + 3) f fd ["self", "cells", "atoms"] (spBase T K n) ∧ Binds K fd ["self", "cells", "atoms"] [] ∧ mg "Cond" = some (.ref CC)
def spTI (T : Cl) : Sp := fun vs H Q _ => ∃ (a dx : Addr) (b : Bool) (H0 : Hp), vs = [.ref a, .bl b] ∧ H a = some (.ins T.t dx []) ∧ Same H0 H ∧ H0 a = none ∧ ∀ H', KeepB a H H' → IsC T H' (.truth b) (.ref a) → Q .non H'
def spSI (T : Cl) : Sp := fun vs H Q _ => ∃ (a dx : Addr) (x y : Key) (H0 : Hp), vs = [.ref a, kV x, kV y] ∧ H a = some (.ins T.s dx []) ∧ Same H0 H ∧ H0 a = none ∧ ∀ H', KeepB a H H' → IsC T H' (.same x y) (.ref a) → Q .non H'
def spPI (T : Cl) (n : Nat) : Sp := fun vs H Q _ => ∃ (a dx : Addr) (v : V) (c : Cd) (H0 : Hp), vs = [.ref a, v] ∧ H a = some (.ins T.p dx []) ∧ Same H0 H ∧ H0 a = none ∧ IsC T H0 c v ∧ depth c ≤ n ∧ Pool (cells c) 1 ∧ ∀ H', KeepB a H H' → IsC T H' (.opp c) (.ref a) → Q .non H'
def spLI (T : Cl) (K : PySem.W.Frag) (n : Nat) (C : Addr) (mk : List Cd → Cd) : Sp := fun vs H Q _ => ∃ (a dx r : Addr) (xs : List V) (l : List Cd) (H0 : Hp), vs = [.ref a, .ref r] ∧ H a = some (.ins C dx []) ∧ Same H0 H ∧ H0 a = none ∧ SqL K H r xs ∧ IsL T H0 l xs ∧ l.length ≤ 4000 ∧ depthL l ≤ n ∧ Pool (cellsL l) l.length ∧ ∀ H', KeepB a H H' → IsC T H' (mk l) (.ref a) → Q .non H'
theorem len1 {g : Str} {y : V} : (putF g y []).length ≤ 10 := by have := length_putF g y []; simp at this; omega
theorem len2 {g g' : Str} {y y' : V} : (putF g y (putF g' y' [])).length ≤ 10 := by have := length_putF g' y' []; have := length_putF g y (putF g' y' []); simp at *; omega
theorem no_meth1 {g : Str} {y : V} (hg : g ∉ meths) : ∀ m ∈ meths, (putF g y []).lookup m = none := meth_put hg (fun _ _ => rfl)
theorem no_meth2 {g g' : Str} {y y' : V} (hg : g ∉ meths) (hg' : g' ∉ meths) : ∀ m ∈ meths, (putF g y (putF g' y' [])).lookup m = none := meth_put hg (no_meth1 hg')
theorem nm1 : ("said" : Str) ∉ meths := by unfold meths; decide +kernel
theorem nm2 : ("one" : Str) ∉ meths := by unfold meths; decide +kernel
theorem nm3 : ("other" : Str) ∉ meths := by unfold meths; decide +kernel
theorem nm4 : ("parts" : Str) ∉ meths := by unfold meths; decide +kernel
theorem nm5 : ("part" : Str) ∉ meths := by unfold meths; decide +kernel
theorem lcg_tupR {K : PySem.W.Frag} {a D : Addr} {xs : List V} {g : TG} {tt : TT} {te : TE} {R : Hp → Prop} {σ0 : St} {H1 : Hp} (Pv : Nat → St → Hp → Prop) (h0 : Pv 0 σ0 (upd H1 D (.lst []))) (hl : ∀ i σ H, i ≤ xs.length → Pv i σ H → SqT K H a xs)
    (hs : ∀ i x σ H, xs[i]? = some x → Pv i σ H → g x σ H fun σ3 H3 => tt σ3 H3 fun b H4 => if b = true then te σ3 H4 fun y H5 => ∃ zs, H5 D = some (.lst zs) ∧ zs.length < sizeLine ∧ Pv (i + 1) σ3 (upd H5 D (.lst (zs ++ [y]))) else Pv (i + 1) σ3 H4) (hd : ∀ σ H, Pv xs.length σ H → R H) :
    ∃ W : Nat → Nat → St → Hp → Prop, (∃ m, W 0 m σ0 (upd H1 D (.lst []))) ∧ ∀ i m σ' H', W i m σ' H' →
      ((Itt K a).stop i H' ∧ R H') ∨ ((Itt K a).go i H' ∧ ∃ N : St → Hp → Prop, (∀ σ2 H2, N σ2 H2 → ∃ m', m' < m ∧ W (i + 1) m' σ2 H2) ∧
        ∀ x H2, (Itt K a).yld i H' x H2 → g x σ' H2 fun σ3 H3 => tt σ3 H3 fun b H4 => if b = true then te σ3 H4 fun y H5 => ∃ zs, H5 D = some (.lst zs) ∧ zs.length < sizeLine ∧ N σ3 (upd H5 D (.lst (zs ++ [y]))) else N σ3 H4) :=
  lcg_tup (Q := fun _ H => R H) Pv h0 hl hs hd
theorem lcg_listR {K : PySem.W.Frag} {a D : Addr} {xs : List V} {g : TG} {tt : TT} {te : TE} {R : Hp → Prop} {σ0 : St} {H1 : Hp} (Pv : Nat → St → Hp → Prop) (h0 : Pv 0 σ0 (upd H1 D (.lst []))) (hl : ∀ i σ H, i ≤ xs.length → Pv i σ H → SqL K H a xs)
    (hs : ∀ i x σ H, xs[i]? = some x → Pv i σ H → g x σ H fun σ3 H3 => tt σ3 H3 fun b H4 => if b = true then te σ3 H4 fun y H5 => ∃ zs, H5 D = some (.lst zs) ∧ zs.length < sizeLine ∧ Pv (i + 1) σ3 (upd H5 D (.lst (zs ++ [y]))) else Pv (i + 1) σ3 H4) (hd : ∀ σ H, Pv xs.length σ H → R H) :
    ∃ W : Nat → Nat → St → Hp → Prop, (∃ m, W 0 m σ0 (upd H1 D (.lst []))) ∧ ∀ i m σ' H', W i m σ' H' →
      ((Itl K a).stop i H' ∧ R H') ∨ ((Itl K a).go i H' ∧ ∃ N : St → Hp → Prop, (∀ σ2 H2, N σ2 H2 → ∃ m', m' < m ∧ W (i + 1) m' σ2 H2) ∧
        ∀ x H2, (Itl K a).yld i H' x H2 → g x σ' H2 fun σ3 H3 => tt σ3 H3 fun b H4 => if b = true then te σ3 H4 fun y H5 => ∃ zs, H5 D = some (.lst zs) ∧ zs.length < sizeLine ∧ N σ3 (upd H5 D (.lst (zs ++ [y]))) else N σ3 H4) :=
  lcg_list (Q := fun _ H => R H) Pv h0 hl hs hd
section
variable {P : Program} {w : World} {K : PySem.W.Frag} {mg : Str → Option Value} {base : Heap} {f : Addr} {fd : FuncData} {T : Cl} {CC : Addr}
theorem made_isC {H0 H' : Hp} {a dx : Addr} {c : Cd} {fs : List (Str × V)} (s : Same H0 H') (ha : H' a = some (.ins (T.of c) dx fs)) (hm : ∀ m ∈ meths, fs.lookup m = none) (hB : Bas H' fs c) (hO : Own T H0 fs c) : IsC T H' c (.ref a) :=
  isC_iff.mpr ⟨a, dx, fs, rfl, ha, hm, hB, hO.kp (.of s)⟩
theorem scTI : FnScope ["self", "said"] ["self", "said"] (defScope sTInit) := ⟨rfl, rfl, rfl, by decide +kernel, rfl, by decide +kernel, by decide +kernel⟩
theorem ok_tinit {n : Nat} (F : Fun K "__init__" "Truth.__init__" sTInit f fd) (Z : Tc K mg T CC) (B : CBase P w K mg base T CC n) : FnOk P w K mg base CX0 (2 * n + 4) f fd ["self", "said"] (spTI T) := by
  obtain ⟨g1, d1, mc, cf, G1, b1, m1⟩ := B
  refine F.ok scTI (fun vs H Q E h => ?_) (fun cdv A outer s H vs Q E hr h => ?_)
  · obtain ⟨a, dx, b, H0, rfl, _⟩ := h
    rfl
  obtain ⟨a, dx, b, H0, rfl, ha, s0, h0, q⟩ := h
  refine ⟨_, pss_cons (ps_fld (pv 0) (pv 1) rfl) (pss_one (ps_expr (pe_clsFn cf G1 hr rfl m1 b1 pass0 (pa_cons (pv 0) (pa_cons (pe_lst pa_nil) (pa_cons pe_int pa_nil)))))), ?_⟩
  refine ⟨_, rfl, _, rfl, a, T.t, dx, [], rfl, ha, Z.z.cl (.truth b), Z.z.nsd, by decide, ?_⟩
  refine ⟨_, rfl, small (by decide), fun r hr' => ?_⟩
  have nra : a ≠ r := fun e => by rw [← e, upd_same] at hr'; cases hr'
  have k1 : KeepB a H (upd (upd H a (.ins T.t dx (putF "said" (.bl b) []))) r (.lst [])) := KeepB.upd.trans (KeepB.of (same_new hr' _))
  refine ⟨a, r, H0, .truth b, dx, putF "said" (.bl b) [], [], [], rfl, by rw [upd_ne nra, upd_same]; rfl, k1.same s0 h0, h0, put_has, by simp [depth], SqL.of upd_same, by decide, by simp [cells], by decide, by simp [cells], len1, no_meth1 nm1, fun H' fs' kb e1 e2 e3 e4 => ?_⟩
  have kb' := k1.trans kb
  exact q H' kb' (made_isC (kb'.same s0 h0) e1 e2 e3 e4)
theorem scSI : FnScope ["self", "one", "other"] ["self", "one", "other"] (defScope sSInit) := ⟨rfl, rfl, rfl, by decide +kernel, rfl, by decide +kernel, by decide +kernel⟩
theorem ok_sinit {n : Nat} (F : Fun K "__init__" "Same.__init__" sSInit f fd) (Z : Tc K mg T CC) (B : CBase P w K mg base T CC n) : FnOk P w K mg base CX0 (2 * n + 4) f fd ["self", "one", "other"] (spSI T) := by
  obtain ⟨g1, d1, mc, cf, G1, b1, m1⟩ := B
  refine F.ok scSI (fun vs H Q E h => ?_) (fun cdv A outer s H vs Q E hr h => ?_)
  · obtain ⟨a, dx, x, y, H0, rfl, _⟩ := h
    rfl
  obtain ⟨a, dx, x, y, H0, rfl, ha, s0, h0, q⟩ := h
  refine ⟨_, pss_cons (ps_fld (pv 0) (pv 1) rfl) (pss_cons (ps_fld (pv 0) (pv 2) rfl) (pss_one (ps_expr (pe_clsFn cf G1 hr rfl m1 b1 pass0 (pa_cons (pv 0) (pa_cons (pe_lst (pa_cons (pv 1) (pa_cons (pv 2) pa_nil))) (pa_cons pe_int pa_nil))))))), ?_⟩
  refine ⟨_, rfl, _, rfl, a, T.s, dx, [], rfl, ha, Z.z.cl (.same x y), Z.z.no1, by decide, ?_⟩
  refine ⟨_, rfl, _, rfl, a, T.s, dx, _, rfl, upd_same, Z.z.cl (.same x y), Z.z.no2, Nat.lt_of_le_of_lt len1 (by decide), ?_⟩
  refine ⟨_, rfl, _, rfl, _, rfl, small (by simp), fun r hr' => ?_⟩
  have nra : a ≠ r := fun e => by rw [← e, upd_same] at hr'; cases hr'
  have k1 : KeepB a H (upd (upd (upd H a (.ins T.s dx (putF "one" (kV x) []))) a (.ins T.s dx (putF "other" (kV y) (putF "one" (kV x) [])))) r (.lst [kV x, kV y])) := (KeepB.upd.trans KeepB.upd).trans (KeepB.of (same_new hr' _))
  refine ⟨a, r, H0, .same x y, dx, putF "other" (kV y) (putF "one" (kV x) []), [x, y], [x, y], rfl, by rw [upd_ne nra, upd_same]; rfl, k1.same s0 h0, h0, ⟨by rw [put_ne (by decide), put_has], put_has⟩, by simp [depth], SqL.of upd_same, by simp, by simp [cells], by simp, by simp [cells], len2, no_meth2 nm3 nm2, fun H' fs' kb e1 e2 e3 e4 => ?_⟩
  have kb' := k1.trans kb
  exact q H' kb' (made_isC (kb'.same s0 h0) e1 e2 e3 e4)
theorem scPI : FnScope ["self", "part"] ["self", "part"] (defScope sPInit) := ⟨rfl, rfl, rfl, by decide +kernel, rfl, by decide +kernel, by decide +kernel⟩
theorem ok_pinit {n : Nat} (F : Fun K "__init__" "Opposite.__init__" sPInit f fd) (Z : Tc K mg T CC) (B : CBase P w K mg base T CC n) (C4 : Cal P w K mg base "cells_within" 1 ["parts"] (spCellsW T K)) : FnOk P w K mg base CX0 (2 * n + 4) f fd ["self", "part"] (spPI T n) := by
  obtain ⟨g1, d1, mc, cf, G1, b1, m1⟩ := B
  obtain ⟨g2, d2, G2, b2, k2, m2⟩ := C4
  refine F.ok scPI (fun vs H Q E h => ?_) (fun cdv A outer s H vs Q E hr h => ?_)
  · obtain ⟨a, dx, v, c, H0, rfl, _⟩ := h
    rfl
  obtain ⟨a, dx, v, c, H0, rfl, ha, s0, h0, hC, hd, hp, q⟩ := h
  have hr1 : Room 1 _ := hr.mono (by omega)
  refine ⟨_, pss_cons (ps_fld (pv 0) (pv 1) rfl) (pss_one (ps_expr (pe_clsFn cf G1 hr rfl m1 b1 pass0 (pa_cons (pv 0) (pa_cons (pe_call G2 hr1 rfl m2 k2 b2 .nil pass0 (pa_cons (pe_lst (pa_cons (pv 1) pa_nil)) pa_nil)) (pa_cons (pe_fld (pv 1) rfl) pa_nil)))))), ?_⟩
  refine ⟨_, rfl, _, rfl, a, T.p, dx, [], rfl, ha, Z.z.cl (.opp c), Z.z.npp, by decide, ?_⟩
  refine ⟨_, rfl, _, rfl, small (by simp), fun r hr' => ?_⟩
  have nra : a ≠ r := fun e => by rw [← e, upd_same] at hr'; cases hr'
  have k1 : KeepB a H (upd (upd H a (.ins T.p dx (putF "part" v []))) r (.lst [v])) := KeepB.upd.trans (KeepB.of (same_new hr' _))
  have s1 := k1.same s0 h0
  have ha1 : (upd (upd H a (.ins T.p dx (putF "part" v []))) r (.lst [v])) a = some (.ins T.p dx (putF "part" v [])) := by rw [upd_ne nra, upd_same]
  have hL1 : IsL T (upd (upd H a (.ins T.p dx (putF "part" v []))) r (.lst [v])) [c] [v] := by
    simp only [CD.IsL]
    exact ⟨v, [], rfl, hC.kp (.of s1), rfl⟩
  have hC1 : cellsL [c] = cells c := by simp [cellsL]
  refine ⟨r, [v], [c], rfl, .inr (SqL.of upd_same), hL1, by rw [hC1]; exact hp, fun r2 H2 ks s2 _ h2 kl km => ?_⟩
  have k2' := k1.trans (KeepB.of s2)
  have s3 := k2'.same s0 h0
  have hC2 := hC.kp (.of s3)
  obtain ⟨av, dv, fv, rfl, hv, _, hB, _⟩ := isC_iff.mp hC2
  refine ⟨_, rfl, av, T.of c, dv, fv, _, rfl, hv, Z.z.cl c, Z.z.na c, hB.at_, ?_⟩
  obtain ⟨pool, p1, p2, p3⟩ := hp
  refine ⟨a, r2, H0, .opp c, dx, putF "part" (.ref av) [], ks, pool, by simp [atoms], s2 _ _ ha1, s3, h0, ⟨_, put_has, hC⟩, by simp only [depth]; omega, SqL.of h2, kl, (by rw [hC1] at km; simpa [cells] using km), p1, (by simpa only [cells] using p3), len1, no_meth1 nm5, fun H' fs' kb e1 e2 e3 e4 => ?_⟩
  have kb' := k2'.trans kb
  exact q H' kb' (made_isC (kb'.same s0 h0) e1 e2 e3 e4)
theorem scAI : FnScope ["self", "parts"] ["self", "parts"] (defScope sAInit) := ⟨rfl, rfl, rfl, by decide +kernel, rfl, by decide +kernel, by decide +kernel⟩
theorem ok_ainit {n : Nat} (F : Fun K "__init__" "AllOf.__init__" sAInit f fd) (Z : Tc K mg T CC) (B : CBase P w K mg base T CC n) (C4 : Cal P w K mg base "cells_within" 1 ["parts"] (spCellsW T K)) : FnOk P w K mg base CX0 (2 * n + 4) f fd ["self", "parts"] (spLI T K n T.a .all) := by
  obtain ⟨g1, d1, mc, cf, G1, b1, m1⟩ := B
  obtain ⟨g2, d2, G2, b2, k2, m2⟩ := C4
  refine F.ok scAI (fun vs H Q E h => ?_) (fun cdv A outer s H vs Q E hr h => ?_)
  · obtain ⟨a, dx, r, xs, l, H0, rfl, _⟩ := h
    rfl
  obtain ⟨a, dx, r, xs, l, H0, rfl, ha, s0, h0, hS, hL, hll, hd, hp, q⟩ := h
  have hr1 : Room 1 _ := hr.mono (by omega)
  refine ⟨_, pss_cons (ps_fld (pv 0) (pe_callTy call_tuple_of rfl Z.x.tuple PyProof.Rows.boot_tuple (pa_cons (pv 1) pa_nil)) rfl)
    (pss_one (ps_expr (pe_clsFn cf G1 hr rfl m1 b1 pass0 (pa_cons (pv 0) (pa_cons (pe_call G2 hr1 rfl m2 k2 b2 .nil pass0 (pa_cons (pe_fld (pv 0) rfl) pa_nil)) (pa_cons
      (pe_callB (call_sum_ints rfl) rfl Z.x.sum PyProof.Rows.boot_sum (pa_cons (pe_lcG (caps := []) ["part"] rfl (pi_tup (pe_fld (pv 0) rfl)) ⟨rfl, by decide +kernel, by decide +kernel, rfl, .nil, rfl, rfl, rfl⟩
        (fun s H ex => pg_name (X := cxLG _ _ _ _ s H ex) (i := 0) (nd1 _) rfl (Or.inl rfl) (.inr rfl)) (fun s H ex => pif_nil)
        (fun s H ex => pe_fldK (K := K) rfl (pe_var (X := cxLG _ _ _ _ s H ex) (i := 0) rfl (Or.inl rfl)) rfl)) pa_nil)) pa_nil)))))), ?_⟩
  refine ⟨_, rfl, r, xs, rfl, .inl ⟨hS, fun tp htp => ?_⟩⟩
  have nta : tp ≠ a := fun e => by rw [e, ha] at htp; cases htp
  have wt := same_new htp (.tup xs)
  refine ⟨_, rfl, a, T.a, dx, [], rfl, wt _ _ ha, Z.z.cl (.all l), Z.z.npa, by decide, ?_⟩
  have k1 : KeepB a H (upd (upd H tp (.tup xs)) a (.ins T.a dx (putF "parts" (.ref tp) []))) := (KeepB.of wt).trans KeepB.upd
  have ht1 : (upd (upd H tp (.tup xs)) a (.ins T.a dx (putF "parts" (.ref tp) []))) tp = some (.tup xs) := by rw [upd_ne nta, upd_same]
  have ha1 := upd_same (H := upd H tp (.tup xs)) (a := a) (o := .ins T.a dx (putF "parts" (.ref tp) []))
  generalize upd (upd H tp (.tup xs)) a (.ins T.a dx (putF "parts" (.ref tp) [])) = H1 at k1 ht1 ha1
  have s1 := k1.same s0 h0
  have pf : (putF "parts" (.ref tp) []).lookup ("parts" : Str) = some (.ref tp) := put_has
  refine ⟨_, rfl, _, rfl, a, T.a, dx, _, _, rfl, ha1, Z.z.cl (.all l), Z.z.npa, pf, tp, xs, l, rfl, .inl (SqT.of ht1), hL.kp (.of s1), hp, fun r2 H2 ks s2 _ h2 kl km => ?_⟩
  refine ⟨_, rfl, a, T.a, dx, _, _, rfl, s2 _ _ ha1, Z.z.cl (.all l), Z.z.npa, pf, tp, rfl, ⟨_, SqT.of (s2 _ _ ht1)⟩, fun D hD => ?_⟩
  have hL2 := hL.kp (.of (s1.trans s2))
  refine lcg_tupR (K := K) (a := tp) (xs := xs) (fun i σ H3 => ∃ u, σ = [u] ∧ Same H2 H3 ∧ H3 D = some (.lst ((l.take i).map fun c => V.int (atoms c))))
    ⟨none, rfl, same_new hD _, upd_same⟩ (fun i σ H3 _ ⟨_, _, s3, _⟩ => SqT.of (s3 _ _ (s2 _ _ ht1))) ?_ ?_
  · rintro i x σ H3 hi ⟨u, rfl, s3, h3⟩
    obtain ⟨c, hci, hC⟩ := isL_get hL2 hi
    obtain ⟨av, dv, fv, rfl, hv, _, hB, _⟩ := isC_iff.mp hC
    refine ⟨_, rfl, av, T.of c, dv, fv, _, rfl, s3 _ _ hv, Z.z.cl c, Z.z.na c, hB.at_, _, h3, ?_, _, rfl, same_upd s3 hD _, ?_⟩
    · rw [List.length_map]
      have : (l.take i).length ≤ l.length := by rw [List.length_take]; omega
      exact Nat.lt_of_le_of_lt (by omega : _ ≤ 4000) (by decide)
    · rw [upd_same, take_snoc hci, List.map_append]; rfl
  · rintro σ H3 ⟨u, rfl, s3, h3⟩
    rw [← isL_len hL, List.take_length] at h3
    have k3 := k1.trans ((KeepB.of s2).trans (KeepB.of s3))
    have e : (l.map fun c => V.int (atoms c)) = (l.map atoms).map V.int := by rw [List.map_map]; rfl
    refine ⟨D, l.map atoms, rfl, SqL.of (by rw [← e]; exact h3), ?_⟩
    rw [← atomsL_sum]
    obtain ⟨pool, p1, p2, p3⟩ := hp
    have h0t : (upd H0 tp (.tup xs)) a = none := by rw [upd_ne (Ne.symm nta)]; exact h0
    have s0t : Same (upd H0 tp (.tup xs)) H3 := by
      intro b o hb
      by_cases e : b = tp
      · subst e
        rw [upd_same] at hb
        cases hb
        exact s3 _ _ (s2 _ _ ht1)
      · rw [upd_ne e] at hb
        exact (k3.same s0 h0) _ _ hb
    have h0tp : H0 tp = none := by
      cases e : H0 tp with
      | none => rfl
      | some o => rw [s0 _ _ e] at htp; cases htp
    refine ⟨a, r2, upd H0 tp (.tup xs), .all l, dx, putF "parts" (.ref tp) [], ks, pool, by simp [atoms], s3 _ _ (s2 _ _ ha1), s0t, h0t, ⟨tp, xs, pf, upd_same, hL.kp (.of (same_new h0tp _))⟩, by simp only [depth]; omega, SqL.of (s3 _ _ h2), kl, (by simpa only [cells] using km), p1, (by simpa only [cells] using p3), len1, no_meth1 nm4, fun H' fs' kb e1 e2 e3 e4 => ?_⟩
    exact q H' (k3.trans kb) (made_isC (kb.same s0t h0t) e1 e2 e3 e4)
theorem scOI : FnScope ["self", "parts"] ["self", "parts"] (defScope sOInit) := ⟨rfl, rfl, rfl, by decide +kernel, rfl, by decide +kernel, by decide +kernel⟩
theorem ok_oinit {n : Nat} (F : Fun K "__init__" "OneOf.__init__" sOInit f fd) (Z : Tc K mg T CC) (B : CBase P w K mg base T CC n) (C4 : Cal P w K mg base "cells_within" 1 ["parts"] (spCellsW T K)) : FnOk P w K mg base CX0 (2 * n + 4) f fd ["self", "parts"] (spLI T K n T.o .one) := by
  obtain ⟨g1, d1, mc, cf, G1, b1, m1⟩ := B
  obtain ⟨g2, d2, G2, b2, k2, m2⟩ := C4
  refine F.ok scOI (fun vs H Q E h => ?_) (fun cdv A outer s H vs Q E hr h => ?_)
  · obtain ⟨a, dx, r, xs, l, H0, rfl, _⟩ := h
    rfl
  obtain ⟨a, dx, r, xs, l, H0, rfl, ha, s0, h0, hS, hL, hll, hd, hp, q⟩ := h
  have hr1 : Room 1 _ := hr.mono (by omega)
  refine ⟨_, pss_cons (ps_fld (pv 0) (pe_callTy call_tuple_of rfl Z.x.tuple PyProof.Rows.boot_tuple (pa_cons (pv 1) pa_nil)) rfl)
    (pss_one (ps_expr (pe_clsFn cf G1 hr rfl m1 b1 pass0 (pa_cons (pv 0) (pa_cons (pe_call G2 hr1 rfl m2 k2 b2 .nil pass0 (pa_cons (pe_fld (pv 0) rfl) pa_nil)) (pa_cons
      (pe_callB (call_sum_ints rfl) rfl Z.x.sum PyProof.Rows.boot_sum (pa_cons (pe_lcG (caps := []) ["part"] rfl (pi_tup (pe_fld (pv 0) rfl)) ⟨rfl, by decide +kernel, by decide +kernel, rfl, .nil, rfl, rfl, rfl⟩
        (fun s H ex => pg_name (X := cxLG _ _ _ _ s H ex) (i := 0) (nd1 _) rfl (Or.inl rfl) (.inr rfl)) (fun s H ex => pif_nil)
        (fun s H ex => pe_fldK (K := K) rfl (pe_var (X := cxLG _ _ _ _ s H ex) (i := 0) rfl (Or.inl rfl)) rfl)) pa_nil)) pa_nil)))))), ?_⟩
  refine ⟨_, rfl, r, xs, rfl, .inl ⟨hS, fun tp htp => ?_⟩⟩
  have nta : tp ≠ a := fun e => by rw [e, ha] at htp; cases htp
  have wt := same_new htp (.tup xs)
  refine ⟨_, rfl, a, T.o, dx, [], rfl, wt _ _ ha, Z.z.cl (.one l), Z.z.npo, by decide, ?_⟩
  have k1 : KeepB a H (upd (upd H tp (.tup xs)) a (.ins T.o dx (putF "parts" (.ref tp) []))) := (KeepB.of wt).trans KeepB.upd
  have ht1 : (upd (upd H tp (.tup xs)) a (.ins T.o dx (putF "parts" (.ref tp) []))) tp = some (.tup xs) := by rw [upd_ne nta, upd_same]
  have ha1 := upd_same (H := upd H tp (.tup xs)) (a := a) (o := .ins T.o dx (putF "parts" (.ref tp) []))
  generalize upd (upd H tp (.tup xs)) a (.ins T.o dx (putF "parts" (.ref tp) [])) = H1 at k1 ht1 ha1
  have s1 := k1.same s0 h0
  have pf : (putF "parts" (.ref tp) []).lookup ("parts" : Str) = some (.ref tp) := put_has
  refine ⟨_, rfl, _, rfl, a, T.o, dx, _, _, rfl, ha1, Z.z.cl (.one l), Z.z.npo, pf, tp, xs, l, rfl, .inl (SqT.of ht1), hL.kp (.of s1), hp, fun r2 H2 ks s2 _ h2 kl km => ?_⟩
  refine ⟨_, rfl, a, T.o, dx, _, _, rfl, s2 _ _ ha1, Z.z.cl (.one l), Z.z.npo, pf, tp, rfl, ⟨_, SqT.of (s2 _ _ ht1)⟩, fun D hD => ?_⟩
  have hL2 := hL.kp (.of (s1.trans s2))
  refine lcg_tupR (K := K) (a := tp) (xs := xs) (fun i σ H3 => ∃ u, σ = [u] ∧ Same H2 H3 ∧ H3 D = some (.lst ((l.take i).map fun c => V.int (atoms c))))
    ⟨none, rfl, same_new hD _, upd_same⟩ (fun i σ H3 _ ⟨_, _, s3, _⟩ => SqT.of (s3 _ _ (s2 _ _ ht1))) ?_ ?_
  · rintro i x σ H3 hi ⟨u, rfl, s3, h3⟩
    obtain ⟨c, hci, hC⟩ := isL_get hL2 hi
    obtain ⟨av, dv, fv, rfl, hv, _, hB, _⟩ := isC_iff.mp hC
    refine ⟨_, rfl, av, T.of c, dv, fv, _, rfl, s3 _ _ hv, Z.z.cl c, Z.z.na c, hB.at_, _, h3, ?_, _, rfl, same_upd s3 hD _, ?_⟩
    · rw [List.length_map]
      have : (l.take i).length ≤ l.length := by rw [List.length_take]; omega
      exact Nat.lt_of_le_of_lt (by omega : _ ≤ 4000) (by decide)
    · rw [upd_same, take_snoc hci, List.map_append]; rfl
  · rintro σ H3 ⟨u, rfl, s3, h3⟩
    rw [← isL_len hL, List.take_length] at h3
    have k3 := k1.trans ((KeepB.of s2).trans (KeepB.of s3))
    have e : (l.map fun c => V.int (atoms c)) = (l.map atoms).map V.int := by rw [List.map_map]; rfl
    refine ⟨D, l.map atoms, rfl, SqL.of (by rw [← e]; exact h3), ?_⟩
    rw [← atomsL_sum]
    obtain ⟨pool, p1, p2, p3⟩ := hp
    have h0t : (upd H0 tp (.tup xs)) a = none := by rw [upd_ne (Ne.symm nta)]; exact h0
    have s0t : Same (upd H0 tp (.tup xs)) H3 := by
      intro b o hb
      by_cases e : b = tp
      · subst e
        rw [upd_same] at hb
        cases hb
        exact s3 _ _ (s2 _ _ ht1)
      · rw [upd_ne e] at hb
        exact (k3.same s0 h0) _ _ hb
    have h0tp : H0 tp = none := by
      cases e : H0 tp with
      | none => rfl
      | some o => rw [s0 _ _ e] at htp; cases htp
    refine ⟨a, r2, upd H0 tp (.tup xs), .one l, dx, putF "parts" (.ref tp) [], ks, pool, by simp [atoms], s3 _ _ (s2 _ _ ha1), s0t, h0t, ⟨tp, xs, pf, upd_same, hL.kp (.of (same_new h0tp _))⟩, by simp only [depth]; omega, SqL.of (s3 _ _ h2), kl, (by simpa only [cells] using km), p1, (by simpa only [cells] using p3), len1, no_meth1 nm4, fun H' fs' kb e1 e2 e3 e4 => ?_⟩
    exact q H' (k3.trans kb) (made_isC (kb.same s0t h0t) e1 e2 e3 e4)
end
end K31
set_option maxHeartbeats 4000000
namespace L2
open PySem PySem.Spec PyProof.Rows
section
variable {X : Cx}
theorem pg_tupK {K : PySem.W.Frag} {es : List Expr} {k : Nat} {t : TGs} {n : Nat} {pos : Pos} (hK : X.K = K) (hc : X.calm = true) (h : PGs X es t) (hn : (assignEach es X.env).length = n := by rfl) (hst : (assignEach es X.env).findIdx? (·.1) = none := by rfl) : PG X (.Tuple es k pos) (gTup K n t) := by
  subst hK; exact pg_tup hc h hn hst
def rTupOf (K : PySem.W.Frag) : List V → Hp → VK → Prop := fun xs H Q => ∃ p ys, xs = [.ref p] ∧ ((SqL K H p ys ∧ ∀ l, H l = none → Q (.ref l) (upd H l (.tup ys))) ∨ (SqT K H p ys ∧ Q (.ref p) H))
theorem call_tuple_ofK {K : PySem.W.Frag} (hK : X.K = K) : CallR X (.type "tuple") (rTupOf K) := by
  subst hK; exact call_tuple_of
end
end L2
namespace K31
open PySem L2 CD
/-! ### columns and rows looked at -/
def spCheckC : Sp := fun vs H Q _ => ∃ (tc : Addr) (cs : List Str), vs = [.ref tc] ∧ H tc = some (.tup (cs.map V.str)) ∧ cs.Nodup ∧ cs.length ≤ 100 ∧ ∀ H', Same H H' → Q .non H'
/-- rows of one width -/
def Wide (H : Hp) (n : Nat) (x : V) : Prop := ∃ (a rt : Addr) (cv : V) (ys : List V), x = .ref a ∧ H a = some (.tup [.ref rt, cv]) ∧ H rt = some (.tup ys) ∧ ys.length = n
def spCheckR : Sp := fun vs H Q _ => ∃ (tr : Addr) (xs : List V) (n : Nat), vs = [.ref tr, .int n] ∧ H tr = some (.tup xs) ∧ (∀ x ∈ xs, Wide H n x) ∧ ∀ H', Same H H' → Q .non H'
theorem count_le {x : Str} : ∀ {cs : List Str}, cs.Nodup → ((cs.map V.str).countP fun z => eqV z (.str x)) ≤ 1
  | [], _ => Nat.zero_le _
  | a :: r, h => by
    obtain ⟨h1, h2⟩ := List.nodup_cons.mp h
    rw [List.map_cons, List.countP_cons]
    by_cases e : a = x
    · subst e
      have z : ((r.map V.str).countP fun z => eqV z (.str a)) = 0 := by
        rw [List.countP_eq_zero]
        intro v hv
        obtain ⟨y, hy, rfl⟩ := List.mem_map.mp hv
        intro c
        have : (y == a) = true := c
        exact h1 (beq_iff_eq.mp this ▸ hy)
      rw [z]
      split <;> omega
    · have n : ¬ eqV (.str a) (.str x) = true := fun c => e (beq_iff_eq.mp (show (a == x) = true from c))
      rw [if_neg n]
      exact count_le h2
theorem str_flat (cs : List Str) : (cs.map V.str).all flatV = true := by
  rw [List.all_eq_true]
  intro x hx
  obtain ⟨o, _, rfl⟩ := List.mem_map.mp hx
  rfl
theorem iteFd {b : Bool} {A B : Prop} (h : b = false) (hB : B) : if b = true then A else B := by rw [h]; exact iteF hB
theorem iteTd {b : Bool} {A B : Prop} (h : b = true) (hA : A) : if b = true then A else B := by rw [h]; exact iteT hA
theorem ndC2 : (["name", "columns"] : List Str).Nodup := by decide +kernel
section
variable {P : Program} {w : World} {K : PySem.W.Frag} {mg : Str → Option Value} {base : Heap} {f : Addr} {fd : FuncData}
theorem scCC : FnScope ["columns", "repeated"] ["columns"] (defScope sCheckC) := ⟨rfl, rfl, rfl, by decide +kernel, rfl, by decide +kernel, by decide +kernel⟩
theorem ok_checkc (Fn : Fun K "check_columns" "check_columns" sCheckC f fd) : FnOk P w K mg base CX0 1 f fd ["columns"] spCheckC := by
  refine Fn.ok scCC (fun vs H Q E h => ?_) (fun cdv A outer s H vs Q E hr h => ?_)
  · obtain ⟨tc, cs, rfl, _⟩ := h
    rfl
  obtain ⟨tc, cs, rfl, hc, nd, hl, q⟩ := h
  refine ⟨_, pss_cons (ps_setLC (i := 1) ["name"] (caps := [("columns", 0)]) rfl scCC.nd rfl rfl (pi_tup (pv 0)) ⟨rfl, by decide +kernel, by decide +kernel, rfl, .cons rfl (.inl rfl) rfl .nil, rfl, rfl, rfl⟩
      (fun s H ex => pg_name (X := cxLG _ _ _ _ s H ex) (i := 0) ndC2 rfl (Or.inl rfl) (.inr rfl))
      (fun s H ex => pif_one (pt_cmpR op_gt (pe_bmT (X := cxLG _ _ _ _ s H ex) PySem.F.slot_tuple_count PySem.F.type_tuple_count mt_countT (pe_var (X := cxLG _ _ _ _ s H ex) (i := 1) rfl (Or.inr (Or.inl rfl))) (pa_cons (pe_var (X := cxLG _ _ _ _ s H ex) (i := 0) rfl (Or.inl rfl)) pa_nil)) pe_int (nomark _)))
      (fun s H ex => pe_var (X := cxLG _ _ _ _ s H ex) (i := 0) rfl (Or.inl rfl)) rfl)
    (pss_one (ps_if (pt_truth (pv 1) (fun _ => rfl)) pss_never pss_nil)), ?_⟩
  refine ⟨_, rfl, tc, rfl, ⟨_, SqT.of hc⟩, fun D hD => ?_⟩
  refine lcg_tupR (K := K) (a := tc) (xs := cs.map V.str) (fun i σ H2 => ∃ (u : Option V), σ = [u, some (.ref tc)] ∧ Same H H2 ∧ H2 D = some (.lst []))
    ⟨none, rfl, same_new hD _, upd_same⟩ (fun i σ H2 _ ⟨_, _, z, _⟩ => SqT.of (z _ _ hc)) ?_ ?_
  · rintro i v σ H2 hi ⟨u, rfl, s2, h2⟩
    obtain ⟨x, hxi, hxm, rfl⟩ := of_str hi
    refine ⟨_, rfl, ⟨tc, _, rfl, s2 _ _ hc⟩, _, rfl, tc, _, _, rfl, rfl, s2 _ _ hc, rfl, str_flat cs, _, _, rfl, rfl, _, rfl, ?_⟩
    have := count_le (x := x) nd
    refine iteFd ?_ ⟨_, rfl, s2, h2⟩
    rw [decide_eq_false_iff_not]
    omega
  · rintro σ H2 ⟨u, rfl, s2, h2⟩
    exact ⟨_, rfl, _, .inl ⟨[], SqL.of h2, rfl⟩, iteF (q H2 s2)⟩
theorem scCR : FnScope ["rows", "width", "number", "row"] ["rows", "width"] (defScope sCheckR) := ⟨rfl, rfl, rfl, by decide +kernel, rfl, by decide +kernel, by decide +kernel⟩
theorem ok_checkr (Fn : Fun K "check_rows" "check_rows" sCheckR f fd) (X : Txt mg) : FnOk P w K mg base CX0 1 f fd ["rows", "width"] spCheckR := by
  refine Fn.ok scCR (fun vs H Q E h => ?_) (fun cdv A outer s H vs Q E hr h => ?_)
  · obtain ⟨tr, xs, n, rfl, _⟩ := h
    rfl
  obtain ⟨tr, xs, n, rfl, ht, hw, q⟩ := h
  refine ⟨_, pss_one (ps_for PassesOwn.never rfl (pi_enumT rfl X.range2 (pa_cons (pv 0) pa_nil)) (pg_tup rfl (pgs_cons (pg_name (i := 2) scCR.nd rfl (Or.inl rfl)) (pgs_cons (pg_name (i := 3) scCR.nd rfl (Or.inl rfl)) pgs_nil)))
      (pss_one (ps_if (pt_cmpR op_ne (pe_callB call_len_seq rfl X.len PySem.boot_len (pa_cons (pe_ix ix_tup (pv 3) pe_int (fun _ _ => rfl)) pa_nil)) (pv 1) (nomark _)) pss_never pss_nil))), ?_⟩
  refine ⟨_, rfl, tr, _, rfl, SqT.of ht, for_enumT (K := K) (a := tr) (xs := xs) (fun i σ H2 => ∃ (u2 u3 : Option V), σ = [some (.ref tr), some (.int n), u2, u3] ∧ Same H H2)
    ⟨none, none, rfl, Same.refl _⟩ (fun i σ H2 _ ⟨_, _, _, z⟩ => SqT.of (z _ _ ht)) ?_ ?_⟩
  · rintro i x t0 σ H2 hi ht0 ⟨u2, u3, rfl, s2⟩
    obtain ⟨a, rt, cv, ys, rfl, ha, hrt, hl⟩ := hw x (List.mem_of_getElem? hi)
    have s3 := same_new ht0 (.tup [.int i, .ref a])
    have w3 := s2.trans s3
    refine ⟨t0, _, rfl, SqT.of upd_same, rfl, _, _, rfl, _, _, rfl, rfl, ?_⟩
    refine ⟨_, rfl, a, _, _, _, rfl, rfl, SqT.of (w3 _ _ ha), rfl, rt, _, rfl, .inr (SqT.of (w3 _ _ hrt)), _, rfl, rfl, _, rfl, ?_⟩
    refine iteFd ?_ ⟨_, _, rfl, w3⟩
    rw [dec_int, hl]
    simp
  · rintro σ H2 ⟨u2, u3, rfl, s2⟩
    exact q H2 s2
end
end K31
set_option maxHeartbeats 4000000
namespace K31
open PySem L2 CD
/-! ### tables -/
abbrev Row := List Key × Cd
def RowI (T : Cl) (H : Hp) (v : V) (r : Row) : Prop := ∃ (a rr : Addr) (cv : V), v = .ref a ∧ H a = some (.tup [.ref rr, cv]) ∧ (H rr = some (.lst (r.1.map kV)) ∨ H rr = some (.tup (r.1.map kV))) ∧ IsC T H r.2 cv
/-- a kept row: its tuples now, its condition from before -/
def RowX (T : Cl) (H0 H : Hp) (v : V) (r : Row) : Prop := ∃ (a rt : Addr) (cv : V), v = .ref a ∧ H a = some (.tup [.ref rt, cv]) ∧ H rt = some (.tup (r.1.map kV)) ∧ IsC T H0 r.2 cv
def AllC (rows : List Row) (w : Cd) (k : Key) : Prop := (∃ r ∈ rows, k ∈ r.1 ∨ k ∈ cells r.2) ∨ k ∈ cells w
def bmeths : List Str := ["columns", "rows", "whole", "gaps", "standing"]
/-- a table -/
structure IsB (T : Cl) (BC : Addr) (H : Hp) (b : Addr) (cs : List Str) (rows : List Row) (w : Cd) : Prop where
  ex : ∃ (dx tc tr tg tv : Addr) (cw : V) (fs : List (Str × V)) (xs : List V) (gs : List Str) (vs : List Int), H b = some (.ins BC dx fs) ∧ (∀ m ∈ bmeths, fs.lookup m = none) ∧
    fs.lookup ("kept_columns" : Str) = some (.ref tc) ∧ H tc = some (.tup (cs.map V.str)) ∧ fs.lookup ("kept_rows" : Str) = some (.ref tr) ∧ H tr = some (.tup xs) ∧ Paired (RowX T H H) xs rows ∧ fs.lookup ("kept_whole" : Str) = some cw ∧ IsC T H w cw ∧
    fs.lookup ("kept_gaps" : Str) = some (.ref tg) ∧ H tg = some (.tup (gs.map V.str)) ∧ gs.Nodup ∧ PyProof.Rows.sortedS gs = true ∧ (∀ x, x ∈ gs ↔ AllC rows w (Sum.inr x)) ∧
    fs.lookup ("kept_values" : Str) = some (.ref tv) ∧ H tv = some (.tup (vs.map V.int)) ∧ vs.Nodup ∧ vs.Pairwise (· ≤ ·) ∧ ∀ x, x ∈ vs ↔ AllC rows w (Sum.inl x)
/-- the class -/
structure Bz (K : PySem.W.Frag) (T : Cl) (BC : Addr) : Prop where
  cl : Cls K BC
  nc : NoAttr K BC "kept_columns"
  nr : NoAttr K BC "kept_rows"
  nw : NoAttr K BC "kept_whole"
  ng : NoAttr K BC "kept_gaps"
  nv : NoAttr K BC "kept_values"
  ne : T.t ≠ BC
/-- tuples and truths stay -/
structure KX (T : Cl) (H H' : Hp) : Prop where
  t : ∀ x xs, H x = some (.tup xs) → H' x = some (.tup xs)
  i : ∀ x dx fs, H x = some (.ins T.t dx fs) → H' x = some (.ins T.t dx fs)
theorem KX.of {T : Cl} {H H' : Hp} (s : Same H H') : KX T H H' := ⟨fun x xs h => s _ _ h, fun x dx fs h => s _ _ h⟩
theorem KX.trans {T : Cl} {H H1 H2 : Hp} (a : KX T H H1) (b : KX T H1 H2) : KX T H H2 := ⟨fun x xs h => b.t _ _ (a.t _ _ h), fun x dx fs h => b.i _ _ _ (a.i _ _ _ h)⟩
theorem KX.keepB {T : Cl} {BC : Addr} {H H' : Hp} {b dx : Addr} {fs : List (Str × V)} (k : KeepB b H H') (hb : H b = some (.ins BC dx fs)) (ne : T.t ≠ BC) : KX T H H' :=
  ⟨fun x xs h => k _ _ (fun e => by rw [e, hb] at h; cases h) h, fun x dx' fs' h => k _ _ (fun e => by rw [e, hb] at h; cases h; exact ne rfl) h⟩
theorem KX.updL {T : Cl} {H : Hp} {D : Addr} {ys zs : List V} (h : H D = some (.lst ys)) : KX T H (upd H D (.lst zs)) :=
  ⟨fun x xs hx => by rw [upd_ne (fun e => by rw [e, h] at hx; cases hx)]; exact hx, fun x dx fs hx => by rw [upd_ne (fun e => by rw [e, h] at hx; cases hx)]; exact hx⟩
theorem truth_kx {T : Cl} {H H' : Hp} {b : Bool} {v : V} (k : KX T H H') (h : IsC T H (.truth b) v) : IsC T H' (.truth b) v := by
  simp only [CD.IsC] at h ⊢
  obtain ⟨a, dx, fs, e1, e2, e3, ⟨⟨tg, gs, g1, g2, g3⟩, ⟨tv, vs, v1, v2, v3⟩, b3, b4⟩, e5⟩ := h
  exact ⟨a, dx, fs, e1, k.i _ _ _ e2, e3, ⟨⟨tg, gs, g1, k.t _ _ g2, g3⟩, ⟨tv, vs, v1, k.t _ _ v2, v3⟩, b3, b4⟩, e5⟩
/-- the whole's condition -/
def WhOk (T : Cl) (H0 H : Hp) (w : Cd) (cw : V) : Prop := IsC T H0 w cw ∨ (w = .truth true ∧ IsC T H (.truth true) cw)
theorem WhOk.kx {T : Cl} {H0 H H' : Hp} {w : Cd} {cw : V} (k : KX T H H') (h : WhOk T H0 H w cw) : WhOk T H0 H' w cw := h.imp id fun ⟨e, z⟩ => ⟨e, truth_kx k z⟩
theorem WhOk.isC {T : Cl} {H0 H : Hp} {w : Cd} {cw : V} (s : Same H0 H) (h : WhOk T H0 H w cw) : IsC T H w cw := by
  rcases h with h | ⟨rfl, h⟩
  · exact h.kp (.of s)
  · exact h
theorem rowx_kx {T : Cl} {H0 H H' : Hp} (k : KX T H H') : ∀ {xs : List V} {rows : List Row}, Paired (RowX T H0 H) xs rows → Paired (RowX T H0 H') xs rows
  | _, _, .nil => .nil
  | _, _, .cons ⟨a, rt, cv, e, h1, h2, h3⟩ r => .cons ⟨a, rt, cv, e, k.t _ _ h1, k.t _ _ h2, h3⟩ (rowx_kx k r)
theorem rowx_now {T : Cl} {H0 H : Hp} (s : Same H0 H) : ∀ {xs : List V} {rows : List Row}, Paired (RowX T H0 H) xs rows → Paired (RowX T H H) xs rows
  | _, _, .nil => .nil
  | _, _, .cons ⟨a, rt, cv, e, h1, h2, h3⟩ r => .cons ⟨a, rt, cv, e, h1, h2, h3.kp (.of s)⟩ (rowx_now s r)
theorem pget {α β : Type} {R : α → β → Prop} : ∀ {xs : List α} {ys : List β}, Paired R xs ys → ∀ {i : Nat} {x : α}, xs[i]? = some x → ∃ y, ys[i]? = some y ∧ R x y
  | _, _, .nil, i, x, e => by simp at e
  | _, _, .cons r t, 0, x, e => by simp at e; subst e; exact ⟨_, rfl, r⟩
  | _, _, .cons r t, i + 1, x, e => by
    obtain ⟨y, h1, h2⟩ := pget t (i := i) (x := x) (by simpa using e)
    exact ⟨y, by simpa using h1, h2⟩
theorem plen {α β : Type} {R : α → β → Prop} : ∀ {xs : List α} {ys : List β}, Paired R xs ys → xs.length = ys.length
  | _, _, .nil => rfl
  | _, _, .cons _ t => by rw [List.length_cons, List.length_cons, plen t]
theorem psnoc {α β : Type} {R : α → β → Prop} {a : α} {b : β} : ∀ {xs : List α} {ys : List β}, Paired R xs ys → R a b → Paired R (xs ++ [a]) (ys ++ [b])
  | _, _, .nil, r => .cons r .nil
  | _, _, .cons q t, r => .cons q (psnoc t r)
theorem cellsL_map {rows : List Row} {w : Cd} {k : Key} : k ∈ cellsL (rows.map (·.2) ++ [w]) ↔ (∃ r ∈ rows, k ∈ cells r.2) ∨ k ∈ cells w := by
  rw [cellsL_mem]
  constructor
  · rintro ⟨c, hc, hk⟩
    rcases List.mem_append.mp hc with hc | hc
    · obtain ⟨r, hr, rfl⟩ := List.mem_map.mp hc
      exact .inl ⟨r, hr, hk⟩
    · have : c = w := by simpa using hc
      exact .inr (this ▸ hk)
  · rintro (⟨r, hr, hk⟩ | hk)
    · exact ⟨r.2, List.mem_append_left _ (List.mem_map.mpr ⟨r, hr, rfl⟩), hk⟩
    · exact ⟨w, List.mem_append_right _ (by simp), hk⟩
theorem strs_setP {ks kys : List Key} {Pd : Key → Prop} {pool : List Key} (nd : ks.Nodup) (hm : ∀ k, k ∈ ks ↔ k ∈ (strsIn kys).map Sum.inr) (hk : ∀ k : Key, k ∈ kys ↔ Pd k) (hp : ∀ k, Pd k → k ∈ pool) (pl : pool.length < 64) :
    ∃ xs : List Str, ks = xs.map Sum.inr ∧ xs.Nodup ∧ xs.length < 64 ∧ ∀ x, x ∈ xs ↔ Pd (Sum.inr x) := by
  obtain ⟨xs, rfl⟩ := allStr (ks := ks) (fun k h => by obtain ⟨x, _, e⟩ := List.mem_map.mp ((hm k).mp h); exact ⟨x, e.symm⟩)
  have mem : ∀ x, x ∈ xs ↔ Pd (Sum.inr x) := fun x => by
    have h1 := hm (Sum.inr x)
    rw [List.mem_map, List.mem_map] at h1
    rw [← hk, ← mem_strsIn]
    constructor
    · intro hx
      obtain ⟨y, hy, e⟩ := h1.mp ⟨x, hx, rfl⟩
      exact (Sum.inr.inj e) ▸ hy
    · intro hx
      obtain ⟨y, hy, e⟩ := h1.mpr ⟨x, hx, rfl⟩
      exact (Sum.inr.inj e) ▸ hy
  refine ⟨xs, rfl, nodup_of_map nd, ?_, mem⟩
  have := nodup_sub (l := xs.map (Sum.inr : Str → Key)) (m := pool) nd (fun k hk => by
    obtain ⟨x, hx, rfl⟩ := List.mem_map.mp hk
    exact hp _ ((mem x).mp hx))
  rw [List.length_map] at this
  omega
theorem ints_setP {ks kys : List Key} {Pd : Key → Prop} {pool : List Key} (nd : ks.Nodup) (hm : ∀ k, k ∈ ks ↔ k ∈ (intsIn kys).map Sum.inl) (hk : ∀ k : Key, k ∈ kys ↔ Pd k) (hp : ∀ k, Pd k → k ∈ pool) (pl : pool.length < 64) :
    ∃ xs : List Int, ks = xs.map Sum.inl ∧ xs.Nodup ∧ xs.length < 64 ∧ ∀ x, x ∈ xs ↔ Pd (Sum.inl x) := by
  obtain ⟨xs, rfl⟩ := allInt (ks := ks) (fun k h => by obtain ⟨x, _, e⟩ := List.mem_map.mp ((hm k).mp h); exact ⟨x, e.symm⟩)
  have mem : ∀ x, x ∈ xs ↔ Pd (Sum.inl x) := fun x => by
    have h1 := hm (Sum.inl x)
    rw [List.mem_map, List.mem_map] at h1
    rw [← hk, ← mem_intsIn]
    constructor
    · intro hx
      obtain ⟨y, hy, e⟩ := h1.mp ⟨x, hx, rfl⟩
      exact (Sum.inl.inj e) ▸ hy
    · intro hx
      obtain ⟨y, hy, e⟩ := h1.mpr ⟨x, hx, rfl⟩
      exact (Sum.inl.inj e) ▸ hy
  refine ⟨xs, rfl, nodup_of_map nd, ?_, mem⟩
  have := nodup_sub (l := xs.map (Sum.inl : Int → Key)) (m := pool) nd (fun k hk => by
    obtain ⟨x, hx, rfl⟩ := List.mem_map.mp hk
    exact hp _ ((mem x).mp hx))
  rw [List.length_map] at this
  omega
theorem ndRC : (["row", "cond"] : List Str).Nodup := by decide +kernel
section
variable {P : Program} {w : World} {K : PySem.W.Frag} {mg : Str → Option Value} {base : Heap} {f : Addr} {fd : FuncData} {T : Cl} {CC BC : Addr}
theorem scBI : FnScope ["self", "columns", "rows", "whole", "cells", "row", "cond"] ["self", "columns", "rows", "whole"] (defScope sBInit) := ⟨rfl, rfl, rfl, by decide +kernel, rfl, by decide +kernel, by decide +kernel⟩
/-- what stands in the rows and in the whole -/
theorem bi_tail {cdv : Value} {A : Around} {outer : List Env} {s : Shared} {H0' : Hp} {E : XK} {n : Nat} (hr : Room n (A.deeper (PyProof.Rows.envOfC "Table.__init__" (defScope sBInit) s.heap.objs.size f cdv))) (hn : 1 ≤ n) (X : Txt mg) (Z : Bz K T BC)
    (C1 : Cal P w K mg base "gaps_among" 1 ["cells"] (spGapsA K)) (C2 : Cal P w K mg base "values_among" 1 ["cells"] (spValsA K)) (C3 : Cal P w K mg base "cells_within" 1 ["parts"] (spCellsW T K)) :
    ∃ t, PSs (cxOf CX0 P w K mg base ["self", "columns", "rows", "whole", "cells", "row", "cond"] "Table.__init__" (defScope sBInit) f cdv A outer s H0' E).nox ((defBody sBInit).drop 5) t ∧
      ∀ (Q : VK) (H0 H : Hp) (b dx tr : Addr) (v1 v2 v3 : Option V) (fs : List (Str × V)) (xs : List V) (rows : List Row) (cw : V) (wc : Cd) (pool : List Key), H b = some (.ins BC dx fs) → fs.length ≤ 10 → fs.lookup ("kept_rows" : Str) = some (.ref tr) → H tr = some (.tup xs) → Paired (RowX T H0 H) xs rows → fs.lookup ("kept_whole" : Str) = some cw → WhOk T H0 H wc cw → Same H0 H → H0 b = none →
        rows.length ≤ 20 → (∀ r ∈ rows, r.1.length ≤ 10) → pool.length ≤ 40 → (∀ k, AllC rows wc k → k ∈ pool) →
        (∀ (H' : Hp) (tg tv : Addr) (gs : List Str) (vs : List Int), KeepB b H H' → H' b = some (.ins BC dx (putF "kept_values" (.ref tv) (putF "kept_gaps" (.ref tg) fs))) → H' tg = some (.tup (gs.map V.str)) → gs.Nodup → PyProof.Rows.sortedS gs = true → (∀ x, x ∈ gs ↔ AllC rows wc (Sum.inr x)) → H' tv = some (.tup (vs.map V.int)) → vs.Nodup → vs.Pairwise (· ≤ ·) → (∀ x, x ∈ vs ↔ AllC rows wc (Sum.inl x)) → Q .non H') →
        t { nx := fun _ H' => Q .non H', rt := Q } [some (.ref b), v1, v2, v3, none, none, none] H := by
  obtain ⟨g1, d1, G1, b1, k1, m1⟩ := C1
  obtain ⟨g2, d2, G2, b2, k2, m2⟩ := C2
  obtain ⟨g3, d3, G3, b3, k3, m3⟩ := C3
  have hr1 : Room 1 _ := hr.mono hn
  refine ⟨_, pss_cons (ps_set (i := 4) scBI.nd rfl (Or.inl rfl) (pe_call G3 hr1 rfl m3 k3 b3 .nil pass0 (pa_cons (pe_op op_cat
        (pe_lcG (caps := []) ["row", "cond"] rfl (pi_tup (pe_fld (pv 0) rfl)) ⟨rfl, by decide +kernel, by decide +kernel, rfl, .nil, rfl, rfl, rfl⟩
          (fun s H ex => pg_tupK (K := K) (n := 2) rfl rfl (pgs_cons (pg_name (X := cxLG _ _ _ _ s H ex) (i := 0) ndRC rfl (Or.inl rfl) (.inr rfl)) (pgs_cons (pg_name (X := cxLG _ _ _ _ s H ex) (i := 1) ndRC rfl (Or.inl rfl) (.inr rfl)) pgs_nil))) (fun s H ex => pif_nil)
          (fun s H ex => pe_var (X := cxLG _ _ _ _ s H ex) (i := 1) rfl (Or.inl rfl)))
        (pe_lst (pa_cons (pe_fld (pv 0) rfl) pa_nil))) pa_nil)))
    (pss_cons (ps_for PassesOwn.never rfl (pi_tup (pe_fld (pv 0) rfl)) (pg_tup rfl (pgs_cons (pg_name (i := 5) scBI.nd rfl (Or.inl rfl)) (pgs_cons (pg_name (i := 6) scBI.nd rfl (Or.inl rfl)) pgs_nil)))
      (pss_one (ps_expr (pe_bm PySem.F.plainAttrs_list PySem.F.slot_list_extend PySem.F.type_list_extend mt_extendT (pv 4) (pa_cons (pv 5) pa_nil)))))
    (pss_cons (ps_fld (pv 0) (pe_callTy call_tuple_of rfl X.tuple PyProof.Rows.boot_tuple (pa_cons (pe_callB (call_sorted_setS rfl) rfl X.sorted PyProof.Rows.boot_sorted (pa_cons (pe_callTy (call_set_of rfl) rfl X.set PyProof.Rows.boot_set (pa_cons (pe_call G1 hr1 rfl m1 k1 b1 .nil pass0 (pa_cons (pv 4) pa_nil)) pa_nil)) pa_nil)) pa_nil)) rfl)
    (pss_one (ps_fld (pv 0) (pe_callTy call_tuple_of rfl X.tuple PyProof.Rows.boot_tuple (pa_cons (pe_callB (call_sorted_setI rfl) rfl X.sorted PyProof.Rows.boot_sorted (pa_cons (pe_callTy (call_set_of rfl) rfl X.set PyProof.Rows.boot_set (pa_cons (pe_call G2 hr1 rfl m2 k2 b2 .nil pass0 (pa_cons (pv 4) pa_nil)) pa_nil)) pa_nil)) pa_nil)) rfl)))), ?_⟩
  intro Q H0 H b dx tr v1 v2 v3 fs xs rows cw wc pool hb hfl lr htr hP lw hW s0 h0b rl rw10 pl40 hpool q
  have len := plen hP
  -- the conditions
  refine ⟨_, rfl, b, BC, dx, fs, _, rfl, hb, Z.cl, Z.nr, lr, tr, rfl, ⟨_, SqT.of htr⟩, fun D hD => ?_⟩
  refine lcg_tupR (K := K) (a := tr) (xs := xs) (fun i σ H2 => ∃ (u1 u2 : Option V) (vs : List V), σ = [u1, u2] ∧ Same H H2 ∧ H2 D = some (.lst vs) ∧ IsL T H0 ((rows.take i).map (·.2)) vs)
    ⟨none, none, [], rfl, same_new hD _, upd_same, by simp only [List.take_zero, List.map_nil, CD.IsL]⟩ (fun i σ H2 _ ⟨_, _, _, _, z, _⟩ => SqT.of (z _ _ htr)) ?_ ?_
  · rintro i x σ H2 hi ⟨u1, u2, vs, rfl, s2, h2, hL⟩
    obtain ⟨r, hri, a, rt, cv, rfl, ha, hrt, hC⟩ := pget hP hi
    have hil := (List.getElem?_eq_some_iff.mp hri).1
    have hll := isL_len hL
    rw [List.length_map, List.length_take] at hll
    refine ⟨a, _, rfl, SqT.of (s2 _ _ ha), rfl, _, _, rfl, _, _, rfl, rfl, _, rfl, vs, h2, small1000 (by omega), _, _, vs ++ [cv], rfl, same_upd s2 hD _, upd_same, ?_⟩
    rw [take_snoc hri, List.map_append]
    exact isL_snoc hL hC
  rintro σ H2 ⟨u1, u2, vs, rfl, s2, h2, hL⟩
  rw [len, List.take_length] at hL
  have hll := isL_len hL
  rw [List.length_map] at hll
  have hb2 := s2 _ _ hb
  refine ⟨_, rfl, b, BC, dx, fs, _, rfl, hb2, Z.cl, Z.nw, lw, small (by simp), fun L1 hL1 => ?_⟩
  have s3 := same_new hL1 (.lst [cw])
  have h3 := upd_same (H := H2) (a := L1) (o := .lst [cw])
  have h3D := s3 _ _ h2
  generalize upd H2 L1 (.lst [cw]) = H3 at s3 h3 h3D ⊢
  refine ⟨D, L1, vs, [cw], rfl, rfl, h3D, h3, small (by rw [List.length_singleton]; omega), fun L2 hL2 => ?_⟩
  have s4 := same_new hL2 (.lst (vs ++ [cw]))
  have h4 := upd_same (H := H3) (a := L2) (o := .lst (vs ++ [cw]))
  generalize upd H3 L2 (.lst (vs ++ [cw])) = H4 at s4 h4 ⊢
  have w4 : Same H H4 := s2.trans (s3.trans s4)
  have hL4 : IsL T H4 (rows.map (·.2) ++ [wc]) (vs ++ [cw]) := isL_snoc (hL.kp (.of (s0.trans w4))) ((hW.kx (KX.of w4)).isC (s0.trans w4))
  have hcp : ∀ k ∈ cellsL (rows.map (·.2) ++ [wc]), k ∈ pool := fun k hk => hpool k (by
    rcases cellsL_map.mp hk with ⟨r, hr', hk'⟩ | hk'
    · exact .inl ⟨r, hr', .inr hk'⟩
    · exact .inr hk')
  refine ⟨L2, vs ++ [cw], rows.map (·.2) ++ [wc], rfl, .inr (SqL.of h4), hL4, ⟨pool, by omega, ?_, hcp⟩, fun r H5 ks s5 hr4 h5 ksl hks => ?_⟩
  · rw [List.length_append, List.length_map, List.length_singleton]
    exact Nat.le_trans (Nat.mul_le_mul (show rows.length + 1 ≤ 21 by omega) pl40) (by decide)
  have w5 := w4.trans s5
  have hb5 := w5 _ _ hb
  have htr5 := w5 _ _ htr
  have nrb : b ≠ r := fun e => by rw [e, h5] at hb5; cases hb5
  -- the cells of the rows
  refine ⟨_, rfl, b, BC, dx, fs, _, rfl, hb5, Z.cl, Z.nr, lr, tr, rfl, ⟨_, SqT.of htr5⟩, for_tup (K := K) (a := tr) (xs := xs) (fun i σ H6 => ∃ (u5 u6 : Option V) (ms : List Key), σ = [some (.ref b), v1, v2, v3, some (.ref r), u5, u6] ∧ (∀ x o, x ≠ r → H5 x = some o → H6 x = some o) ∧ H6 r = some (.lst (ms.map kV)) ∧ ms.length ≤ 3000 + 10 * i ∧ ∀ k, k ∈ ms ↔ k ∈ ks ∨ ∃ r' ∈ rows.take i, k ∈ r'.1)
    ⟨none, none, ks, rfl, fun x o _ h => h, h5, by omega, fun k => ⟨.inl, fun z => z.elim id fun ⟨r', hr', _⟩ => by rw [List.take_zero] at hr'; cases hr'⟩⟩ (fun i σ H6 _ ⟨_, _, _, _, z, _⟩ => SqT.of (z _ _ (fun e => by rw [e, h5] at htr5; cases htr5) htr5)) ?_ ?_⟩
  · rintro i x σ H6 hi ⟨u5, u6, ms, rfl, k6, h6, ml, mm⟩
    obtain ⟨r', hri, a, rt, cv, rfl, ha, hrt, hC⟩ := pget hP hi
    have hil := (List.getElem?_eq_some_iff.mp hri).1
    have ha5 := w5 _ _ ha
    have hrt5 := w5 _ _ hrt
    have ha6 := k6 _ _ (fun e => by rw [e, h5] at ha5; cases ha5) ha5
    have hrt6 := k6 _ _ (fun e => by rw [e, h5] at hrt5; cases hrt5) hrt5
    have r10 := rw10 r' (List.mem_of_getElem? hri)
    refine ⟨a, _, rfl, SqT.of ha6, rfl, _, _, rfl, _, _, rfl, rfl, ?_⟩
    refine ⟨_, rfl, .inl ⟨rfl, _, SqL.of h6⟩, _, rfl, r, rt, _, _, rfl, rfl, h6, SqT.of hrt6, small (by rw [List.length_map, List.length_map]; omega), ?_⟩
    refine ⟨_, _, ms ++ r'.1, rfl, fun x o nx hx => by rw [upd_ne nx]; exact k6 x o nx hx, by rw [upd_same, List.map_append], by rw [List.length_append]; omega, fun k => ?_⟩
    rw [List.mem_append, mm k, take_snoc hri, or_assoc]
    refine or_congr Iff.rfl ⟨?_, ?_⟩
    · rintro (⟨r2, h1, h2⟩ | h2)
      · exact ⟨r2, List.mem_append_left _ h1, h2⟩
      · exact ⟨r', List.mem_append_right _ (by simp), h2⟩
    · rintro ⟨r2, h1, h2⟩
      rcases List.mem_append.mp h1 with h1 | h1
      · exact .inl ⟨r2, h1, h2⟩
      · have : r2 = r' := by simpa using h1
        exact .inr (this ▸ h2)
  rintro σ H6 ⟨u5, u6, ms, rfl, k6, h6, ml, mm⟩
  rw [len] at ml
  rw [len, List.take_length] at mm
  have mall : ∀ k, k ∈ ms ↔ AllC rows wc k := fun k => by
    rw [mm k, hks k, cellsL_map]
    unfold AllC
    constructor
    · rintro ((⟨r', h1, h2⟩ | h2) | ⟨r', h1, h2⟩)
      · exact .inl ⟨r', h1, .inr h2⟩
      · exact .inr h2
      · exact .inl ⟨r', h1, .inl h2⟩
    · rintro (⟨r', h1, h2 | h2⟩ | h2)
      · exact .inr ⟨r', h1, h2⟩
      · exact .inl (.inl ⟨r', h1, h2⟩)
      · exact .inl (.inr h2)
  have s6 : Same H H6 := fun x o hx => k6 x o (fun e => by
    rw [e] at hx
    have := w4 _ _ hx
    rw [hr4] at this
    cases this) (w5 _ _ hx)
  have hb6 := s6 _ _ hb
  -- the gaps
  refine ⟨_, rfl, r, ms, rfl, SqL.of h6, by omega, fun l1 H7 s7 hl1 => ⟨l1, (strsIn ms).map Sum.inr, rfl, SqL.of (by rw [← map_kVs]; exact hl1), by rw [List.length_map]; exact Nat.le_trans (strsIn_len _) (by omega), fun l2 kz hl2 nd hm => ?_⟩⟩
  obtain ⟨gs0, rfl, gnd, gl, gm⟩ := strs_setP nd hm mall hpool (by omega)
  refine ⟨l2, gs0, rfl, upd_same, gl, fun l3 gs hl3 pg sg => ⟨l3, _, rfl, .inl ⟨SqL.of upd_same, fun tg htg => ?_⟩⟩⟩
  generalize SetO _ _ l2 (List.map Sum.inr gs0) = so at hl3 htg ⊢
  have x2 := same_new hl2 so
  have x3 := same_new hl3 (.lst (gs.map V.str))
  have x4 := same_new htg (.tup (gs.map V.str))
  have s8 := s7.trans (x2.trans (x3.trans x4))
  have hg8 := upd_same (H := upd (upd H7 l2 so) l3 (.lst (gs.map V.str))) (a := tg) (o := .tup (gs.map V.str))
  generalize upd (upd (upd H7 l2 so) l3 (.lst (gs.map V.str))) tg (.tup (gs.map V.str)) = H8 at s8 hg8 ⊢
  have hb8 := s8 _ _ hb6
  refine ⟨_, rfl, b, BC, dx, fs, rfl, hb8, Z.cl, Z.ng, by omega, ?_⟩
  have ntb : tg ≠ b := fun e => by rw [e, hb8] at hg8; cases hg8
  have kb9 : KeepB b H6 (upd H8 b (.ins BC dx (putF "kept_gaps" (.ref tg) fs))) := (KeepB.of s8).trans KeepB.upd
  have hb9 := upd_same (H := H8) (a := b) (o := .ins BC dx (putF "kept_gaps" (.ref tg) fs))
  have hg9 : (upd H8 b (.ins BC dx (putF "kept_gaps" (.ref tg) fs))) tg = some (.tup (gs.map V.str)) := by rw [upd_ne ntb]; exact hg8
  generalize upd H8 b (.ins BC dx (putF "kept_gaps" (.ref tg) fs)) = H9 at kb9 hb9 hg9 ⊢
  have h9 := kb9 _ _ (Ne.symm nrb) h6
  -- the values
  refine ⟨_, rfl, r, ms, rfl, SqL.of h9, by omega, fun j1 J1 z1 hj1 => ⟨j1, (intsIn ms).map Sum.inl, rfl, SqL.of (by rw [← map_kVi]; exact hj1), by rw [List.length_map]; exact Nat.le_trans (intsIn_len _) (by omega), fun j2 kz hj2 nd' hm' => ?_⟩⟩
  obtain ⟨vs0, rfl, vnd, vl, vm⟩ := ints_setP nd' hm' mall hpool (by omega)
  refine ⟨j2, vs0, rfl, upd_same, vl, fun j3 vs hj3 pv' sv => ⟨j3, _, rfl, .inl ⟨SqL.of upd_same, fun tv htv => ?_⟩⟩⟩
  generalize SetO _ _ j2 (List.map Sum.inl vs0) = so' at hj3 htv ⊢
  have y2 := same_new hj2 so'
  have y3 := same_new hj3 (.lst (vs.map V.int))
  have y4 := same_new htv (.tup (vs.map V.int))
  have sA := z1.trans (y2.trans (y3.trans y4))
  have hvA := upd_same (H := upd (upd J1 j2 so') j3 (.lst (vs.map V.int))) (a := tv) (o := .tup (vs.map V.int))
  generalize upd (upd (upd J1 j2 so') j3 (.lst (vs.map V.int))) tv (.tup (vs.map V.int)) = HA at sA hvA ⊢
  have hbA := sA _ _ hb9
  have lf1 := length_putF "kept_gaps" (.ref tg) fs
  refine ⟨_, rfl, b, BC, dx, _, rfl, hbA, Z.cl, Z.nv, by omega, ?_⟩
  have nvb : tv ≠ b := fun e => by rw [e, hbA] at hvA; cases hvA
  refine q _ tg tv gs vs ((KeepB.of s6).trans (kb9.trans ((KeepB.of sA).trans KeepB.upd))) upd_same (by rw [upd_ne ntb]; exact sA _ _ hg9) (pg.nodup_iff.mpr gnd) sg (fun x => pg.mem_iff.trans (gm x)) (by rw [upd_ne nvb]; exact hvA) (pv'.nodup_iff.mpr vnd) sv (fun x => pv'.mem_iff.trans (vm x))
end
end K31
set_option maxHeartbeats 4000000
namespace K31
open PySem L2 CD
theorem mk_same {H : Hp} {x dx C : Addr} (h1 : H x = none) (h2 : H dx = none) : Same H (upd (upd H dx (.own x)) x (.ins C dx [])) := same_upd (same_new h2 _) h1 _
/-- a class of the text that makes what it promises -/
def MkC (P : Program) (w : World) (K : PySem.W.Frag) (mg : Str → Option Value) (base : Heap) (x : Str) (C : Addr) (k : Nat) (ps : List Str) (sp : Sp) : Prop := ∃ f fd, Mk K C f ∧ FnOk P w K mg base CX0 k f fd ps sp ∧ Binds K fd ps [] ∧ mg x = some (.ref C)
def spBI (T : Cl) (BC : Addr) : Sp := fun vs H Q _ => ∃ (b dx ca ra : Addr) (wv : V) (cs : List Str) (xs : List V) (rows : List Row) (wc : Cd) (pool : List Key) (H0 : Hp), vs = [.ref b, .ref ca, .ref ra, wv] ∧ H b = some (.ins BC dx []) ∧ Same H0 H ∧ H0 b = none ∧ H0 ca = some (.lst (cs.map V.str)) ∧ cs.Nodup ∧ cs.length ≤ 10 ∧ H0 ra = some (.lst xs) ∧ Paired (RowI T H0) xs rows ∧ (∀ r ∈ rows, r.1.length = cs.length) ∧ rows.length ≤ 20 ∧
  ((wv = .non ∧ wc = .truth true) ∨ IsC T H0 wc wv) ∧ pool.length ≤ 40 ∧ (∀ k, AllC rows wc k → k ∈ pool) ∧ ∀ H', KeepB b H H' → IsB T BC H' b cs rows wc → Q .non H'
theorem bm_put {fs : List (Str × V)} {g : Str} {y : V} (hg : g ∉ bmeths) (h : ∀ m ∈ bmeths, fs.lookup m = none) : ∀ m ∈ bmeths, (putF g y fs).lookup m = none := by
  intro m hm
  rw [lookup_putF, if_neg (fun z : m = g => hg (z ▸ hm))]
  exact h m hm
theorem nb1 : ("kept_columns" : Str) ∉ bmeths := by unfold bmeths; decide +kernel
theorem nb2 : ("kept_rows" : Str) ∉ bmeths := by unfold bmeths; decide +kernel
theorem nb3 : ("kept_whole" : Str) ∉ bmeths := by unfold bmeths; decide +kernel
theorem nb4 : ("kept_gaps" : Str) ∉ bmeths := by unfold bmeths; decide +kernel
theorem nb5 : ("kept_values" : Str) ∉ bmeths := by unfold bmeths; decide +kernel
section
variable {P : Program} {w : World} {K : PySem.W.Frag} {mg : Str → Option Value} {base : Heap} {f : Addr} {fd : FuncData} {T : Cl} {CC BC : Addr}
theorem wide_of {H0 H : Hp} {n : Nat} : ∀ {xs : List V} {rows : List Row}, Paired (RowX T H0 H) xs rows → (∀ r ∈ rows, r.1.length = n) → ∀ x ∈ xs, Wide H n x
  | _, _, .nil, _, x, hx => by cases hx
  | _, _, .cons (b := r) ⟨a, rt, cv, e, h1, h2, h3⟩ t, hw, x, hx => by
    rcases List.mem_cons.mp hx with rfl | hx
    · exact ⟨a, rt, cv, _, e, h1, h2, by rw [List.length_map]; exact hw r List.mem_cons_self⟩
    · exact wide_of t (fun r hr => hw r (List.mem_cons_of_mem _ hr)) x hx
theorem bi_tail2 {cdv : Value} {A : Around} {outer : List Env} {s : Shared} {H0' : Hp} {E : XK} {n : Nat} (hr : Room n (A.deeper (PyProof.Rows.envOfC "Table.__init__" (defScope sBInit) s.heap.objs.size f cdv))) (hn : 1 ≤ n) (X : Txt mg) (Z : Bz K T BC)
    (C1 : Cal P w K mg base "gaps_among" 1 ["cells"] (spGapsA K)) (C2 : Cal P w K mg base "values_among" 1 ["cells"] (spValsA K)) (C3 : Cal P w K mg base "cells_within" 1 ["parts"] (spCellsW T K)) (C4 : Cal P w K mg base "check_columns" 1 ["columns"] spCheckC) (C5 : Cal P w K mg base "check_rows" 1 ["rows", "width"] spCheckR) :
    ∃ t, PSs (cxOf CX0 P w K mg base ["self", "columns", "rows", "whole", "cells", "row", "cond"] "Table.__init__" (defScope sBInit) f cdv A outer s H0' E).nox ((defBody sBInit).drop 3) t ∧
      ∀ (Q : VK) (H0 H : Hp) (b dx tc tr : Addr) (v1 v2 v3 : Option V) (fs : List (Str × V)) (cs : List Str) (xs : List V) (rows : List Row) (cw : V) (wc : Cd) (pool : List Key), H b = some (.ins BC dx fs) → fs.length ≤ 10 → (∀ m ∈ bmeths, fs.lookup m = none) → fs.lookup ("kept_columns" : Str) = some (.ref tc) → H tc = some (.tup (cs.map V.str)) → cs.Nodup → cs.length ≤ 10 → fs.lookup ("kept_rows" : Str) = some (.ref tr) → H tr = some (.tup xs) → Paired (RowX T H0 H) xs rows → (∀ r ∈ rows, r.1.length = cs.length) → fs.lookup ("kept_whole" : Str) = some cw → WhOk T H0 H wc cw → Same H0 H → H0 b = none →
        rows.length ≤ 20 → pool.length ≤ 40 → (∀ k, AllC rows wc k → k ∈ pool) →
        (∀ (H' : Hp), KeepB b H H' → IsB T BC H' b cs rows wc → Q .non H') →
        t { nx := fun _ H' => Q .non H', rt := Q } [some (.ref b), v1, v2, v3, none, none, none] H := by
  obtain ⟨tt, ht, q5⟩ := bi_tail (P := P) (w := w) (K := K) (mg := mg) (base := base) (f := f) (outer := outer) (H0' := H0') (E := E) hr hn X Z C1 C2 C3
  obtain ⟨g4, d4, G4, b4, k4, m4⟩ := C4
  obtain ⟨g5, d5, G5, b5, k5, m5⟩ := C5
  have hr1 : Room 1 _ := hr.mono hn
  refine ⟨_, pss_cons (ps_expr (pe_call G4 hr1 rfl m4 k4 b4 .nil pass0 (pa_cons (pe_fld (pv 0) rfl) pa_nil)))
    (pss_cons (ps_expr (pe_call G5 hr1 rfl m5 k5 b5 .nil pass0 (pa_cons (pe_fld (pv 0) rfl) (pa_cons (pe_callB call_len_seq rfl X.len PySem.boot_len (pa_cons (pe_fld (pv 0) rfl) pa_nil)) pa_nil))))
    ht), ?_⟩
  intro Q H0 H b dx tc tr v1 v2 v3 fs cs xs rows cw wc pool hb hfl hbm lc htc cnd cl lr htr hP hw lw hW s0 h0b rl pl40 hpool q
  refine ⟨_, rfl, b, BC, dx, fs, _, rfl, hb, Z.cl, Z.nc, lc, tc, cs, rfl, htc, cnd, by omega, fun H1 s1 => ?_⟩
  have hb1 := s1 _ _ hb
  have htc1 := s1 _ _ htc
  have hP1 := rowx_kx (KX.of s1) hP
  refine ⟨_, rfl, b, BC, dx, fs, _, rfl, hb1, Z.cl, Z.nr, lr, _, rfl, b, BC, dx, fs, _, rfl, hb1, Z.cl, Z.nc, lc, tc, _, rfl, .inr (SqT.of htc1), tr, xs, (cs.map V.str).length, rfl, s1 _ _ htr, wide_of hP1 (fun r hr' => by rw [List.length_map]; exact hw r hr'), fun H2 s2 => ?_⟩
  have w2 := s1.trans s2
  have hb2 := w2 _ _ hb
  refine q5 Q H0 H2 b dx tr v1 v2 v3 fs xs rows cw wc pool hb2 hfl lr (w2 _ _ htr) (rowx_kx (KX.of w2) hP) lw (hW.kx (KX.of w2)) (s0.trans w2) h0b rl (fun r hr' => by rw [hw r hr']; exact cl) pl40 hpool ?_
  intro H' tg tv gs vs kb hb' hg' gnd gso gm hv' vnd vso vm
  have kx : KX T H2 H' := KX.keepB kb hb2 Z.ne
  have s' : Same H0 H' := kb.same (s0.trans w2) h0b
  refine q H' ((KeepB.of w2).trans kb) ⟨dx, tc, tr, tg, tv, cw, _, xs, gs, vs, hb', bm_put nb5 (bm_put nb4 hbm), ?_, kx.t _ _ (w2 _ _ htc), ?_, kx.t _ _ (w2 _ _ htr), rowx_now s' (rowx_kx kx (rowx_kx (KX.of w2) hP)), ?_, ((hW.kx (KX.of w2)).kx kx).isC s', ?_, hg', gnd, gso, gm, ?_, hv', vnd, vso, vm⟩
  · rw [put_ne (by decide), put_ne (by decide)]; exact lc
  · rw [put_ne (by decide), put_ne (by decide)]; exact lr
  · rw [put_ne (by decide), put_ne (by decide)]; exact lw
  · rw [put_ne (by decide), put_has]
  · rw [put_has]
theorem ok_binit (F : FunD K "__init__" "Table.__init__" sBInit f fd) (X : Txt mg) (Z : Bz K T BC)
    (C1 : Cal P w K mg base "gaps_among" 1 ["cells"] (spGapsA K)) (C2 : Cal P w K mg base "values_among" 1 ["cells"] (spValsA K)) (C3 : Cal P w K mg base "cells_within" 1 ["parts"] (spCellsW T K)) (C4 : Cal P w K mg base "check_columns" 1 ["columns"] spCheckC) (C5 : Cal P w K mg base "check_rows" 1 ["rows", "width"] spCheckR)
    (M1 : MkC P w K mg base "Truth" T.t 42 ["self", "said"] (spTI T)) : FnOk P w K mg base CX0 44 f fd ["self", "columns", "rows", "whole"] (spBI T BC) := by
  refine F.ok (k := 43) scBI (fun vs H Q E h => ?_) (fun cdv A outer s H vs Q E hr h => ?_)
  · obtain ⟨b, dx, ca, ra, wv, cs, xs, rows, wc, pool, H0, rfl, _⟩ := h
    rfl
  obtain ⟨b, dx, ca, ra, wv, cs, xs, rows, wc, pool, H0, rfl, hb, s0, h0b, hca, cnd, cl, hra, hP, hw, rl, hwv, pl40, hpool, q⟩ := h
  obtain ⟨tt, ht, q3⟩ := bi_tail2 (P := P) (w := w) (K := K) (mg := mg) (base := base) (f := f) (outer := outer) (H0' := H) (E := E) hr (by decide) X Z C1 C2 C3 C4 C5
  obtain ⟨f1, d1, mk1, G1, b1, m1⟩ := M1
  have len := plen hP
  refine ⟨_, pss_cons (ps_fld (pv 0) (pe_callTy call_tuple_of rfl X.tuple PyProof.Rows.boot_tuple (pa_cons (pv 1) pa_nil)) rfl)
    (pss_cons (ps_fld (pv 0) (pe_callTy call_tuple_of rfl X.tuple PyProof.Rows.boot_tuple (pa_cons
      (pe_lcG (caps := []) ["row", "cond"] rfl (pi_list (pv 2)) ⟨rfl, by decide +kernel, by decide +kernel, rfl, .nil, rfl, rfl, rfl⟩
        (fun s H ex => pg_tupK (K := K) (n := 2) rfl rfl (pgs_cons (pg_name (X := cxLG _ _ _ _ s H ex) (i := 0) ndRC rfl (Or.inl rfl) (.inr rfl)) (pgs_cons (pg_name (X := cxLG _ _ _ _ s H ex) (i := 1) ndRC rfl (Or.inl rfl) (.inr rfl)) pgs_nil))) (fun s H ex => pif_nil)
        (fun s H ex => pe_tup (pa_cons (pe_callTy (X := cxLG _ _ _ _ s H ex) (call_tuple_ofK (K := K) rfl) rfl X.tuple PyProof.Rows.boot_tuple (pa_cons (pe_var (X := cxLG _ _ _ _ s H ex) (i := 0) rfl (Or.inl rfl)) pa_nil)) (pa_cons (pe_var (X := cxLG _ _ _ _ s H ex) (i := 1) rfl (Or.inl rfl)) pa_nil)))) pa_nil)) rfl)
    (pss_cons (ps_fld (pv 0) (pe_ifExp (pt_cmpR op_isN (pv 3) pe_non (nomark _)) (pe_make mk1 G1 hr rfl m1 b1 .nil pass0 (pa_cons pe_bl pa_nil)) (pv 3)) rfl)
    ht)), ?_⟩
  -- the columns
  refine ⟨_, rfl, ca, _, rfl, .inl ⟨SqL.of (s0 _ _ hca), fun tc htc => ?_⟩⟩
  have s1 := same_new htc (.tup (cs.map V.str))
  have h1 := upd_same (H := H) (a := tc) (o := .tup (cs.map V.str))
  generalize upd H tc (.tup (cs.map V.str)) = H1 at s1 h1 ⊢
  have hb1 := s1 _ _ hb
  have ntb : tc ≠ b := fun e => by rw [e, hb1] at h1; cases h1
  refine ⟨_, rfl, b, BC, dx, [], rfl, hb1, Z.cl, Z.nc, by decide, ?_⟩
  have kb2 : KeepB b H (upd H1 b (.ins BC dx (putF "kept_columns" (.ref tc) []))) := (KeepB.of s1).trans KeepB.upd
  have hb2 := upd_same (H := H1) (a := b) (o := .ins BC dx (putF "kept_columns" (.ref tc) []))
  have htc2 : (upd H1 b (.ins BC dx (putF "kept_columns" (.ref tc) []))) tc = some (.tup (cs.map V.str)) := by rw [upd_ne ntb]; exact h1
  generalize upd H1 b (.ins BC dx (putF "kept_columns" (.ref tc) [])) = H2 at kb2 hb2 htc2 ⊢
  have s02 : Same H0 H2 := kb2.same s0 h0b
  -- the rows
  refine ⟨_, rfl, ra, rfl, ⟨_, SqL.of (s02 _ _ hra)⟩, fun D hD => ?_⟩
  refine lcg_listR (K := K) (a := ra) (xs := xs) (fun i σ H3 => ∃ (u1 u2 : Option V) (ys : List V), σ = [u1, u2] ∧ Same H2 H3 ∧ H3 D = some (.lst ys) ∧ Paired (RowX T H0 H3) ys (rows.take i))
    ⟨none, none, [], rfl, same_new hD _, upd_same, by rw [List.take_zero]; exact .nil⟩ (fun i σ H3 _ ⟨_, _, _, _, z, _⟩ => SqL.of ((s02.trans z) _ _ hra)) ?_ ?_
  · rintro i x σ H3 hi ⟨u1, u2, ys, rfl, s3, h3, hP3⟩
    obtain ⟨r, hri, a, rr, cv, rfl, ha, hrr, hC⟩ := pget hP hi
    have hil := (List.getElem?_eq_some_iff.mp hri).1
    have s03 := s02.trans s3
    have yl := plen hP3
    rw [List.length_take] at yl
    have last : ∀ (rt t1 : Addr) (H4 : Hp), Same H3 H4 → H4 rt = some (.tup (r.1.map kV)) → H4 t1 = none → ∃ zs, (upd H4 t1 (.tup [.ref rt, cv])) D = some (.lst zs) ∧ zs.length < sizeLine ∧ ∃ (u1 u2 : Option V) (ys : List V), [some (V.ref rr), some cv] = [u1, u2] ∧ Same H2 (upd (upd H4 t1 (.tup [.ref rt, cv])) D (.lst (zs ++ [.ref t1]))) ∧ (upd (upd H4 t1 (.tup [.ref rt, cv])) D (.lst (zs ++ [.ref t1]))) D = some (.lst ys) ∧ Paired (RowX T H0 (upd (upd H4 t1 (.tup [.ref rt, cv])) D (.lst (zs ++ [.ref t1])))) ys (rows.take (i + 1)) := fun rt t1 H4 s4 hrt ht1 => by
      have s5 := same_new ht1 (.tup [.ref rt, cv])
      have h5 := upd_same (H := H4) (a := t1) (o := .tup [.ref rt, cv])
      have h5D := s5 _ _ (s4 _ _ h3)
      have h5r := s5 _ _ hrt
      generalize upd H4 t1 (.tup [.ref rt, cv]) = H5 at s5 h5 h5D h5r ⊢
      have kx : KX T H5 (upd H5 D (.lst (ys ++ [.ref t1]))) := KX.updL h5D
      refine ⟨ys, h5D, small1000 (by omega), _, _, ys ++ [.ref t1], rfl, same_upd (s3.trans (s4.trans s5)) hD _, upd_same, ?_⟩
      rw [take_snoc hri]
      exact psnoc (rowx_kx kx (rowx_kx (KX.of (s4.trans s5)) hP3)) ⟨t1, rt, cv, rfl, kx.t _ _ h5, kx.t _ _ h5r, hC⟩
    refine ⟨a, _, rfl, SqT.of (s03 _ _ ha), rfl, _, _, rfl, _, _, rfl, rfl, _, rfl, rr, r.1.map kV, rfl, ?_⟩
    rcases hrr with hrr | hrr
    · refine .inl ⟨SqL.of (s03 _ _ hrr), fun rt hrt => ⟨_, rfl, small (by simp), fun t1 ht1 => ?_⟩⟩
      exact last rt t1 _ (same_new hrt _) upd_same ht1
    · refine .inr ⟨SqT.of (s03 _ _ hrr), _, rfl, small (by simp), fun t1 ht1 => ?_⟩
      exact last rr t1 _ (Same.refl _) (s03 _ _ hrr) ht1
  rintro σ H3 ⟨u1, u2, ys, rfl, s3, h3, hP3⟩
  rw [len, List.take_length] at hP3
  refine ⟨D, _, rfl, .inl ⟨SqL.of h3, fun tr htr => ?_⟩⟩
  have s4 := same_new htr (.tup ys)
  have h4 := upd_same (H := H3) (a := tr) (o := .tup ys)
  generalize upd H3 tr (.tup ys) = H4 at s4 h4 ⊢
  have w4 := s3.trans s4
  have hb4 := w4 _ _ hb2
  have nrb : tr ≠ b := fun e => by rw [e, hb4] at h4; cases h4
  have lf1 := length_putF "kept_columns" (.ref tc) []
  refine ⟨_, rfl, b, BC, dx, _, rfl, hb4, Z.cl, Z.nr, Nat.lt_of_le_of_lt lf1 (by decide), ?_⟩
  have kb5 : KeepB b H2 (upd H4 b (.ins BC dx (putF "kept_rows" (.ref tr) (putF "kept_columns" (.ref tc) [])))) := (KeepB.of w4).trans KeepB.upd
  have hb5 := upd_same (H := H4) (a := b) (o := .ins BC dx (putF "kept_rows" (.ref tr) (putF "kept_columns" (.ref tc) [])))
  have kx5 : KX T H3 (upd H4 b (.ins BC dx (putF "kept_rows" (.ref tr) (putF "kept_columns" (.ref tc) [])))) := KX.keepB ((KeepB.of s4).trans KeepB.upd) (s3 _ _ hb2) Z.ne
  have htr5 : (upd H4 b (.ins BC dx (putF "kept_rows" (.ref tr) (putF "kept_columns" (.ref tc) [])))) tr = some (.tup ys) := by rw [upd_ne nrb]; exact h4
  generalize upd H4 b (.ins BC dx (putF "kept_rows" (.ref tr) (putF "kept_columns" (.ref tc) []))) = H5 at kb5 hb5 kx5 htr5 ⊢
  have htc5 := kx5.t _ _ (s3 _ _ htc2)
  have hP5 := rowx_kx kx5 hP3
  have kb05 := kb2.trans kb5
  have s05 : Same H0 H5 := kb05.same s0 h0b
  have lf2 := length_putF "kept_rows" (.ref tr) (putF "kept_columns" (.ref tc) [])
  have l0 : ([] : List (Str × V)).length = 0 := rfl
  -- the whole
  have go : ∀ (cw : V) (H6 : Hp), Same H5 H6 → WhOk T H0 H6 wc cw → ∃ v, [some (V.ref b), some (.ref ca), some (.ref ra), some wv, none, none, none][0]? = some (some v) ∧ ∃ a' C' dx' fs', v = V.ref a' ∧ H6 a' = some (.ins C' dx' fs') ∧ Cls K C' ∧ NoAttr K C' "kept_whole" ∧ fs'.length < 1000 ∧ tt { nx := fun _ H' => Q .non H', rt := Q } [some (.ref b), some (.ref ca), some (.ref ra), some wv, none, none, none] (upd H6 a' (.ins C' dx' (putF "kept_whole" cw fs'))) := fun cw H6 s6 hW => by
    have hb6 := s6 _ _ hb5
    refine ⟨_, rfl, b, BC, dx, _, rfl, hb6, Z.cl, Z.nw, by omega, ?_⟩
    have kb7 : KeepB b H5 (upd H6 b (.ins BC dx (putF "kept_whole" cw (putF "kept_rows" (.ref tr) (putF "kept_columns" (.ref tc) []))))) := (KeepB.of s6).trans KeepB.upd
    have hb7 := upd_same (H := H6) (a := b) (o := .ins BC dx (putF "kept_whole" cw (putF "kept_rows" (.ref tr) (putF "kept_columns" (.ref tc) []))))
    have kx7 : KX T H6 (upd H6 b (.ins BC dx (putF "kept_whole" cw (putF "kept_rows" (.ref tr) (putF "kept_columns" (.ref tc) []))))) := KX.keepB KeepB.upd hb6 Z.ne
    generalize upd H6 b (.ins BC dx (putF "kept_whole" cw (putF "kept_rows" (.ref tr) (putF "kept_columns" (.ref tc) [])))) = H7 at kb7 hb7 kx7 ⊢
    have kx57 := (KX.of (T := T) s6).trans kx7
    have lf3 := length_putF "kept_whole" cw (putF "kept_rows" (.ref tr) (putF "kept_columns" (.ref tc) []))
    refine q3 Q H0 H7 b dx tc tr _ _ _ _ cs ys rows cw wc pool hb7 (by omega) (bm_put nb3 (bm_put nb2 (bm_put nb1 (fun m hm => rfl)))) ?_ (kx57.t _ _ htc5) cnd cl ?_ (kx57.t _ _ htr5) (rowx_kx kx57 hP5) hw ?_ (hW.kx kx7) ((kb05.trans kb7).same s0 h0b) h0b rl pl40 hpool (fun H' kb hB => q H' ((kb05.trans kb7).trans kb) hB)
    · rw [put_ne (by decide), put_ne (by decide), put_has]
    · rw [put_ne (by decide), put_has]
    · rw [put_has]
  refine ⟨_, rfl, rfl, _, rfl, ?_⟩
  rcases hwv with ⟨rfl, rfl⟩ | hwC
  · refine iteT fun x dx' hx hdx ne => ?_
    have ms := mk_same (C := T.t) hx hdx
    exact ⟨x, dx', true, H5, rfl, upd_same, ms, hx, fun H6 kb hC => ⟨rfl, go _ H6 (kb.same ms hx) (.inr ⟨rfl, hC⟩)⟩⟩
  · obtain ⟨ca', dx', fs', rfl, _⟩ := isC_iff.mp hwC
    exact iteF ⟨_, rfl, go _ H5 (Same.refl _) (.inl hwC)⟩
end
end K31
set_option maxHeartbeats 4000000
namespace K31
open PySem L2 CD
/-! ### what a table tells -/
def spBCols (T : Cl) (BC : Addr) : Sp := fun vs H Q _ => ∃ (b : Addr) (cs : List Str) (rows : List Row) (wc : Cd), vs = [.ref b] ∧ IsB T BC H b cs rows wc ∧ ∀ l, H l = none → Q (.ref l) (upd H l (.lst (cs.map V.str)))
def spBRows (T : Cl) (BC : Addr) : Sp := fun vs H Q _ => ∃ (b : Addr) (cs : List Str) (rows : List Row) (wc : Cd), vs = [.ref b] ∧ IsB T BC H b cs rows wc ∧ ∀ l xs, H l = none → Paired (RowX T H H) xs rows → Q (.ref l) (upd H l (.lst xs))
def spBWhole (T : Cl) (BC : Addr) : Sp := fun vs H Q _ => ∃ (b : Addr) (cs : List Str) (rows : List Row) (wc : Cd), vs = [.ref b] ∧ IsB T BC H b cs rows wc ∧ ∀ cw, IsC T H wc cw → Q cw H
def spBGaps (T : Cl) (BC : Addr) : Sp := fun vs H Q _ => ∃ (b : Addr) (cs : List Str) (rows : List Row) (wc : Cd), vs = [.ref b] ∧ IsB T BC H b cs rows wc ∧ ∀ (l : Addr) (gs : List Str), H l = none → gs.Nodup → PyProof.Rows.sortedS gs = true → (∀ x, x ∈ gs ↔ AllC rows wc (Sum.inr x)) → Q (.ref l) (upd H l (.lst (gs.map V.str)))
def spBStand (T : Cl) (BC : Addr) : Sp := fun vs H Q _ => ∃ (b : Addr) (cs : List Str) (rows : List Row) (wc : Cd), vs = [.ref b] ∧ IsB T BC H b cs rows wc ∧ ∀ (l : Addr) (vs' : List Int), H l = none → vs'.Nodup → vs'.Pairwise (· ≤ ·) → (∀ x, x ∈ vs' ↔ AllC rows wc (Sum.inl x)) → Q (.ref l) (upd H l (.lst (vs'.map V.int)))
/-! ### draws -/
/-- all but the state stays -/
structure KS (st : Addr) (H H' : Hp) : Prop where
  k : KeepB st H H'
  n : ∃ n : Int, H' st = some (.lst [.int n])
theorem KS.of {st : Addr} {H H' : Hp} {n : Int} (s : Same H H') (h : H st = some (.lst [.int n])) : KS st H H' := ⟨KeepB.of s, n, s _ _ h⟩
theorem KS.trans {st : Addr} {H H1 H2 : Hp} (a : KS st H H1) (b : KS st H1 H2) : KS st H H2 := ⟨a.k.trans b.k, b.n⟩
theorem KS.same {st : Addr} {H H1 H2 : Hp} (a : KS st H H1) (s : Same H1 H2) : KS st H H2 := by
  obtain ⟨n, h⟩ := a.n
  exact a.trans (KS.of s h)
def spSeed (K : PySem.W.Frag) : Sp := fun vs H Q _ => ∃ (a : Addr) (ns : List Int) (k : Nat), vs = [.ref a, .int k] ∧ SqL K H a (ns.map V.int) ∧ ∀ z : Int, Q (.int z) H
def spDraw : Sp := fun vs H Q _ => ∃ (st : Addr) (n many : Int), vs = [.ref st, .int many] ∧ 0 < many ∧ H st = some (.lst [.int n]) ∧ ∀ (z : Int) (H' : Hp), KS st H H' → 0 ≤ z → z < many → Q (.int z) H'
section
variable {P : Program} {w : World} {K : PySem.W.Frag} {mg : Str → Option Value} {base : Heap} {f : Addr} {fd : FuncData} {T : Cl} {CC BC : Addr}
theorem scB1 : FnScope ["self"] ["self"] (defScope sBCols) := ⟨rfl, rfl, rfl, by decide +kernel, rfl, by decide +kernel, by decide +kernel⟩
theorem ok_bcols (F : Fun K "columns" "Table.columns" sBCols f fd) (X : Txt mg) (Z : Bz K T BC) : FnOk P w K mg base CX0 1 f fd ["self"] (spBCols T BC) := by
  refine F.ok scB1 (fun vs H Q E h => ?_) (fun cdv A outer s H vs Q E hr h => ?_)
  · obtain ⟨b, cs, rows, wc, rfl, _⟩ := h
    rfl
  obtain ⟨b, cs, rows, wc, rfl, ⟨dx, tc, tr, tg, tv, cw, fs, xs, gs, vs, hb, hm, l1, h1, _⟩, q⟩ := h
  refine ⟨_, pss_one (ps_ret (pe_callTy call_list_of rfl X.list PyProof.Rows.boot_list (pa_cons (pe_fld (pv 0) rfl) pa_nil))), ?_⟩
  exact ⟨_, rfl, b, BC, dx, fs, _, rfl, hb, Z.cl, Z.nc, l1, tc, _, rfl, .inr (SqT.of h1), fun l hl => q l hl⟩
theorem scB2 : FnScope ["self"] ["self"] (defScope sBRows) := ⟨rfl, rfl, rfl, by decide +kernel, rfl, by decide +kernel, by decide +kernel⟩
theorem ok_brows (F : Fun K "rows" "Table.rows" sBRows f fd) (X : Txt mg) (Z : Bz K T BC) : FnOk P w K mg base CX0 1 f fd ["self"] (spBRows T BC) := by
  refine F.ok scB2 (fun vs H Q E h => ?_) (fun cdv A outer s H vs Q E hr h => ?_)
  · obtain ⟨b, cs, rows, wc, rfl, _⟩ := h
    rfl
  obtain ⟨b, cs, rows, wc, rfl, ⟨dx, tc, tr, tg, tv, cw, fs, xs, gs, vs, hb, hm, l1, h1, l2, h2, hP, _⟩, q⟩ := h
  refine ⟨_, pss_one (ps_ret (pe_callTy call_list_of rfl X.list PyProof.Rows.boot_list (pa_cons (pe_fld (pv 0) rfl) pa_nil))), ?_⟩
  exact ⟨_, rfl, b, BC, dx, fs, _, rfl, hb, Z.cl, Z.nr, l2, tr, _, rfl, .inr (SqT.of h2), fun l hl => q l xs hl hP⟩
theorem scB3 : FnScope ["self"] ["self"] (defScope sBWhole) := ⟨rfl, rfl, rfl, by decide +kernel, rfl, by decide +kernel, by decide +kernel⟩
theorem ok_bwhole (F : Fun K "whole" "Table.whole" sBWhole f fd) (Z : Bz K T BC) : FnOk P w K mg base CX0 1 f fd ["self"] (spBWhole T BC) := by
  refine F.ok scB3 (fun vs H Q E h => ?_) (fun cdv A outer s H vs Q E hr h => ?_)
  · obtain ⟨b, cs, rows, wc, rfl, _⟩ := h
    rfl
  obtain ⟨b, cs, rows, wc, rfl, ⟨dx, tc, tr, tg, tv, cw, fs, xs, gs, vs, hb, hm, l1, h1, l2, h2, hP, l3, hC, _⟩, q⟩ := h
  refine ⟨_, pss_one (ps_ret (pe_fld (pv 0) rfl)), ?_⟩
  exact ⟨_, rfl, b, BC, dx, fs, _, rfl, hb, Z.cl, Z.nw, l3, q cw hC⟩
theorem scB4 : FnScope ["self"] ["self"] (defScope sBGaps) := ⟨rfl, rfl, rfl, by decide +kernel, rfl, by decide +kernel, by decide +kernel⟩
theorem ok_bgaps (F : Fun K "gaps" "Table.gaps" sBGaps f fd) (X : Txt mg) (Z : Bz K T BC) : FnOk P w K mg base CX0 1 f fd ["self"] (spBGaps T BC) := by
  refine F.ok scB4 (fun vs H Q E h => ?_) (fun cdv A outer s H vs Q E hr h => ?_)
  · obtain ⟨b, cs, rows, wc, rfl, _⟩ := h
    rfl
  obtain ⟨b, cs, rows, wc, rfl, ⟨dx, tc, tr, tg, tv, cw, fs, xs, gs, vs, hb, hm, l1, h1, l2, h2, hP, l3, hC, l4, h4, g1, g2, g3, _⟩, q⟩ := h
  refine ⟨_, pss_one (ps_ret (pe_callTy call_list_of rfl X.list PyProof.Rows.boot_list (pa_cons (pe_fld (pv 0) rfl) pa_nil))), ?_⟩
  exact ⟨_, rfl, b, BC, dx, fs, _, rfl, hb, Z.cl, Z.ng, l4, tg, _, rfl, .inr (SqT.of h4), fun l hl => q l gs hl g1 g2 g3⟩
theorem scB5 : FnScope ["self"] ["self"] (defScope sBStand) := ⟨rfl, rfl, rfl, by decide +kernel, rfl, by decide +kernel, by decide +kernel⟩
theorem ok_bstand (F : Fun K "standing" "Table.standing" sBStand f fd) (X : Txt mg) (Z : Bz K T BC) : FnOk P w K mg base CX0 1 f fd ["self"] (spBStand T BC) := by
  refine F.ok scB5 (fun vs H Q E h => ?_) (fun cdv A outer s H vs Q E hr h => ?_)
  · obtain ⟨b, cs, rows, wc, rfl, _⟩ := h
    rfl
  obtain ⟨b, cs, rows, wc, rfl, ⟨dx, tc, tr, tg, tv, cw, fs, xs, gs, vs, hb, hm, l1, h1, l2, h2, hP, l3, hC, l4, h4, g1, g2, g3, l5, h5, v1, v2, v3⟩, q⟩ := h
  refine ⟨_, pss_one (ps_ret (pe_callTy call_list_of rfl X.list PyProof.Rows.boot_list (pa_cons (pe_fld (pv 0) rfl) pa_nil))), ?_⟩
  exact ⟨_, rfl, b, BC, dx, fs, _, rfl, hb, Z.cl, Z.nv, l5, tv, _, rfl, .inr (SqT.of h5), fun l hl => q l vs hl v1 v2 v3⟩
theorem scSe : FnScope ["_law_script", "_law_k"] ["_law_script", "_law_k"] (defScope sSeed) := ⟨rfl, rfl, rfl, by decide +kernel, rfl, by decide +kernel, by decide +kernel⟩
theorem ok_seed (Fn : Fun K "_law_seed" "_law_seed" sSeed f fd) (X : Txt mg) : FnOk P w K mg base CX0 1 f fd ["_law_script", "_law_k"] (spSeed K) := by
  refine Fn.ok scSe (fun vs H Q E h => ?_) (fun cdv A outer s H vs Q E hr h => ?_)
  · obtain ⟨a, ns, k, rfl, _⟩ := h
    rfl
  obtain ⟨a, ns, k, rfl, hS, q⟩ := h
  refine ⟨_, pss_cons (ps_if (pt_cmpR op_lt (pv 1) (pe_callB call_len_seq rfl X.len PySem.boot_len (pa_cons (pv 0) pa_nil)) (nomark _)) (pss_one (ps_ret (pe_ix ix_list (pv 0) (pv 1) (fun _ _ => rfl)))) pss_nil)
    (pss_one (ps_ret (pe_op op_add (pe_op op_mul pe_int (pv 1)) pe_int))), ?_⟩
  refine ⟨_, rfl, _, rfl, a, _, rfl, .inl hS, _, _, rfl, rfl, _, rfl, ?_⟩
  refine ite2 (fun h1 => ?_) (fun _ => ?_)
  · have hk : k < ns.length := by
      have := of_decide_eq_true h1
      rw [List.length_map] at this
      omega
    refine ⟨_, rfl, _, rfl, a, _, _, _, rfl, rfl, hS, atI_nat (v := .int ns[k]) ?_, q _⟩
    rw [List.getElem?_map, List.getElem?_eq_getElem hk]
    rfl
  · exact ⟨_, rfl, _, _, rfl, rfl, .inl ⟨by decide, by decide⟩, _, _, rfl, rfl, q _⟩
theorem scDr : FnScope ["_law_state", "_law_many"] ["_law_state", "_law_many"] (defScope sDraw) := ⟨rfl, rfl, rfl, by decide +kernel, rfl, by decide +kernel, by decide +kernel⟩
theorem at0 {v : V} {xs : List V} : atI (v :: xs) 0 = some v := atI_nat (j := 0) rfl
theorem ok_draw (Fn : Fun K "_law_draw" "_law_draw" sDraw f fd) : FnOk P w K mg base CX0 1 f fd ["_law_state", "_law_many"] spDraw := by
  refine Fn.ok scDr (fun vs H Q E h => ?_) (fun cdv A outer s H vs Q E hr h => ?_)
  · obtain ⟨st, n, many, rfl, _⟩ := h
    rfl
  obtain ⟨st, n, many, rfl, hm, hst, q⟩ := h
  refine ⟨_, pss_cons (ps_asg (pe_op op_mod (pe_op op_add (pe_op op_mul (pe_ix ix_list (pv 0) pe_int (fun _ _ => rfl)) pe_int) pe_int) pe_int) (pg_sub (pv 0) pe_int set_list))
    (pss_one (ps_ret (pe_op op_mod (pe_op op_fdiv (pe_ix ix_list (pv 0) pe_int (fun _ _ => rfl)) pe_int) (pv 1)))), ?_⟩
  refine ⟨_, rfl, st, _, _, _, rfl, rfl, SqL.of hst, at0, _, _, rfl, rfl, .inr ⟨by decide, by decide⟩, _, _, rfl, rfl, _, _, rfl, rfl, (by show (0 : Int) < 2147483647; decide), ?_⟩
  refine ⟨_, rfl, st, _, 0, 0, rfl, rfl, hst, rfl, ?_⟩
  have h1 := upd_same (H := H) (a := st) (o := .lst [.int ((n * 48271 + 8191) % 2147483647)])
  have k1 : KeepB st H (upd H st (.lst [.int ((n * 48271 + 8191) % 2147483647)])) := KeepB.upd
  refine ⟨_, rfl, st, _, _, _, rfl, rfl, SqL.of h1, at0, _, _, rfl, rfl, ⟨by decide, by decide⟩, _, rfl, _, _, rfl, rfl, hm, ?_⟩
  exact q _ _ ⟨k1, _, h1⟩ (Int.emod_nonneg _ (by omega)) (Int.emod_lt_of_pos _ hm)
end
end K31
set_option maxHeartbeats 4000000
namespace L2
open PySem
theorem op_notIn_seqK {X : Cx} {K : PySem.W.Frag} (e : X.K = K) : OpR X (compareOp .NotIn) (rIn K true) := e ▸ op_notIn_seq
end L2
namespace K31
open PySem L2 CD
/-! ### words -/
abbrev lets : Str := "abcdefghijklmnopqrstuvwxyz"
theorem lets_len : lets.cps.toList.length = 26 := by decide +kernel
theorem lets_size : lets.cps.size = 26 := by decide +kernel
theorem lets_small : lets.length ≤ sizeLine := small (by decide +kernel)
theorem lets_ascii : (lets.cps.all fun x => decide (x < 128)) = true := by decide +kernel
theorem atL {z : Int} (h0 : 0 ≤ z) (h1 : z < 26) : ∃ c, atI lets.cps.toList z = some c := by
  obtain ⟨j, rfl⟩ := Int.eq_ofNat_of_zero_le h0
  have hj : j < lets.cps.toList.length := by rw [lets_len]; omega
  exact ⟨lets.cps.toList[j], atI_nat (List.getElem?_eq_getElem hj)⟩
theorem app_cps (x y : Str) : (x ++ y).cps.toList = x.cps.toList ++ y.cps.toList := Array.toList_append
theorem len_app (x y : Str) : (x ++ y).length = x.length + y.length := by
  show (x ++ y).cps.size = x.cps.size + y.cps.size
  rw [← Array.length_toList, app_cps, List.length_append, Array.length_toList, Array.length_toList]
theorem hu8_of {A : Around} {k : Nat} (hr : Room k A) : A.units + 8 < cLine := Nat.lt_of_le_of_lt (Nat.add_le_add_left (by decide : 8 ≤ 64) _) hr.units
theorem inV_strs (x : Str) (ws : List Str) : inV (.str x) (ws.map V.str) = decide (x ∈ ws) := by
  unfold inV
  rw [List.any_map, Bool.eq_iff_iff, List.any_eq_true, decide_eq_true_iff]
  constructor
  · rintro ⟨y, hy, e⟩
    have : (y == x) = true := e
    exact beq_iff_eq.mp this ▸ hy
  · intro h
    exact ⟨x, h, by show (x == x) = true; simp⟩
theorem at2 {z : Int} (h0 : 0 ≤ z) (h1 : z < 2) (x y : V) : atI [x, y] z = some x ∨ atI [x, y] z = some y := by
  have h : z = 0 ∨ z = 1 := by omega
  rcases h with rfl | rfl
  · exact .inl rfl
  · exact .inr rfl
def one (c : Nat) : Str := ⟨#[c]⟩
theorem one_inj {a b : Nat} (h : one a = one b) : a = b := by
  have : (one a).cps = (one b).cps := by rw [h]
  simpa [one] using this
theorem lets_nd : lets.cps.toList.Nodup := by decide +kernel
/-- a letter that is no word yet -/
theorem fresh_letter {ws : List Str} (h : ws.length ≤ 20) : (lets.cps.toList.filter fun c => decide (one c ∉ ws)) ≠ [] := by
  intro e
  have all : ∀ c ∈ lets.cps.toList, one c ∈ ws := fun c hc => Classical.byContradiction fun z => by
    have : c ∈ lets.cps.toList.filter fun c => decide (one c ∉ ws) := List.mem_filter.mpr ⟨hc, decide_eq_true z⟩
    rw [e] at this
    cases this
  have nd : (lets.cps.toList.map one).Nodup := by
    have := lets_nd
    exact (List.pairwise_map.mpr (this.imp fun h e => h (one_inj e)))
  have := nodup_sub (l := lets.cps.toList.map one) (m := ws) nd (fun x hx => by
    obtain ⟨c, hc, rfl⟩ := List.mem_map.mp hx
    exact all c hc)
  rw [List.length_map, lets_len] at this
  omega
def Wd (x : Str) : Prop := 1 ≤ x.length ∧ x.length ≤ 8
def spWord : Sp := fun vs H Q _ => ∃ (st oa : Addr) (n : Int) (ws : List Str), vs = [.ref st, .ref oa] ∧ H st = some (.lst [.int n]) ∧ H oa = some (.lst (ws.map V.str)) ∧ ws.length ≤ 20 ∧ (∀ x ∈ ws, Wd x) ∧ ∀ (x : Str) (H' : Hp), KS st H H' → x ∉ ws → Wd x → Q (.str x) H'
def spWords : Sp := fun vs H Q _ => ∃ (st : Addr) (n : Int) (m : Nat), vs = [.ref st, .int m] ∧ H st = some (.lst [.int n]) ∧ m ≤ 10 ∧ ∀ (l : Addr) (ws : List Str) (H' : Hp), KS st H H' → H l = none → H' l = some (.lst (ws.map V.str)) → ws.Nodup → ws.length = m → (∀ x ∈ ws, Wd x) → Q (.ref l) H'
theorem ndW : (["_law_letter", "_law_others"] : List Str).Nodup := by decide +kernel
section
variable {P : Program} {w : World} {K : PySem.W.Frag} {mg : Str → Option Value} {base : Heap} {f : Addr} {fd : FuncData}
theorem scWd : FnScope ["_law_state", "_law_others", "_law_letters", "_law_word_here", "_law_at_here"] ["_law_state", "_law_others"] (defScope sWord) := ⟨rfl, rfl, rfl, by decide +kernel, rfl, by decide +kernel, by decide +kernel⟩
theorem wd_tail {cdv : Value} {A : Around} {outer : List Env} {s : Shared} {H0 : Hp} {E : XK} {n : Nat} (hr : Room n (A.deeper (PyProof.Rows.envOfC "_law_word" (defScope sWord) s.heap.objs.size f cdv))) (X : Txt mg) :
    ∃ t, PSs (cxOf CX0 P w K mg base ["_law_state", "_law_others", "_law_letters", "_law_word_here", "_law_at_here"] "_law_word" (defScope sWord) f cdv A outer s H0 E).nox ((defBody sWord).drop 3) t ∧
      ∀ (Q : VK) (H : Hp) (st oa : Addr) (u4 : Option V) (x : Str) (ws : List Str), H oa = some (.lst (ws.map V.str)) → ws.length ≤ 20 → 1 ≤ x.length → x.length ≤ 100 → (∀ (x : Str) (H' : Hp), Same H H' → x ∉ ws → Wd x → Q (.str x) H') →
        t { nx := fun _ H' => Q .non H', rt := Q } [some (.ref st), some (.ref oa), some (.str lets), some (.str x), u4] H := by
  refine ⟨_, pss_cons (ps_if (PW.pt (pw_or (pt_cmpR op_in_seq (pv 3) (pv 1) rfl) (pw_or1 (pt_cmpR op_gt (pe_callB call_len_str rfl X.len PySem.boot_len (pa_cons (pv 3) pa_nil)) pe_int (nomark _)))))
      (pss_one (ps_set (i := 3) scWd.nd rfl (Or.inl rfl) (pe_ix ix_list (pe_lcG (caps := [("_law_others", 1)]) ["_law_letter"] rfl (pi_ascii (pv 2)) ⟨rfl, by decide +kernel, by decide +kernel, rfl, .cons rfl (.inl rfl) rfl .nil, rfl, rfl, rfl⟩
        (fun s H ex => pg_name (X := cxLG _ _ _ _ s H ex) (i := 0) ndW rfl (Or.inl rfl) (.inr rfl))
        (fun s H ex => pif_one (pt_cmpR (op_notIn_seqK (K := K) rfl) (pe_var (X := cxLG _ _ _ _ s H ex) (i := 0) rfl (Or.inl rfl)) (pe_var (X := cxLG _ _ _ _ s H ex) (i := 1) rfl (Or.inr (Or.inl rfl))) rfl))
        (fun s H ex => pe_var (X := cxLG _ _ _ _ s H ex) (i := 0) rfl (Or.inl rfl))) pe_int (fun _ _ => rfl)))) pss_nil)
    (pss_one (ps_ret (pv 3))), ?_⟩
  intro Q H st oa u4 x ws hoa wl x1 x100 q
  have sf := str_flat ws
  -- a letter
  have letter : ∀ (Q' : V → Hp → Prop), (∀ y H', Same H H' → y ∉ ws → Wd y → Q' (.str y) H') → ∀ D, H D = none → ∃ W : Nat → Nat → St → Hp → Prop, (∃ m, W 0 m [none, some (.ref oa)] (upd H D (.lst []))) ∧ ∀ i m σ' H', W i m σ' H' →
      ((Itx lets).stop i H' ∧ ∃ (a : Addr) (xs : List V) (i : Int) (v : V), V.ref D = .ref a ∧ V.int 0 = .int i ∧ SqL K H' a xs ∧ atI xs i = some v ∧ Q' v H') ∨ ((Itx lets).go i H' ∧ ∃ N : St → Hp → Prop, (∀ σ2 H2, N σ2 H2 → ∃ m', m' < m ∧ W (i + 1) m' σ2 H2) ∧
        ∀ x H2, (Itx lets).yld i H' x H2 → (gName 0) x σ' H2 fun σ3 H3 => (tTest (tOp (rIn K true) (tVar 0) (tVar 1))) σ3 H3 fun b H4 => if b = true then (tVar 0) σ3 H4 fun y H5 => ∃ zs, H5 D = some (.lst zs) ∧ zs.length < sizeLine ∧ N σ3 (upd H5 D (.lst (zs ++ [y]))) else N σ3 H4) := by
    intro Q' q' D hD
    refine lcg_asciiR (z := lets) (fun i σ H2 => ∃ (u : Option V), σ = [u, some (.ref oa)] ∧ Same H H2 ∧ H2 D = some (.lst ((((lets.cps.toList.take i).filter fun c => decide (one c ∉ ws)).map one).map V.str)))
      ⟨none, rfl, same_new hD _, upd_same⟩ ?_ ?_
    · rintro i c σ H2 hc ⟨u, rfl, s2, h2⟩
      have hc' : lets.cps.toList[i]? = some c := by rw [Array.getElem?_toList]; exact hc
      refine ⟨_, rfl, _, rfl, oa, _, rfl, .inl (SqL.of (s2 _ _ hoa)), rfl, sf, _, rfl, ?_⟩
      rw [if_pos rfl, take_snoc hc', List.filter_append]
      have e1 : inV (.str ⟨#[c]⟩) (ws.map V.str) = decide (one c ∈ ws) := inV_strs (one c) ws
      rw [e1]
      by_cases hm : one c ∈ ws
      · rw [decide_eq_true hm]
        refine iteF ⟨_, rfl, s2, ?_⟩
        have : [c].filter (fun c => decide (one c ∉ ws)) = [] := by simp [hm]
        rw [this, List.append_nil]
        exact h2
      · rw [decide_eq_false hm]
        have : [c].filter (fun c => decide (one c ∉ ws)) = [c] := by simp [hm]
        rw [this]
        refine iteT ⟨_, rfl, _, h2, ?_, _, rfl, same_upd s2 hD _, ?_⟩
        · rw [List.length_map, List.length_map]
          have := List.length_filter_le (fun c => decide (one c ∉ ws)) (lets.cps.toList.take i)
          rw [List.length_take, lets_len] at this
          exact small1000 (by omega)
        · rw [upd_same, List.map_append, List.map_append]
          rfl
    · rintro σ H2 ⟨u, rfl, s2, h2⟩
      rw [lets_size, List.take_of_length_le (by rw [lets_len]; exact Nat.le_refl _)] at h2
      have fr := fresh_letter wl
      have mem : ∀ c ∈ lets.cps.toList.filter fun c => decide (one c ∉ ws), one c ∉ ws := fun c hc => of_decide_eq_true (List.mem_filter.mp hc).2
      generalize (lets.cps.toList.filter fun c => decide (one c ∉ ws)) = ys at h2 fr mem
      cases ys with
      | nil => exact absurd rfl fr
      | cons c r =>
        exact ⟨D, _, 0, .str (one c), rfl, rfl, SqL.of h2, at0, q' _ H2 s2 (mem c List.mem_cons_self) ⟨Nat.le_refl 1, (by decide : 1 ≤ 8)⟩⟩
  refine ⟨_, rfl, _, rfl, oa, _, rfl, .inl (SqL.of hoa), rfl, sf, _, rfl, ?_⟩
  rw [if_neg Bool.false_ne_true, inV_strs]
  by_cases c1 : x ∈ ws
  · rw [decide_eq_true c1]
    refine iteT (iteT ⟨_, rfl, lets, rfl, lets_ascii, fun D hD => ?_⟩)
    exact letter _ (fun y H' s' ny wy => ⟨_, rfl, q y H' s' ny wy⟩) D hD
  rw [decide_eq_false c1]
  refine iteF ⟨_, rfl, _, rfl, small (by omega), _, _, rfl, rfl, _, rfl, ?_⟩
  refine ite2 (fun c2 => ?_) (fun c2 => ?_)
  · refine ⟨_, rfl, lets, rfl, lets_ascii, fun D hD => ?_⟩
    exact letter _ (fun y H' s' ny wy => ⟨_, rfl, q y H' s' ny wy⟩) D hD
  · have : ¬ (8 : Int) < (x.length : Int) := fun z => c2 (decide_eq_true z)
    exact ⟨_, rfl, q x H (Same.refl _) c1 ⟨x1, by omega⟩⟩
end
end K31
set_option maxHeartbeats 4000000
namespace K31
open PySem L2 CD
def poolK (gs : List Str) (vs : List Int) : List Key := gs.map Sum.inr ++ vs.map Sum.inl
def spValues : Sp := fun vs H Q _ => ∃ c : Int, vs = [.int c] ∧ ∀ (l : Addr) (ns : List Int), H l = none → ns.length = 7 → Q (.ref l) (upd H l (.lst (ns.map V.int)))
def spCell : Sp := fun vs H Q _ => ∃ (st ga va : Addr) (n : Int) (gs : List Str) (ns : List Int), vs = [.ref st, .ref ga, .ref va] ∧ H st = some (.lst [.int n]) ∧ H ga = some (.lst (gs.map V.str)) ∧ gs.length ≤ 20 ∧ H va = some (.lst (ns.map V.int)) ∧ 0 < ns.length ∧ ns.length ≤ 20 ∧ va ≠ st ∧ ∀ (k : Key) (H' : Hp), KS st H H' → k ∈ poolK gs ns → Q (kV k) H'
theorem st_ne {H : Hp} {st oa : Addr} {n : Int} {ws : List Str} (h1 : H st = some (.lst [.int n])) (h2 : H oa = some (.lst (ws.map V.str))) : oa ≠ st := fun e => by
  rw [e, h1] at h2
  have h3 : [V.int n] = ws.map V.str := HO.lst.inj (Option.some.inj h2)
  cases ws with
  | nil => cases h3
  | cons x r => cases h3
theorem atN {α : Type} {ss : List α} {z : Int} (h0 : 0 ≤ z) (h1 : z < (ss.length : Nat)) : ∃ x, x ∈ ss ∧ atI ss z = some x := by
  obtain ⟨j, rfl⟩ := Int.eq_ofNat_of_zero_le h0
  have hj : j < ss.length := by omega
  exact ⟨ss[j], List.getElem_mem hj, atI_nat (List.getElem?_eq_getElem hj)⟩
section
variable {P : Program} {w : World} {K : PySem.W.Frag} {mg : Str → Option Value} {base : Heap} {f : Addr} {fd : FuncData}
theorem ok_word (Fn : Fun K "_law_word" "_law_word" sWord f fd) (X : Txt mg) (C0 : Cal P w K mg base "_law_draw" 1 ["_law_state", "_law_many"] spDraw) : FnOk P w K mg base CX0 2 f fd ["_law_state", "_law_others"] spWord := by
  obtain ⟨f0, d0, G0, b0, k0, m0⟩ := C0
  refine Fn.ok (k := 1) scWd (fun vs H Q E h => ?_) (fun cdv A outer s H vs Q E hr h => ?_)
  · obtain ⟨st, oa, n, ws, rfl, _⟩ := h
    rfl
  obtain ⟨st, oa, n, ws, rfl, hst, hoa, wl, wd, q⟩ := h
  obtain ⟨tt, ht, q3⟩ := wd_tail (P := P) (w := w) (K := K) (mg := mg) (base := base) (f := f) (outer := outer) (H0 := H) (E := E) hr X
  have hu8 := hu8_of hr
  have ne := st_ne hst hoa
  refine ⟨_, pss_cons (ps_set (i := 2) scWd.nd rfl (Or.inl rfl) pe_str)
    (pss_cons (ps_set (i := 3) scWd.nd rfl (Or.inl rfl) (pe_ix ix_str (pv 2) (pe_call G0 hr rfl m0 k0 b0 .nil pass0 (pa_cons (pv 0) (pa_cons pe_int pa_nil))) (fun _ _ => rfl)))
    (pss_cons (ps_if (PW.pt (pw_and (pt_cmpR (op_ne_nil hu8) (pv 1) (pe_lst pa_nil) (nomark _)) (pw_and1 (pt_cmpR op_eq (pe_call G0 hr rfl m0 k0 b0 .nil pass0 (pa_cons (pv 0) (pa_cons pe_int pa_nil))) pe_int (nomark _)))))
      (pss_cons (ps_set (i := 3) scWd.nd rfl (Or.inl rfl) (pe_ix ix_list (pv 1) (pe_call G0 hr rfl m0 k0 b0 .nil pass0 (pa_cons (pv 0) (pa_cons (pe_callB call_len_seq rfl X.len PySem.boot_len (pa_cons (pv 1) pa_nil)) pa_nil))) (fun _ _ => rfl)))
      (pss_cons (ps_set (i := 4) scWd.nd rfl (Or.inl rfl) (pe_call G0 hr rfl m0 k0 b0 .nil pass0 (pa_cons (pv 0) (pa_cons (pe_callB call_len_str rfl X.len PySem.boot_len (pa_cons (pv 3) pa_nil)) pa_nil))))
      (pss_one (ps_set (i := 3) scWd.nd rfl (Or.inl rfl) (pe_ix ix_list (pe_lst (pa_cons (pe_op op_add_str (pv 3) (pe_ix ix_str (pv 2) (pv 4) (fun _ _ => rfl)))
        (pa_cons (pe_op op_add_str (pe_op op_add_str (pe_slice sl_str (pv 3) po_none (po_some (pv 4))) (pe_ix ix_str (pv 2) (pe_call G0 hr rfl m0 k0 b0 .nil pass0 (pa_cons (pv 0) (pa_cons pe_int pa_nil))) (fun _ _ => rfl))) (pe_slice sl_str (pv 3) (po_some (pe_op op_add (pv 4) pe_int)) po_none)) pa_nil)))
        (pe_call G0 hr rfl m0 k0 b0 .nil pass0 (pa_cons (pv 0) (pa_cons pe_int pa_nil))) (fun _ _ => rfl)))))) pss_nil)
    ht)), ?_⟩
  refine ⟨_, rfl, _, rfl, st, n, 26, rfl, by decide, hst, fun z1 H1 s1 a1 a2 => ?_⟩
  obtain ⟨c1, hc1⟩ := atL a1 a2
  refine ⟨_, _, _, rfl, rfl, lets_small, hc1, ?_⟩
  have hoa1 := s1.k _ _ ne hoa
  refine ⟨_, rfl, small (by simp), fun e0 he0 => ?_⟩
  have s2 := same_new he0 (.lst [])
  have h2 := upd_same (H := H1) (a := e0) (o := .lst [])
  generalize upd H1 e0 (.lst []) = H2 at s2 h2 ⊢
  have t2 := s1.same s2
  have hoa2 := s2 _ _ hoa1
  refine ⟨oa, e0, _, rfl, rfl, SqL.of hoa2, SqL.of h2, _, rfl, ?_⟩
  have rest : ∀ (x : Str) (u4 : Option V) (H' : Hp), KS st H H' → 1 ≤ x.length → x.length ≤ 100 → tt { nx := fun _ H' => Q .non H', rt := Q } [some (.ref st), some (.ref oa), some (.str lets), some (.str x), u4] H' := fun x u4 H' t' x1 x2 =>
    q3 Q H' st oa u4 x ws (t'.k _ _ ne hoa) wl x1 x2 (fun y H'' s'' ny wy => q y H'' (t'.same s'') ny wy)
  cases hem : (ws.map V.str).isEmpty with
  | true => exact iteF (iteF (rest _ _ H2 t2 (Nat.le_refl 1) (by show 1 ≤ 100; decide)))
  | false =>
  have wpos : 0 < ws.length := by
    cases ws with
    | nil => cases hem
    | cons _ _ => exact Nat.succ_pos _
  obtain ⟨n2, hn2⟩ := t2.n
  refine iteT ⟨_, rfl, st, n2, 2, rfl, by decide, hn2, fun z2 H3 s3 b1' b2' => ?_⟩
  have t3 := t2.trans s3
  refine ⟨rfl, _, rfl, ite2 (fun _ => ?_) (fun _ => rest _ _ H3 t3 (Nat.le_refl 1) (by show 1 ≤ 100; decide))⟩
  have hoa3 := t3.k _ _ ne hoa
  obtain ⟨n3, hn3⟩ := t3.n
  have lpos : (0 : Int) < ((ws.map V.str).length : Nat) := by rw [List.length_map]; omega
  refine ⟨_, rfl, _, rfl, _, rfl, oa, _, rfl, .inl (SqL.of hoa3), st, n3, _, rfl, lpos, hn3, fun z3 H4 s4 d1' d2' => ?_⟩
  obtain ⟨v, hv, ev⟩ := atN (ss := ws.map V.str) d1' d2'
  obtain ⟨x, hx, rfl⟩ := List.mem_map.mp hv
  obtain ⟨x1, x8⟩ := wd x hx
  have t4 := t3.trans s4
  have hoa4 := t4.k _ _ ne hoa
  refine ⟨oa, _, _, _, rfl, rfl, SqL.of hoa4, ev, ?_⟩
  obtain ⟨n4, hn4⟩ := t4.n
  refine ⟨_, rfl, _, rfl, _, rfl, small (by omega), st, n4, _, rfl, (by show (0 : Int) < (x.length : Int); omega), hn4, fun z4 H5 s5 g1 g2 => ?_⟩
  have t5 := t4.trans s5
  obtain ⟨c5, hc5⟩ := atL g1 (by omega)
  obtain ⟨n5, hn5⟩ := t5.n
  refine ⟨_, rfl, _, rfl, _, rfl, _, _, _, rfl, rfl, lets_small, hc5, _, _, rfl, rfl, (by show x.length + 1 ≤ sizeLine; exact small (by omega)), ?_⟩
  refine ⟨_, rfl, _, rfl, _, rfl, _, rfl, small (by omega), _, rfl, _, rfl, st, n5, 26, rfl, by decide, hn5, fun z5 H6 s6 i1 i2 => ?_⟩
  obtain ⟨c6, hc6⟩ := atL i1 i2
  have t6 := t5.trans s6
  have sl1 : (Txt.slice x none (some z4)).length ≤ 8 := Nat.le_trans (Txt.slice_le _ _ _) x8
  have sl2 : (Txt.slice x (some (z4 + 1)) none).length ≤ 8 := Nat.le_trans (Txt.slice_le _ _ _) x8
  refine ⟨_, _, _, rfl, rfl, lets_small, hc6, _, _, rfl, rfl, (by show _ + 1 ≤ sizeLine; exact small (by omega)), ?_⟩
  refine ⟨_, rfl, _, rfl, _, _, rfl, rfl, _, rfl, _, rfl, small (by omega), _, _, rfl, rfl, ?_, small (by simp), fun L hL => ?_⟩
  · rw [len_app]
    show _ + 1 + _ ≤ sizeLine
    exact small (by omega)
  have s7 := same_new hL (.lst [.str (x ++ ⟨#[c5]⟩), .str (Txt.slice x none (some z4) ++ ⟨#[c6]⟩ ++ Txt.slice x (some (z4 + 1)) none)])
  have h7 := upd_same (H := H6) (a := L) (o := .lst [.str (x ++ ⟨#[c5]⟩), .str (Txt.slice x none (some z4) ++ ⟨#[c6]⟩ ++ Txt.slice x (some (z4 + 1)) none)])
  generalize upd H6 L (.lst [.str (x ++ ⟨#[c5]⟩), .str (Txt.slice x none (some z4) ++ ⟨#[c6]⟩ ++ Txt.slice x (some (z4 + 1)) none)]) = H7 at s7 h7 ⊢
  have t7 := t6.same s7
  obtain ⟨n7, hn7⟩ := t7.n
  refine ⟨_, rfl, st, n7, 2, rfl, by decide, hn7, fun z6 H8 s8 j1 j2 => ?_⟩
  have t8 := t7.trans s8
  have nL : L ≠ st := fun e => by
    rw [e, hn7] at h7
    have h9 := HO.lst.inj (Option.some.inj h7)
    cases h9
  have h8 := s8.k _ _ nL h7
  have l1 : (x ++ (⟨#[c5]⟩ : Str)).length = x.length + 1 := len_app _ _
  have l2 : (Txt.slice x none (some z4) ++ (⟨#[c6]⟩ : Str) ++ Txt.slice x (some (z4 + 1)) none).length = (Txt.slice x none (some z4)).length + 1 + (Txt.slice x (some (z4 + 1)) none).length := by
    rw [len_app, len_app]
    rfl
  rcases at2 j1 j2 (.str (x ++ ⟨#[c5]⟩)) (.str (Txt.slice x none (some z4) ++ ⟨#[c6]⟩ ++ Txt.slice x (some (z4 + 1)) none)) with e | e
  · exact ⟨L, _, _, _, rfl, rfl, SqL.of h8, e, rest _ _ H8 t8 (by rw [l1]; omega) (by rw [l1]; omega)⟩
  · exact ⟨L, _, _, _, rfl, rfl, SqL.of h8, e, rest _ _ H8 t8 (by rw [l2]; omega) (by rw [l2]; omega)⟩
theorem scWs : FnScope ["_law_state", "_law_many", "_law_found", "_law_k"] ["_law_state", "_law_many"] (defScope sWords) := ⟨rfl, rfl, rfl, by decide +kernel, rfl, by decide +kernel, by decide +kernel⟩
theorem ok_words (Fn : Fun K "_law_words" "_law_words" sWords f fd) (X : Txt mg) (C0 : Cal P w K mg base "_law_word" 2 ["_law_state", "_law_others"] spWord) : FnOk P w K mg base CX0 3 f fd ["_law_state", "_law_many"] spWords := by
  obtain ⟨f0, d0, G0, b0, k0, m0⟩ := C0
  refine Fn.ok (k := 2) scWs (fun vs H Q E h => ?_) (fun cdv A outer s H vs Q E hr h => ?_)
  · obtain ⟨st, n, m, rfl, _⟩ := h
    rfl
  obtain ⟨st, n, m, rfl, hst, m10, q⟩ := h
  refine ⟨_, pss_cons (ps_set (i := 2) scWs.nd rfl (Or.inl rfl) (pe_lst pa_nil))
    (pss_cons (ps_for PassesOwn.never rfl (pi_range1 rfl X.range (pa_cons (pv 1) pa_nil)) (pg_name (i := 3) scWs.nd rfl (Or.inl rfl))
      (pss_one (ps_expr (pe_bm PySem.F.plainAttrs_list PySem.F.slot_list_append PySem.F.type_list_append mt_append (pv 2) (pa_cons (pe_call G0 hr rfl m0 k0 b0 .nil pass0 (pa_cons (pv 0) (pa_cons (pv 2) pa_nil))) pa_nil)))))
    (pss_one (ps_ret (pv 2)))), ?_⟩
  refine ⟨small (by simp), fun l hl => ?_⟩
  have s0 := same_new hl (.lst [])
  refine ⟨_, rfl, _, rfl, by omega, by omega, for_range (lo := 0) (n := (m : Int).toNat) (fun i σ H2 => ∃ (u3 : Option V) (ws : List Str), σ = [some (.ref st), some (.int m), some (.ref l), u3] ∧ KS st H H2 ∧ H2 l = some (.lst (ws.map V.str)) ∧ ws.Nodup ∧ ws.length = i ∧ ∀ x ∈ ws, Wd x)
    ⟨none, [], rfl, KS.of s0 hst, upd_same, List.nodup_nil, rfl, fun x h => (nomatch h)⟩ ?_ ?_⟩
  · rintro i σ H2 hi ⟨u3, ws, rfl, t2, h2, nd, wl, wd⟩
    obtain ⟨n2, hn2⟩ := t2.n
    have nl := st_ne hn2 h2
    refine ⟨_, rfl, .inl ⟨rfl, _, SqL.of h2⟩, _, rfl, _, rfl, st, l, n2, ws, rfl, hn2, h2, by omega, wd, fun x H3 s3 nx wx => ?_⟩
    have h3 := s3.k _ _ nl h2
    have t3 := t2.trans s3
    refine ⟨l, _, _, rfl, rfl, h3, small1000 (by rw [List.length_map]; omega), _, ws ++ [x], rfl, ⟨fun b o nb hb => by rw [upd_ne (fun e => by rw [e, hl] at hb; cases hb)]; exact t3.k b o nb hb, ?_⟩, by rw [upd_same, List.map_append]; rfl, ?_, by rw [List.length_append, wl]; rfl, fun y hy => ?_⟩
    · obtain ⟨n3, hn3⟩ := t3.n
      exact ⟨n3, by rw [upd_ne (Ne.symm nl)]; exact hn3⟩
    · rw [List.nodup_append]
      exact ⟨nd, by simp, fun a ha b hb e => nx (by have : b = x := by simpa using hb
                                                    exact this ▸ e ▸ ha)⟩
    · rcases List.mem_append.mp hy with hy | hy
      · exact wd y hy
      · have : y = x := by simpa using hy
        exact this ▸ wx
  · rintro σ H2 ⟨u3, ws, rfl, t2, h2, nd, wl, wd⟩
    exact ⟨_, rfl, q l ws H2 t2 hl h2 nd (by omega) wd⟩
theorem scVl : FnScope ["_law_cell_here", "_law_far"] ["_law_cell_here"] (defScope sValues) := ⟨rfl, rfl, rfl, by decide +kernel, rfl, by decide +kernel, by decide +kernel⟩
theorem big60 : (0 : Int) < 2 * 10 ^ (60 : Int).toNat - 1 := by decide +kernel
theorem ok_values (Fn : Fun K "_law_values" "_law_values" sValues f fd) : FnOk P w K mg base CX0 1 f fd ["_law_cell_here"] spValues := by
  refine Fn.ok scVl (fun vs H Q E h => ?_) (fun cdv A outer s H vs Q E hr h => ?_)
  · obtain ⟨c, rfl, _⟩ := h
    rfl
  obtain ⟨c, rfl, q⟩ := h
  refine ⟨_, pss_cons (ps_set (i := 1) scVl.nd rfl (Or.inl rfl) (pe_op op_sub (pe_op op_mod (pv 0) (pe_op op_sub (pe_op op_mul pe_int (pe_op op_pow pe_int pe_int)) pe_int)) (pe_op op_sub (pe_op op_pow pe_int pe_int) pe_int)))
    (pss_one (ps_ret (pe_lst (pa_cons pe_int (pa_cons pe_int (pa_cons (pe_un un_neg pe_int) (pa_cons (pv 1) (pa_cons (pe_op op_sub (pe_op op_sub (pe_op op_pow pe_int pe_int) pe_int) (pe_op op_mod (pv 0) pe_int)) (pa_cons (pe_op op_mod (pv 0) pe_int) (pa_cons (pe_op op_sub pe_int (pe_op op_pow pe_int pe_int)) pa_nil)))))))))), ?_⟩
  refine ⟨_, rfl, _, _, rfl, rfl, ⟨by decide, by decide, by decide⟩, _, _, rfl, rfl, .inl ⟨by decide, by decide⟩, _, _, rfl, rfl, _, _, rfl, rfl, big60, _, _, rfl, rfl, ⟨by decide, by decide, by decide⟩, _, _, rfl, rfl, _, _, rfl, rfl, ?_⟩
  refine ⟨_, rfl, _, rfl, _, _, rfl, rfl, ⟨by decide, by decide, by decide⟩, _, _, rfl, rfl, _, rfl, _, _, rfl, rfl, (by show (0 : Int) < 3; decide), _, _, rfl, rfl, _, rfl, _, _, rfl, rfl, (by show (0 : Int) < 7; decide), _, _, rfl, rfl, ⟨by decide, by decide, by decide⟩, _, _, rfl, rfl, small (by simp), fun l hl => ?_⟩
  exact q l [_, _, _, _, _, _, _] hl rfl
theorem scCe : FnScope ["_law_state", "_law_gaps", "_law_values_here"] ["_law_state", "_law_gaps", "_law_values_here"] (defScope sCell) := ⟨rfl, rfl, rfl, by decide +kernel, rfl, by decide +kernel, by decide +kernel⟩
theorem ok_cell (Fn : Fun K "_law_cell" "_law_cell" sCell f fd) (X : Txt mg) (C0 : Cal P w K mg base "_law_draw" 1 ["_law_state", "_law_many"] spDraw) : FnOk P w K mg base CX0 2 f fd ["_law_state", "_law_gaps", "_law_values_here"] spCell := by
  obtain ⟨f0, d0, G0, b0, k0, m0⟩ := C0
  refine Fn.ok (k := 1) scCe (fun vs H Q E h => ?_) (fun cdv A outer s H vs Q E hr h => ?_)
  · obtain ⟨st, ga, va, n, gs, ns, rfl, _⟩ := h
    rfl
  obtain ⟨st, ga, va, n, gs, ns, rfl, hst, hga, gl, hva, npos, nl, nva, q⟩ := h
  have hu8 := hu8_of hr
  have ne := st_ne hst hga
  refine ⟨_, pss_cons (ps_if (PW.pt (pw_and (pt_cmpR (op_ne_nil hu8) (pv 1) (pe_lst pa_nil) (nomark _)) (pw_and1 (pt_cmpR op_eq (pe_call G0 hr rfl m0 k0 b0 .nil pass0 (pa_cons (pv 0) (pa_cons pe_int pa_nil))) pe_int (nomark _)))))
      (pss_one (ps_ret (pe_ix ix_list (pv 1) (pe_call G0 hr rfl m0 k0 b0 .nil pass0 (pa_cons (pv 0) (pa_cons (pe_callB call_len_seq rfl X.len PySem.boot_len (pa_cons (pv 1) pa_nil)) pa_nil))) (fun _ _ => rfl)))) pss_nil)
    (pss_one (ps_ret (pe_ix ix_list (pv 2) (pe_call G0 hr rfl m0 k0 b0 .nil pass0 (pa_cons (pv 0) (pa_cons (pe_callB call_len_seq rfl X.len PySem.boot_len (pa_cons (pv 2) pa_nil)) pa_nil))) (fun _ _ => rfl)))), ?_⟩
  refine ⟨_, rfl, small (by simp), fun e0 he0 => ?_⟩
  have s2 := same_new he0 (.lst [])
  have h2 := upd_same (H := H) (a := e0) (o := .lst [])
  generalize upd H e0 (.lst []) = H2 at s2 h2 ⊢
  have t2 : KS st H H2 := KS.of s2 hst
  refine ⟨ga, e0, _, rfl, rfl, SqL.of (s2 _ _ hga), SqL.of h2, _, rfl, ?_⟩
  have val : ∀ H', KS st H H' → ∃ v, [some (V.ref st), some (.ref ga), some (.ref va)][2]? = some (some v) ∧ ∃ v0, [some (V.ref st), some (.ref ga), some (.ref va)][0]? = some (some v0) ∧ ∃ v2, [some (V.ref st), some (.ref ga), some (.ref va)][2]? = some (some v2) ∧ ∃ p ys, [v2] = [V.ref p] ∧ (SqL K H' p ys ∨ SqT K H' p ys) ∧ spDraw [v0, .int (ys.length : Nat)] H' (fun i H'' => ∃ (a : Addr) (xs : List V) (j : Int) (u : V), v = .ref a ∧ i = .int j ∧ SqL K H'' a xs ∧ atI xs j = some u ∧ Q u H'') (fun _ _ _ => False) := fun H' t' => by
    have hva' := t'.k _ _ nva hva
    obtain ⟨n', hn'⟩ := t'.n
    refine ⟨_, rfl, _, rfl, _, rfl, va, _, rfl, .inl (SqL.of hva'), st, n', _, rfl, by rw [List.length_map]; omega, hn', fun z H3 s3 a1 a2 => ?_⟩
    obtain ⟨v, hv, ev⟩ := atN (ss := ns.map V.int) a1 a2
    obtain ⟨x, hx, rfl⟩ := List.mem_map.mp hv
    refine ⟨va, _, _, _, rfl, rfl, SqL.of (s3.k _ _ nva hva'), ev, q (Sum.inl x) H3 (t'.trans s3) (List.mem_append_right _ (List.mem_map.mpr ⟨x, hx, rfl⟩))⟩
  cases hem : (gs.map V.str).isEmpty with
  | true => exact iteF (iteF (val H2 t2))
  | false =>
  have gpos : 0 < gs.length := by
    cases gs with
    | nil => cases hem
    | cons _ _ => exact Nat.succ_pos _
  obtain ⟨n2, hn2⟩ := t2.n
  refine iteT ⟨_, rfl, st, n2, 2, rfl, by decide, hn2, fun z2 H3 s3 b1' b2' => ?_⟩
  have t3 := t2.trans s3
  refine ⟨rfl, _, rfl, ite2 (fun _ => ?_) (fun _ => val H3 t3)⟩
  have hga3 := t3.k _ _ ne hga
  obtain ⟨n3, hn3⟩ := t3.n
  refine ⟨_, rfl, _, rfl, _, rfl, ga, _, rfl, .inl (SqL.of hga3), st, n3, _, rfl, by rw [List.length_map]; omega, hn3, fun z3 H4 s4 a1 a2 => ?_⟩
  obtain ⟨v, hv, ev⟩ := atN (ss := gs.map V.str) a1 a2
  obtain ⟨x, hx, rfl⟩ := List.mem_map.mp hv
  exact ⟨ga, _, _, _, rfl, rfl, SqL.of (s4.k _ _ ne hga3), ev, q (Sum.inr x) H4 (t3.trans s4) (List.mem_append_left _ (List.mem_map.mpr ⟨x, hx, rfl⟩))⟩
end
end K31
set_option maxHeartbeats 4000000
namespace K31
open PySem L2 CD
/-! ### the law's own trees -/
mutual
def nodes : Cd → Nat
  | .truth _ => 1
  | .same _ _ => 1
  | .all l => nodesL l + 1
  | .one l => nodesL l + 1
  | .opp c => nodes c + 1
def nodesL : List Cd → Nat
  | [] => 0
  | c :: r => nodes c + nodesL r
end
theorem nodes_pos : ∀ c : Cd, 0 < nodes c
  | .truth _ => by simp [nodes]
  | .same _ _ => by simp [nodes]
  | .all _ => by simp [nodes]
  | .one _ => by simp [nodes]
  | .opp _ => by simp [nodes]
theorem nodesL_app : ∀ l m : List Cd, nodesL (l ++ m) = nodesL l + nodesL m
  | [], m => by simp [nodesL]
  | c :: r, m => by simp only [List.cons_append, nodesL, nodesL_app r m]; omega
theorem cellsL_app : ∀ l m : List Cd, cellsL (l ++ m) = cellsL l ++ cellsL m
  | [], m => by simp [cellsL]
  | c :: r, m => by simp only [List.cons_append, cellsL, cellsL_app r m, List.append_assoc]
theorem nodesL_len : ∀ l : List Cd, l.length ≤ nodesL l
  | [] => Nat.zero_le _
  | c :: r => by
    have := nodes_pos c
    have := nodesL_len r
    simp only [List.length_cons, nodesL]; omega
theorem nodesL_mem {c : Cd} : ∀ {l : List Cd}, c ∈ l → nodes c ≤ nodesL l
  | d :: r, h => by
    rcases List.mem_cons.mp h with rfl | h
    · simp only [nodesL]; omega
    · have := nodesL_mem h
      simp only [nodesL]; omega
mutual
def IsT (H : Hp) : Cd → V → Prop
  | .truth b, v => ∃ a, v = .ref a ∧ H a = some (.tup [.str "truth", .bl b])
  | .same x y, v => ∃ a, v = .ref a ∧ H a = some (.tup [.str "same", kV x, kV y])
  | .all l, v => ∃ a p xs, v = .ref a ∧ H a = some (.tup [.str "all", .ref p]) ∧ H p = some (.lst xs) ∧ IsTL H l xs
  | .one l, v => ∃ a p xs, v = .ref a ∧ H a = some (.tup [.str "one", .ref p]) ∧ H p = some (.lst xs) ∧ IsTL H l xs
  | .opp c, v => ∃ a u, v = .ref a ∧ H a = some (.tup [.str "not", u]) ∧ IsT H c u
def IsTL (H : Hp) : List Cd → List V → Prop
  | [], xs => xs = []
  | c :: r, xs => ∃ x ys, xs = x :: ys ∧ IsT H c x ∧ IsTL H r ys
end
mutual
theorem IsT.keep {H H' : Hp} (s : Same H H') : ∀ {c : Cd} {v : V}, IsT H c v → IsT H' c v
  | .truth b, v, h => by
    simp only [IsT] at h ⊢
    obtain ⟨a, e1, e2⟩ := h
    exact ⟨a, e1, s _ _ e2⟩
  | .same x y, v, h => by
    simp only [IsT] at h ⊢
    obtain ⟨a, e1, e2⟩ := h
    exact ⟨a, e1, s _ _ e2⟩
  | .all l, v, h => by
    simp only [IsT] at h ⊢
    obtain ⟨a, p, xs, e1, e2, e3, e4⟩ := h
    exact ⟨a, p, xs, e1, s _ _ e2, s _ _ e3, IsTL.keep s e4⟩
  | .one l, v, h => by
    simp only [IsT] at h ⊢
    obtain ⟨a, p, xs, e1, e2, e3, e4⟩ := h
    exact ⟨a, p, xs, e1, s _ _ e2, s _ _ e3, IsTL.keep s e4⟩
  | .opp c, v, h => by
    simp only [IsT] at h ⊢
    obtain ⟨a, u, e1, e2, e3⟩ := h
    exact ⟨a, u, e1, s _ _ e2, IsT.keep s e3⟩
theorem IsTL.keep {H H' : Hp} (s : Same H H') : ∀ {l : List Cd} {xs : List V}, IsTL H l xs → IsTL H' l xs
  | [], xs, h => h
  | c :: r, xs, h => by
    simp only [IsTL] at h ⊢
    obtain ⟨x, ys, e, h1, h2⟩ := h
    exact ⟨x, ys, e, IsT.keep s h1, IsTL.keep s h2⟩
end
theorem isTL_len {H : Hp} : ∀ {l : List Cd} {xs : List V}, IsTL H l xs → l.length = xs.length
  | [], xs, h => by simp only [IsTL] at h; subst h; rfl
  | c :: r, xs, h => by
    simp only [IsTL] at h
    obtain ⟨y, ys, rfl, _, h2⟩ := h
    simp [isTL_len h2]
theorem isTL_get {H : Hp} : ∀ {l : List Cd} {xs : List V} {i : Nat} {x : V}, IsTL H l xs → xs[i]? = some x → ∃ c, l[i]? = some c ∧ IsT H c x
  | [], xs, i, x, h, e => by simp only [IsTL] at h; subst h; simp at e
  | c :: r, xs, 0, x, h, e => by
    simp only [IsTL] at h
    obtain ⟨y, ys, rfl, h1, h2⟩ := h
    simp at e; subst e
    exact ⟨c, rfl, h1⟩
  | c :: r, xs, i + 1, x, h, e => by
    simp only [IsTL] at h
    obtain ⟨y, ys, rfl, h1, h2⟩ := h
    obtain ⟨d, h3, h4⟩ := isTL_get h2 (i := i) (x := x) (by simpa using e)
    exact ⟨d, by simpa using h3, h4⟩
theorem isTL_snoc {H : Hp} {c : Cd} {x : V} : ∀ {l : List Cd} {xs : List V}, IsTL H l xs → IsT H c x → IsTL H (l ++ [c]) (xs ++ [x])
  | [], xs, h, h' => by simp only [IsTL] at h; subst h; simp only [List.nil_append, IsTL]; exact ⟨x, [], rfl, h', rfl⟩
  | d :: r, xs, h, h' => by
    simp only [IsTL] at h
    obtain ⟨y, ys, rfl, h1, h2⟩ := h
    simp only [List.cons_append, IsTL]
    exact ⟨y, ys ++ [x], rfl, h1, isTL_snoc h2 h'⟩
theorem depthL_ge {c : Cd} {l : List Cd} (h : c ∈ l) : depth c ≤ depthL l := depthL_le.mp (Nat.le_refl _) c h
/-- what is new -/
def nw (H H' : Hp) : Hp := fun a => if (H a).isNone = true then H' a else none
theorem nw_some {H H' : Hp} {a : Addr} {o : HO} (h : nw H H' a = some o) : H a = none ∧ H' a = some o := by
  unfold nw at h
  by_cases z : (H a).isNone = true
  · rw [if_pos z] at h
    exact ⟨Option.isNone_iff_eq_none.mp z, h⟩
  · rw [if_neg z] at h
    cases h
theorem nw_mk {H H' : Hp} {a : Addr} {o : HO} (h1 : H a = none) (h2 : H' a = some o) : nw H H' a = some o := by
  unfold nw
  rw [if_pos (by rw [h1]; rfl)]
  exact h2
theorem nw_same (H H' : Hp) : Same (nw H H') H' := fun a o h => (nw_some h).2
theorem nw_ks {H H1 H2 : Hp} {st : Addr} {o : HO} (h : H st = some o) (k : KS st H1 H2) : Same (nw H H1) (nw H H2) := fun a p ha => by
  obtain ⟨h1, h2⟩ := nw_some ha
  exact nw_mk h1 (k.k _ _ (fun e => by rw [e, h] at h1; cases h1) h2)
theorem nw_s {H H1 H2 : Hp} (k : Same H1 H2) : Same (nw H H1) (nw H H2) := fun a p ha => by
  obtain ⟨h1, h2⟩ := nw_some ha
  exact nw_mk h1 (k _ _ h2)
theorem nw_upd {H H1 : Hp} {D : Addr} {o o' : HO} (h : H D = some o) : Same (nw H H1) (nw H (upd H1 D o')) := fun a p ha => by
  obtain ⟨h1, h2⟩ := nw_some ha
  exact nw_mk h1 (by rw [upd_ne (fun e => by rw [e, h] at h1; cases h1)]; exact h2)
theorem KS.back {st : Addr} {H H1 : Hp} (k : KS st H H1) {a : Addr} (h : H1 a = none) : H a = none := by
  cases e : H a with
  | none => rfl
  | some o =>
    by_cases z : a = st
    · obtain ⟨n, hn⟩ := k.n
      rw [z, hn] at h
      cases h
    · rw [k.k _ _ z e] at h
      cases h
theorem nw_out {H H1 H2 : Hp} (k : ∀ a, H1 a = none → H a = none) : Same (nw H1 H2) (nw H H2) := fun a p ha => by
  obtain ⟨h1, h2⟩ := nw_some ha
  exact nw_mk (k a h1) h2
theorem same_back {H H1 : Hp} (s : Same H H1) {a : Addr} (h : H1 a = none) : H a = none := by
  cases e : H a with
  | none => rfl
  | some o => rw [s _ _ e] at h; cases h
/-- a drawn condition -/
def spCond (d : Nat) : Sp := fun vs H Q _ => ∃ (st ga va : Addr) (n : Int) (gs : List Str) (ns : List Int), vs = [.ref st, .ref ga, .ref va, .int (d : Nat)] ∧ H st = some (.lst [.int n]) ∧ H ga = some (.lst (gs.map V.str)) ∧ gs.length ≤ 20 ∧ H va = some (.lst (ns.map V.int)) ∧ 0 < ns.length ∧ ns.length ≤ 20 ∧ va ≠ st ∧
  ∀ (v : V) (H' : Hp) (c : Cd), KS st H H' → IsT (nw H H') c v → depth c ≤ d + 1 → nodes c ≤ 4 ^ d → (∀ k ∈ cells c, k ∈ poolK gs ns) → Q v H'
def spC : Nat → Sp
  | 0 => fun _ _ _ _ => False
  | d + 1 => spCond d
theorem pr4 {a b c : V} {e : Nat} : [a, b, c, V.int (((e + 1 : Nat) : Int) - 1)] = [a, b, c, V.int (e : Nat)] := by
  have : (((e + 1 : Nat) : Int) - 1) = (e : Int) := by omega
  rw [this]
section
variable {P : Program} {w : World} {K : PySem.W.Frag} {mg : Str → Option Value} {base : Heap} {f : Addr} {fd : FuncData}
abbrev nmC : List Str := ["_law_state", "_law_gaps", "_law_values_here", "_law_deep", "_law_way", "_law_parts", "_law_k"]
abbrev psC : List Str := ["_law_state", "_law_gaps", "_law_values_here", "_law_deep"]
theorem scCo : FnScope nmC psC (defScope sCondL) := ⟨rfl, rfl, rfl, by decide +kernel, rfl, by decide +kernel, by decide +kernel⟩
theorem ok_cond (Fn : Fun K "_law_cond" "_law_cond" sCondL f fd) (bd : Binds K fd psC []) (kp : PySem.W.keepIn K (.ref f) = true) (mm : mg "_law_cond" = some (.ref f)) (X : Txt mg)
    (C0 : Cal P w K mg base "_law_draw" 1 ["_law_state", "_law_many"] spDraw) (C1 : Cal P w K mg base "_law_cell" 2 ["_law_state", "_law_gaps", "_law_values_here"] spCell) : ∀ d, FnOk P w K mg base CX0 (3 + d) f fd psC (spC d)
  | 0 => ⟨fun vs H Q E h => h.elim, fun A outer s H args us vs Q E hr e0 hb r h => h.elim⟩
  | d + 1 => by
    have ih := ok_cond Fn bd kp mm X C0 C1 d
    obtain ⟨f0, d0, G0, b0, k0, m0⟩ := C0
    obtain ⟨f1, d1, G1, b1, k1, m1⟩ := C1
    refine Fn.ok (k := 3 + d) scCo (fun vs H Q E h => ?_) (fun cdv A outer s H vs Q E hr h => ?_)
    · obtain ⟨st, ga, va, n, gs, ns, rfl, _⟩ := h
      rfl
    obtain ⟨st, ga, va, n, gs, ns, rfl, hst, hga, gl, hva, npos, nl, nva, q⟩ := h
    have hr1 : Room 1 _ := hr.mono (by omega)
    have hr2 : Room 2 _ := hr.mono (by omega)
    have nga := st_ne hst hga
    refine ⟨_, pss_cons (ps_set (i := 4) scCo.nd rfl (Or.inl rfl) (pe_call G0 hr1 rfl m0 k0 b0 .nil pass0 (pa_cons (pv 0) (pa_cons pe_int pa_nil))))
      (pss_cons (ps_if (pt_cmpR op_eq (pv 4) pe_int (nomark _)) (pss_one (ps_ret (pe_tup (pa_cons pe_str (pa_cons (pe_cmpR op_eq (pe_call G0 hr1 rfl m0 k0 b0 .nil pass0 (pa_cons (pv 0) (pa_cons pe_int pa_nil))) pe_int (nomark _)) pa_nil))))) pss_nil)
      (pss_cons (ps_if (PW.pt (pw_or (pt_cmpR op_lt (pv 4) pe_int (nomark _)) (pw_or1 (pt_cmpR op_eq (pv 3) pe_int (nomark _)))))
        (pss_one (ps_ret (pe_tup (pa_cons pe_str (pa_cons (pe_call G1 hr2 rfl m1 k1 b1 .nil pass0 (pa_cons (pv 0) (pa_cons (pv 1) (pa_cons (pv 2) pa_nil)))) (pa_cons (pe_call G1 hr2 rfl m1 k1 b1 .nil pass0 (pa_cons (pv 0) (pa_cons (pv 1) (pa_cons (pv 2) pa_nil)))) pa_nil)))))) pss_nil)
      (pss_cons (ps_if (pt_cmpR op_eq (pv 4) pe_int (nomark _))
        (pss_one (ps_ret (pe_tup (pa_cons pe_str (pa_cons (pe_call ih hr rfl mm kp bd .nil pass0 (pa_cons (pv 0) (pa_cons (pv 1) (pa_cons (pv 2) (pa_cons (pe_op op_sub (pv 3) pe_int) pa_nil))))) pa_nil))))) pss_nil)
      (pss_cons (ps_set (i := 5) scCo.nd rfl (Or.inl rfl) (pe_lst pa_nil))
      (pss_cons (ps_for PassesOwn.never rfl (pi_range1 rfl X.range (pa_cons (pe_call G0 hr1 rfl m0 k0 b0 .nil pass0 (pa_cons (pv 0) (pa_cons pe_int pa_nil))) pa_nil)) (pg_name (i := 6) scCo.nd rfl (Or.inl rfl))
        (pss_one (ps_expr (pe_bm PySem.F.plainAttrs_list PySem.F.slot_list_append PySem.F.type_list_append mt_append (pv 5) (pa_cons (pe_call ih hr rfl mm kp bd .nil pass0 (pa_cons (pv 0) (pa_cons (pv 1) (pa_cons (pv 2) (pa_cons (pe_op op_sub (pv 3) pe_int) pa_nil))))) pa_nil)))))
      (pss_one (ps_ret (pe_tup (pa_cons (pe_ix ix_list (pe_lst (pa_cons pe_str (pa_cons pe_str pa_nil))) (pe_op op_mod (pv 4) pe_int) (fun _ _ => rfl)) (pa_cons (pv 5) pa_nil)))))))))), ?_⟩
    refine ⟨_, rfl, st, n, 9, rfl, by decide, hst, fun way H1 t1 a1 a2 => ?_⟩
    obtain ⟨n1, hn1⟩ := t1.n
    have hga1 := t1.k _ _ nga hga
    have hva1 := t1.k _ _ nva hva
    have p1 : 0 < 4 ^ d := Nat.pow_pos (by decide)
    refine ⟨_, rfl, rfl, _, rfl, ite2 (fun _ => ?_) (fun _ => ?_)⟩
    · refine ⟨_, rfl, st, n1, 2, rfl, by decide, hn1, fun z2 H2 t2 b1' b2' => ⟨rfl, small (by simp), fun a ha => ?_⟩⟩
      have s3 := same_new ha (.tup [.str "truth", .bl (decide (V.int z2 = V.int 0))])
      have t3 := t1.trans t2
      refine q _ _ (.truth (decide (V.int z2 = V.int 0))) (t3.same s3) ?_ (by simp only [depth]; omega) (by simp only [nodes]; omega) (by simp [cells])
      simp only [IsT]
      exact ⟨a, rfl, nw_mk (t3.back ha) upd_same⟩
    have sm : ∀ (x y : Key) (H3 : Hp), KS st H1 H3 → x ∈ poolK gs ns → y ∈ poolK gs ns → ∀ a, H3 a = none → Q (.ref a) (upd H3 a (.tup [.str "same", kV x, kV y])) := fun x y H3 t3 hx hy a ha => by
      have s4 := same_new ha (.tup [.str "same", kV x, kV y])
      have t4 := t1.trans t3
      refine q _ _ (.same x y) (t4.same s4) ?_ (by simp only [depth]; omega) (by simp only [nodes]; omega) (fun k hk => ?_)
      · simp only [IsT]
        exact ⟨a, rfl, nw_mk (t4.back ha) upd_same⟩
      · simp only [cells, List.mem_cons, List.not_mem_nil, or_false] at hk
        rcases hk with rfl | rfl
        · exact hx
        · exact hy
    refine ⟨_, rfl, _, _, rfl, rfl, _, rfl, ite2 (fun _ => iteT ?_) (fun _ => ?_)⟩
    · refine ⟨_, rfl, _, rfl, _, rfl, st, ga, va, n1, gs, ns, rfl, hn1, hga1, gl, hva1, npos, nl, nva, fun x H2 t2 hx => ?_⟩
      obtain ⟨n2, hn2⟩ := t2.n
      exact ⟨_, rfl, _, rfl, _, rfl, st, ga, va, n2, gs, ns, rfl, hn2, t2.k _ _ nga hga1, gl, t2.k _ _ nva hva1, npos, nl, nva, fun y H3 t3 hy => ⟨small (by simp), fun a ha => sm x y H3 (t2.trans t3) hx hy a ha⟩⟩
    refine ⟨_, rfl, rfl, _, rfl, ite2 (fun _ => ?_) (fun hd0 => ?_)⟩
    · refine ⟨_, rfl, _, rfl, _, rfl, st, ga, va, n1, gs, ns, rfl, hn1, hga1, gl, hva1, npos, nl, nva, fun x H2 t2 hx => ?_⟩
      obtain ⟨n2, hn2⟩ := t2.n
      exact ⟨_, rfl, _, rfl, _, rfl, st, ga, va, n2, gs, ns, rfl, hn2, t2.k _ _ nga hga1, gl, t2.k _ _ nva hva1, npos, nl, nva, fun y H3 t3 hy => ⟨small (by simp), fun a ha => sm x y H3 (t2.trans t3) hx hy a ha⟩⟩
    cases d with
    | zero => exact absurd (by decide) hd0
    | succ e =>
    have p4 : 4 ^ (e + 1) = 4 * 4 ^ e := by rw [Nat.pow_succ, Nat.mul_comm]
    have pe : 0 < 4 ^ e := Nat.pow_pos (by decide)
    refine ⟨_, rfl, rfl, _, rfl, ite2 (fun _ => ?_) (fun _ => ?_)⟩
    · refine ⟨_, rfl, _, rfl, _, rfl, _, rfl, _, _, rfl, rfl, st, ga, va, n1, gs, ns, pr4, hn1, hga1, gl, hva1, npos, nl, nva, fun u H2 c t2 hT hdp hnd hcl => ⟨small (by simp), fun a ha => ?_⟩⟩
      have s3 := same_new ha (.tup [.str "not", u])
      have t3 := t1.trans t2
      refine q _ _ (.opp c) (t3.same s3) ?_ (by simp only [depth]; omega) (by simp only [nodes]; omega) (by simpa only [cells] using hcl)
      simp only [IsT]
      exact ⟨a, u, rfl, nw_mk (t3.back ha) upd_same, hT.keep ((nw_out fun b h => t1.back h).trans (nw_s s3))⟩
    refine ⟨small (by simp), fun D hD => ?_⟩
    have s0 := same_new hD (.lst [])
    have hDD := upd_same (H := H1) (a := D) (o := .lst [])
    have nD : D ≠ st := fun e => by rw [e, hn1] at hD; cases hD
    have back0 : ∀ a, a ≠ D → upd H1 D (.lst []) a = H1 a := fun a h => upd_ne h
    generalize upd H1 D (.lst []) = HD at s0 hDD back0 ⊢
    have hnD := s0 _ _ hn1
    refine ⟨_, rfl, st, n1, 4, rfl, by decide, hnD, fun m H3 t3 m0 m4 => ⟨_, rfl, by omega, by omega, for_range (lo := 0) (n := m.toNat) (fun i σ H2 => ∃ (u6 : Option V) (xs : List V) (l : List Cd), σ = [some (.ref st), some (.ref ga), some (.ref va), some (.int ((e + 1 : Nat) : Int)), some (.int way), some (.ref D), u6] ∧ KS st H1 H2 ∧ H2 D = some (.lst xs) ∧ IsTL (nw HD H2) l xs ∧ depthL l ≤ e + 1 ∧ nodesL l ≤ i * 4 ^ e ∧ l.length = i ∧ ∀ k ∈ cellsL l, k ∈ poolK gs ns)
      ⟨none, [], [], rfl, (KS.of s0 hn1).trans t3, t3.k _ _ nD hDD, by simp only [IsTL], by simp [depthL], by simp [nodesL], rfl, by simp [cellsL]⟩ ?_ ?_⟩⟩
    · rintro i σ H2 hi ⟨u6, xs, l, rfl, t2, h2, hL, dL, nL, lL, cL⟩
      obtain ⟨n2, hn2⟩ := t2.n
      refine ⟨_, rfl, .inl ⟨rfl, _, SqL.of h2⟩, _, rfl, _, rfl, _, rfl, _, rfl, _, _, rfl, rfl, st, ga, va, n2, gs, ns, pr4, hn2, t2.k _ _ nga hga1, gl, t2.k _ _ nva hva1, npos, nl, nva, fun u H4 c t4 hT hdp hnd hcl => ?_⟩
      have h4 := t4.k _ _ nD h2
      have t5 := t2.trans t4
      refine ⟨D, _, _, rfl, rfl, h4, small1000 (by rw [← isTL_len hL]; omega), _, xs ++ [u], l ++ [c], rfl, ⟨fun b o nb hb => by rw [upd_ne (fun e => by rw [e, hD] at hb; cases hb)]; exact t5.k b o nb hb, ?_⟩, upd_same, ?_, ?_, ?_, by rw [List.length_append, lL]; rfl, ?_⟩
      · obtain ⟨n5, hn5⟩ := t5.n
        exact ⟨n5, by rw [upd_ne (Ne.symm nD)]; exact hn5⟩
      · refine isTL_snoc (hL.keep ((nw_ks hnD t4).trans (nw_upd hDD))) (hT.keep ((nw_out fun b h => ?_).trans (nw_upd hDD)))
        by_cases z : b = D
        · rw [z, h2] at h
          cases h
        · rw [back0 b z]
          exact t2.back h
      · exact depthL_le.mpr fun x hx => by
          rcases List.mem_append.mp hx with hx | hx
          · exact Nat.le_trans (depthL_ge hx) dL
          · have : x = c := by simpa using hx
            rw [this]; exact hdp
      · rw [nodesL_app, Nat.succ_mul]
        simp only [nodesL]
        omega
      · intro k hk
        rw [cellsL_app] at hk
        rcases List.mem_append.mp hk with hk | hk
        · exact cL k hk
        · simp only [cellsL, List.append_nil] at hk
          exact hcl k hk
    · rintro σ H2 ⟨u6, xs, l, rfl, t2, h2, hL, dL, nL, lL, cL⟩
      have t6 := t1.trans t2
      have m3 : m.toNat * 4 ^ e ≤ 3 * 4 ^ e := Nat.mul_le_mul_right _ (by omega)
      have hD0 := t1.back hD
      refine ⟨small (by simp), fun L hLn => ⟨_, rfl, _, _, rfl, rfl, (by show (0 : Int) < 2; decide), ?_⟩⟩
      have s7 := same_new hLn (.lst [.str "all", .str "one"])
      have h7 := upd_same (H := H2) (a := L) (o := .lst [.str "all", .str "one"])
      generalize upd H2 L (.lst [.str "all", .str "one"]) = H7 at s7 h7 ⊢
      have t7 := t6.same s7
      have hL7 := hL.keep (((nw_out (H := H) fun b h => same_back s0 h |> t1.back)).trans (nw_s s7))
      rcases at2 (z := way % 2) (Int.emod_nonneg _ (by decide)) (Int.emod_lt_of_pos _ (by decide)) (.str "all") (.str "one") with ev | ev
      · refine ⟨L, _, _, _, rfl, rfl, SqL.of h7, ev, _, rfl, small (by simp), fun a ha => ?_⟩
        have s8 := same_new ha (.tup [.str "all", .ref D])
        refine q _ _ (.all l) (t7.same s8) ?_ (by simp only [depth]; omega) (by simp only [nodes]; omega) (by simpa only [cells] using cL)
        simp only [IsT]
        exact ⟨a, D, xs, rfl, nw_mk (t7.back ha) upd_same, nw_mk hD0 (s8 _ _ (s7 _ _ h2)), hL7.keep (nw_s s8)⟩
      · refine ⟨L, _, _, _, rfl, rfl, SqL.of h7, ev, _, rfl, small (by simp), fun a ha => ?_⟩
        have s8 := same_new ha (.tup [.str "one", .ref D])
        refine q _ _ (.one l) (t7.same s8) ?_ (by simp only [depth]; omega) (by simp only [nodes]; omega) (by simpa only [cells] using cL)
        simp only [IsT]
        exact ⟨a, D, xs, rfl, nw_mk (t7.back ha) upd_same, nw_mk hD0 (s8 _ _ (s7 _ _ h2)), hL7.keep (nw_s s8)⟩
end
end K31
set_option maxHeartbeats 4000000
namespace K31
open PySem L2 CD
theorem Has.keep {H H' : Hp} {d : Addr} {f : Str → Int} {ks : List Key} (s : Same H H') (h : Has H d f ks) : Has H' d f ks := by
  obtain ⟨kvs, h1, h2⟩ := h
  exact ⟨kvs, s _ _ h1, h2⟩
/-! ### whether a tree holds, by the law's own words -/
theorem bl_flat (bs : List Bool) : (bs.map V.bl).all flatV = true := by
  rw [List.all_eq_true]
  intro x hx
  obtain ⟨o, _, rfl⟩ := List.mem_map.mp hx
  rfl
theorem inV_bls (bs : List Bool) (b : Bool) : inV (.bl b) (bs.map V.bl) = decide (b ∈ bs) := by
  unfold inV
  rw [List.any_map, Bool.eq_iff_iff, List.any_eq_true, decide_eq_true_iff]
  constructor
  · rintro ⟨c, hc, e⟩
    have e' : (c == b) = true := e
    exact beq_iff_eq.mp e' ▸ hc
  · intro h
    exact ⟨b, h, by show (b == b) = true; simp⟩
def spLHolds (d : Nat) : Sp := fun args H Q _ => ∃ (v : V) (c : Cd) (dd : Addr) (fl : Str → Int), args = [v, .ref dd] ∧ IsT H c v ∧ depth c ≤ d ∧ nodes c ≤ 41 ∧ Has H dd fl (cells c) ∧ ∀ H', Same H H' → Q (.bl (ev fl c)) H'
def spMade (T : Cl) (d : Nat) : Sp := fun vs H Q _ => ∃ (v : V) (c : Cd) (pool : List Key), vs = [v] ∧ IsT H c v ∧ depth c ≤ d ∧ depth c ≤ 20 ∧ nodes c ≤ 41 ∧ pool.length ≤ 40 ∧ (∀ k ∈ cells c, k ∈ pool) ∧ ∀ (v' : V) (H' : Hp), Same H H' → IsC T H' c v' → Q v' H'
theorem ndH : (["_law_one", "_law_filling"] : List Str).Nodup := by decide +kernel
section
variable {P : Program} {w : World} {K : PySem.W.Frag} {mg : Str → Option Value} {base : Heap} {f : Addr} {fd : FuncData} {T : Cl}
theorem scAt : FnScope ["_law_cell_here", "_law_filling"] ["_law_cell_here", "_law_filling"] (defScope sAt) := ⟨rfl, rfl, rfl, by decide +kernel, rfl, by decide +kernel, by decide +kernel⟩
theorem ok_at (F : Fun K "_law_at" "_law_at" sAt f fd) (T : Txt mg) : FnOk P w K mg base CX0 1 f fd ["_law_cell_here", "_law_filling"] spCellV := by
  refine F.ok scAt (fun vs H Q E h => ?_) (fun cdv A outer s H vs Q E hr h => ?_)
  · obtain ⟨k, d, f, rfl, _⟩ := h
    rfl
  obtain ⟨k, d, fl, rfl, ⟨kvs, hd, hk⟩, q⟩ := h
  have hu := hu_of hr
  refine ⟨_, pss_cons (ps_if (pt_val (pe_callB call_isi rfl T.isi PyProof.Rows.boot_isinstance (pa_cons (pv 0) (pa_cons (pe_bltn (v := .ty "str") rfl T.str PyProof.Rows.boot_str rfl) pa_nil)))) (pss_one (ps_ret (pe_dget hu (pv 1) (pv 0) (fun _ _ => rfl)))) pss_nil)
    (pss_one (ps_ret (pv 0))), ?_⟩
  refine ⟨_, rfl, _, _, _, _, _, rfl, rel_ty, ty_key k, kit_key K k, _, rfl, ?_⟩
  cases k with
  | inl i => exact iteF ⟨_, rfl, q⟩
  | inr x =>
    refine iteT ⟨_, rfl, _, rfl, d, _, rfl, ?_, q⟩
    have e : valV kvs (Sum.inr x : Key) = some (.int (come fl (Sum.inr x))) := hk x (by simp)
    rw [← e]
    exact DGet.k (k := Sum.inr x) hd
theorem scLH : FnScope ["_law_cond_here", "_law_filling", "_law_held"] ["_law_cond_here", "_law_filling"] (defScope sHolds) := ⟨rfl, rfl, rfl, by decide +kernel, rfl, by decide +kernel, by decide +kernel⟩
theorem lh_tail {cdv : Value} {A : Around} {outer : List Env} {s : Shared} {H0 : Hp} {E : XK} {d n : Nat} (hr : Room n (A.deeper (PyProof.Rows.envOfC "_law_holds" (defScope sHolds) s.heap.objs.size f cdv))) (ih : FnOk P w K mg base CX0 n f fd ["_law_cond_here", "_law_filling"] (spLHolds d)) (bd : Binds K fd ["_law_cond_here", "_law_filling"] []) (kp : PySem.W.keepIn K (.ref f) = true) (mm : mg "_law_holds" = some (.ref f)) :
    ∃ t, PSs (cxOf CX0 P w K mg base ["_law_cond_here", "_law_filling", "_law_held"] "_law_holds" (defScope sHolds) f cdv A outer s H0 E).nox ((defBody sHolds).drop 3) t ∧
      ∀ (Q : VK) (H : Hp) (a p dd : Addr) (tag : Str) (b : Bool) (l : List Cd) (zs : List V) (fl : Str → Int), decide (V.str tag = V.str "all") = b → H a = some (.tup [.str tag, .ref p]) → H p = some (.lst zs) → IsTL H l zs → depthL l ≤ d → nodesL l ≤ 40 → Has H dd fl (cellsL l) →
        (∀ H', Same H H' → Q (.bl (if b = true then l.all (ev fl) else l.any (ev fl))) H') →
        t { nx := fun _ H' => Q .non H', rt := Q } [some (.ref a), some (.ref dd), none] H := by
  refine ⟨_, pss_cons (ps_setLC (i := 2) ["_law_one"] (caps := [("_law_filling", 1)]) rfl scLH.nd rfl rfl (pi_list (pe_ix ix_tup (pv 0) pe_int (fun _ _ => rfl))) ⟨rfl, by decide +kernel, by decide +kernel, rfl, .cons rfl (.inl rfl) rfl .nil, rfl, rfl, rfl⟩
      (fun s H ex => pg_name (X := cxLG _ _ _ _ s H ex) (i := 0) ndH rfl (Or.inl rfl) (.inr rfl)) (fun s H ex => pif_nil)
      (fun s H ex => pe_call (X := cxLG _ _ _ _ s H ex) ih hr rfl mm kp bd .nil pass0 (pa_cons (pe_var (X := cxLG _ _ _ _ s H ex) (i := 0) rfl (Or.inl rfl)) (pa_cons (pe_var (X := cxLG _ _ _ _ s H ex) (i := 1) rfl (Or.inr (Or.inl rfl))) pa_nil))) rfl)
    (pss_cons (ps_if (pt_cmpR op_eq (pe_ix ix_tup (pv 0) pe_int (fun _ _ => rfl)) pe_str (nomark _)) (pss_one (ps_ret (pe_not (pe_cmpR op_in_seq pe_bl (pv 2) rfl)))) pss_nil)
    (pss_one (ps_ret (pe_cmpR op_in_seq pe_bl (pv 2) rfl)))), ?_⟩
  intro Q H a p dd tag b l zs fl hb ha hp hTL hd hn hdd q
  refine ⟨_, rfl, a, _, _, _, rfl, rfl, SqT.of ha, rfl, p, rfl, ⟨_, SqL.of hp⟩, fun D hD => ?_⟩
  have len := isTL_len hTL
  have nl := nodesL_len l
  refine lcg_listR (K := K) (a := p) (xs := zs) (fun i σ H2 => ∃ (u : Option V), σ = [u, some (.ref dd)] ∧ Same H H2 ∧ H2 D = some (.lst (((l.take i).map (ev fl)).map V.bl)))
    ⟨none, rfl, same_new hD _, upd_same⟩ (fun i σ H2 _ ⟨_, _, s2, _⟩ => SqL.of (s2 _ _ hp)) ?_ ?_
  · rintro i x σ H2 hi ⟨u, rfl, s2, h2⟩
    obtain ⟨c', hc', hC'⟩ := isTL_get hTL hi
    have cm := List.mem_of_getElem? hc'
    have dc := Nat.le_trans (depthL_ge cm) hd
    have n1 := nodesL_mem cm
    refine ⟨_, rfl, _, rfl, x, c', dd, fl, rfl, (hC'.keep s2), dc, by omega, Has.keep s2 (Has.sub hdd fun k hk => cellsL_mem.mpr ⟨c', cm, hk⟩), fun H3 s3 => ?_⟩
    refine ⟨_, s3 _ _ h2, ?_, _, rfl, same_upd (s2.trans s3) hD _, ?_⟩
    · rw [List.length_map, List.length_map, List.length_take]
      exact small1000 (by omega)
    · rw [upd_same, take_snoc hc', List.map_append, List.map_append]; rfl
  rintro σ H2 ⟨u, rfl, s2, h2⟩
  rw [← len, List.take_length] at h2
  have qq := q H2 s2
  refine ⟨_, rfl, a, _, _, _, rfl, rfl, SqT.of (s2 _ _ ha), rfl, rfl, _, rfl, ?_⟩
  rw [hb]
  cases b with
  | true =>
    refine iteT ⟨_, rfl, D, _, rfl, .inl (SqL.of h2), rfl, bl_flat _, _, rfl, ?_⟩
    rw [if_neg Bool.false_ne_true, inV_bls]
    rw [if_pos rfl] at qq
    have e : (!decide (false ∈ l.map (ev fl))) = l.all (ev fl) := by
      rw [Bool.eq_iff_iff, Bool.not_eq_true', decide_eq_false_iff_not, List.all_eq_true]
      constructor
      · intro hn c hc'
        cases hv : ev fl c with
        | true => rfl
        | false => exact absurd (List.mem_map.mpr ⟨c, hc', hv⟩) hn
      · intro ha' hm
        obtain ⟨c, hc', hv⟩ := List.mem_map.mp hm
        rw [ha' c hc'] at hv
        cases hv
    rw [e]
    exact qq
  | false =>
    refine iteF ⟨_, rfl, D, _, rfl, .inl (SqL.of h2), rfl, bl_flat _, ?_⟩
    rw [if_neg Bool.false_ne_true, inV_bls]
    rw [if_neg Bool.false_ne_true] at qq
    have e : decide (true ∈ l.map (ev fl)) = l.any (ev fl) := by
      rw [Bool.eq_iff_iff, decide_eq_true_iff, List.any_eq_true, List.mem_map]
    rw [e]
    exact qq
theorem ok_lholds (Fn : Fun K "_law_holds" "_law_holds" sHolds f fd) (bd : Binds K fd ["_law_cond_here", "_law_filling"] []) (kp : PySem.W.keepIn K (.ref f) = true) (mm : mg "_law_holds" = some (.ref f))
    (C1 : Cal P w K mg base "_law_at" 1 ["_law_cell_here", "_law_filling"] spCellV) : ∀ d, FnOk P w K mg base CX0 (2 + d) f fd ["_law_cond_here", "_law_filling"] (spLHolds d)
  | 0 => by
    refine ⟨fun vs H Q E h => ?_, fun A outer s H args us vs Q E hr e0 hb r h => ?_⟩
    · obtain ⟨v, c, dd, fl, rfl, _⟩ := h
      rfl
    · obtain ⟨v, c, dd, fl, _, _, hd, _⟩ := h
      have := depth_pos c
      exact absurd hd (by omega)
  | d + 1 => by
    have ih := ok_lholds Fn bd kp mm C1 d
    obtain ⟨f1, d1, G1, b1, k1, m1⟩ := C1
    refine Fn.ok (k := 2 + d) scLH (fun vs H Q E h => ?_) (fun cdv A outer s H vs Q E hr h => ?_)
    · obtain ⟨v, c, dd, fl, rfl, _⟩ := h
      rfl
    obtain ⟨v, c, dd, fl, rfl, hC, hd, hn, hdd, q⟩ := h
    have hr1 : Room 1 _ := hr.mono (by omega)
    obtain ⟨tt, ht, q3⟩ := lh_tail (P := P) (w := w) (K := K) (mg := mg) (base := base) (f := f) (outer := outer) (H0 := H) (E := E) hr ih bd kp mm
    refine ⟨_, pss_cons (ps_if (pt_cmpR op_eq (pe_ix ix_tup (pv 0) pe_int (fun _ _ => rfl)) pe_str (nomark _)) (pss_one (ps_ret (pe_ix ix_tup (pv 0) pe_int (fun _ _ => rfl)))) pss_nil)
      (pss_cons (ps_if (pt_cmpR op_eq (pe_ix ix_tup (pv 0) pe_int (fun _ _ => rfl)) pe_str (nomark _)) (pss_one (ps_ret (pe_cmpR op_eq (pe_call G1 hr1 rfl m1 k1 b1 .nil pass0 (pa_cons (pe_ix ix_tup (pv 0) pe_int (fun _ _ => rfl)) (pa_cons (pv 1) pa_nil))) (pe_call G1 hr1 rfl m1 k1 b1 .nil pass0 (pa_cons (pe_ix ix_tup (pv 0) pe_int (fun _ _ => rfl)) (pa_cons (pv 1) pa_nil))) (nomark _)))) pss_nil)
      (pss_cons (ps_if (pt_cmpR op_eq (pe_ix ix_tup (pv 0) pe_int (fun _ _ => rfl)) pe_str (nomark _))
        (pss_one (ps_ret (pe_not (pe_call ih hr rfl mm kp bd .nil pass0 (pa_cons (pe_ix ix_tup (pv 0) pe_int (fun _ _ => rfl)) (pa_cons (pv 1) pa_nil)))))) pss_nil)
      ht)), ?_⟩
    cases c with
    | truth b =>
      simp only [IsT] at hC
      obtain ⟨a, rfl, ha⟩ := hC
      have ha' := SqT.of (K := K) ha
      refine ⟨_, rfl, a, _, _, _, rfl, rfl, ha', rfl, rfl, _, rfl, ?_⟩
      refine iteTd (by decide +kernel) ⟨_, rfl, a, _, _, _, rfl, rfl, ha', rfl, ?_⟩
      have := q H (.refl _)
      simp only [ev] at this
      exact this
    | same x y =>
      simp only [IsT] at hC
      obtain ⟨a, rfl, ha⟩ := hC
      have ha' := SqT.of (K := K) ha
      refine ⟨_, rfl, a, _, _, _, rfl, rfl, ha', rfl, rfl, _, rfl, ?_⟩
      refine iteFd (by decide +kernel) ?_
      refine ⟨_, rfl, a, _, _, _, rfl, rfl, ha', rfl, rfl, _, rfl, ?_⟩
      refine iteTd (by decide +kernel) ?_
      refine ⟨_, rfl, a, _, _, _, rfl, rfl, ha', rfl, _, rfl, x, dd, fl, rfl, hdd.sub (fun k hk => by simp only [cells]; simp at hk; simp [hk]), ?_⟩
      refine ⟨_, rfl, a, _, _, _, rfl, rfl, ha', rfl, _, rfl, y, dd, fl, rfl, hdd.sub (fun k hk => by simp only [cells]; simp at hk; simp [hk]), rfl, ?_⟩
      rw [dec_int]
      have := q H (.refl _)
      simp only [ev] at this
      exact this
    | opp c =>
      simp only [IsT] at hC
      obtain ⟨a, u, rfl, ha, hu⟩ := hC
      have ha' := SqT.of (K := K) ha
      simp only [depth] at hd
      simp only [nodes] at hn
      simp only [cells] at hdd
      refine ⟨_, rfl, a, _, _, _, rfl, rfl, ha', rfl, rfl, _, rfl, ?_⟩
      refine iteFd (by decide +kernel) ?_
      refine ⟨_, rfl, a, _, _, _, rfl, rfl, ha', rfl, rfl, _, rfl, ?_⟩
      refine iteFd (by decide +kernel) ?_
      refine ⟨_, rfl, a, _, _, _, rfl, rfl, ha', rfl, rfl, _, rfl, ?_⟩
      refine iteTd (by decide +kernel) ?_
      refine ⟨_, rfl, a, _, _, _, rfl, rfl, ha', rfl, _, rfl, u, c, dd, fl, rfl, hu, by omega, by omega, hdd, fun H' s' => ⟨_, rfl, ?_⟩⟩
      have qq := q H' s'
      simp only [ev] at qq
      exact qq
    | all l =>
      simp only [IsT] at hC
      obtain ⟨a, p, zs, rfl, ha, hp, hTL⟩ := hC
      have ha' := SqT.of (K := K) ha
      simp only [depth] at hd
      simp only [nodes] at hn
      simp only [cells] at hdd
      simp only [ev] at q
      refine ⟨_, rfl, a, _, _, _, rfl, rfl, ha', rfl, rfl, _, rfl, ?_⟩
      refine iteFd (by decide +kernel) ?_
      refine ⟨_, rfl, a, _, _, _, rfl, rfl, ha', rfl, rfl, _, rfl, ?_⟩
      refine iteFd (by decide +kernel) ?_
      refine ⟨_, rfl, a, _, _, _, rfl, rfl, ha', rfl, rfl, _, rfl, ?_⟩
      refine iteFd (by decide +kernel) ?_
      exact q3 Q H a p dd "all" true l zs fl (by decide +kernel) ha hp hTL (by omega) (by omega) hdd (fun H' s' => by rw [if_pos rfl, ← evA_all]; exact q H' s')
    | one l =>
      simp only [IsT] at hC
      obtain ⟨a, p, zs, rfl, ha, hp, hTL⟩ := hC
      have ha' := SqT.of (K := K) ha
      simp only [depth] at hd
      simp only [nodes] at hn
      simp only [cells] at hdd
      simp only [ev] at q
      refine ⟨_, rfl, a, _, _, _, rfl, rfl, ha', rfl, rfl, _, rfl, ?_⟩
      refine iteFd (by decide +kernel) ?_
      refine ⟨_, rfl, a, _, _, _, rfl, rfl, ha', rfl, rfl, _, rfl, ?_⟩
      refine iteFd (by decide +kernel) ?_
      refine ⟨_, rfl, a, _, _, _, rfl, rfl, ha', rfl, rfl, _, rfl, ?_⟩
      refine iteFd (by decide +kernel) ?_
      exact q3 Q H a p dd "one" false l zs fl (by decide +kernel) ha hp hTL (by omega) (by omega) hdd (fun H' s' => by rw [if_neg Bool.false_ne_true, ← evO_any]; exact q H' s')
theorem scMa : FnScope ["_law_cond_here", "_law_parts"] ["_law_cond_here"] (defScope sMade) := ⟨rfl, rfl, rfl, by decide +kernel, rfl, by decide +kernel, by decide +kernel⟩
theorem md_tail {cdv : Value} {A : Around} {outer : List Env} {s : Shared} {H0 : Hp} {E : XK} {d n : Nat} (hr : Room n (A.deeper (PyProof.Rows.envOfC "_law_made" (defScope sMade) s.heap.objs.size f cdv))) (hn43 : 43 ≤ n) (ih : FnOk P w K mg base CX0 n f fd ["_law_cond_here"] (spMade T d)) (bd : Binds K fd ["_law_cond_here"] []) (kp : PySem.W.keepIn K (.ref f) = true) (mm : mg "_law_made" = some (.ref f))
    (M4 : MkC P w K mg base "AllOf" T.a 42 ["self", "parts"] (spLI T K 19 T.a .all)) (M5 : MkC P w K mg base "OneOf" T.o 42 ["self", "parts"] (spLI T K 19 T.o .one)) :
    ∃ t, PSs (cxOf CX0 P w K mg base ["_law_cond_here", "_law_parts"] "_law_made" (defScope sMade) f cdv A outer s H0 E).nox ((defBody sMade).drop 3) t ∧
      ∀ (Q : VK) (H : Hp) (a p : Addr) (tag : Str) (b : Bool) (l : List Cd) (xs : List V) (pool : List Key), decide (V.str tag = V.str "all") = b → H a = some (.tup [.str tag, .ref p]) → H p = some (.lst xs) → IsTL H l xs → depthL l ≤ d → depthL l ≤ 19 → nodesL l ≤ 40 → pool.length ≤ 40 → (∀ k ∈ cellsL l, k ∈ pool) →
        (∀ v' H', Same H H' → IsC T H' (if b = true then .all l else .one l) v' → Q v' H') →
        t { nx := fun _ H' => Q .non H', rt := Q } [some (.ref a), none] H := by
  obtain ⟨f4, d4, mk4, G4, b4, m4⟩ := M4
  obtain ⟨f5, d5, mk5, G5, b5, m5⟩ := M5
  have hr43 : Room 43 _ := hr.mono hn43
  refine ⟨_, pss_cons (ps_setLC (i := 1) ["_law_one"] (caps := []) rfl scMa.nd rfl rfl (pi_list (pe_ix ix_tup (pv 0) pe_int (fun _ _ => rfl))) ⟨rfl, by decide +kernel, by decide +kernel, rfl, .nil, rfl, rfl, rfl⟩
      (fun s H ex => pg_name (X := cxLG _ _ _ _ s H ex) (i := 0) (nd1 _) rfl (Or.inl rfl) (.inr rfl)) (fun s H ex => pif_nil)
      (fun s H ex => pe_call (X := cxLG _ _ _ _ s H ex) ih hr rfl mm kp bd .nil pass0 (pa_cons (pe_var (X := cxLG _ _ _ _ s H ex) (i := 0) rfl (Or.inl rfl)) pa_nil)) rfl)
    (pss_cons (ps_if (pt_cmpR op_eq (pe_ix ix_tup (pv 0) pe_int (fun _ _ => rfl)) pe_str (nomark _)) (pss_one (ps_ret (pe_make mk4 G4 hr43 rfl m4 b4 .nil pass0 (pa_cons (pv 1) pa_nil)))) pss_nil)
    (pss_one (ps_ret (pe_make mk5 G5 hr43 rfl m5 b5 .nil pass0 (pa_cons (pv 1) pa_nil))))), ?_⟩
  intro Q H a p tag b l xs pool hb ha hp hTL dl dl19 nl hpl hcl q
  refine ⟨_, rfl, a, _, _, _, rfl, rfl, SqT.of ha, rfl, p, rfl, ⟨_, SqL.of hp⟩, fun D hD => ?_⟩
  refine lcg_listR (K := K) (a := p) (xs := xs) (fun i σ H2 => ∃ (u : Option V) (vs : List V), σ = [u] ∧ Same H H2 ∧ H2 D = some (.lst vs) ∧ IsL T H2 (l.take i) vs)
    ⟨none, [], rfl, same_new hD _, upd_same, by simp only [List.take_zero, CD.IsL]⟩ (fun i σ H2 _ ⟨_, _, _, s2, _⟩ => SqL.of (s2 _ _ hp)) ?_ ?_
  · rintro i x σ H2 hi ⟨u, vs, rfl, s2, hD2, hL2⟩
    obtain ⟨c', hc', hC'⟩ := isTL_get hTL hi
    have cm := List.mem_of_getElem? hc'
    have dc := Nat.le_trans (depthL_ge cm) dl
    have dc19 := Nat.le_trans (depthL_ge cm) dl19
    have n1 := nodesL_mem cm
    refine ⟨_, rfl, x, c', pool, rfl, (hC'.keep s2), dc, by omega, by omega, hpl, fun k hk => hcl k (cellsL_mem.mpr ⟨c', cm, hk⟩), fun v H3 s3 hCv => ?_⟩
    have hD3 : H3 D = some (.lst vs) := s3 _ _ hD2
    have kp4 : Kp H3 (upd H3 D (.lst (vs ++ [v]))) := ⟨fun b xs h => by rw [upd_ne (fun e => by rw [e, hD3] at h; cases h)]; exact h, fun b C dx fs h => by rw [upd_ne (fun e => by rw [e, hD3] at h; cases h)]; exact h⟩
    refine ⟨vs, hD3, ?_, _, vs ++ [v], rfl, same_upd (s2.trans s3) hD _, upd_same, ?_⟩
    · have a1 := isL_len hL2
      rw [List.length_take] at a1
      have := nodesL_len l
      exact small1000 (by omega)
    · rw [take_snoc hc']
      exact isL_snoc ((hL2.kp (.of s3)).kp kp4) (hCv.kp kp4)
  rintro σ H2 ⟨u, vs, rfl, s2, hD2, hL2⟩
  rw [← isTL_len hTL, List.take_length] at hL2
  have ll := nodesL_len l
  have pool1 : l.length * pool.length ≤ 3000 := Nat.le_trans (Nat.mul_le_mul (Nat.le_trans ll nl) hpl) (by decide)
  refine ⟨_, rfl, a, _, _, _, rfl, rfl, SqT.of (s2 _ _ ha), rfl, rfl, _, rfl, ?_⟩
  rw [hb]
  cases b with
  | true =>
    refine iteT ⟨_, rfl, fun x dx hx hdx ne => ?_⟩
    have ms := mk_same (C := T.a) hx hdx
    exact ⟨x, dx, D, vs, l, H2, rfl, upd_same, ms, hx, SqL.of (ms _ _ hD2), hL2, by omega, by omega, ⟨pool, by omega, pool1, hcl⟩, fun H' kb hC => ⟨rfl, q _ H' (s2.trans (kb.same ms hx)) (by rw [if_pos rfl]; exact hC)⟩⟩
  | false =>
    refine iteF ⟨_, rfl, fun x dx hx hdx ne => ?_⟩
    have ms := mk_same (C := T.o) hx hdx
    exact ⟨x, dx, D, vs, l, H2, rfl, upd_same, ms, hx, SqL.of (ms _ _ hD2), hL2, by omega, by omega, ⟨pool, by omega, pool1, hcl⟩, fun H' kb hC => ⟨rfl, q _ H' (s2.trans (kb.same ms hx)) (by rw [if_neg Bool.false_ne_true]; exact hC)⟩⟩
theorem ok_made (Fn : Fun K "_law_made" "_law_made" sMade f fd) (bd : Binds K fd ["_law_cond_here"] []) (kp : PySem.W.keepIn K (.ref f) = true) (mm : mg "_law_made" = some (.ref f))
    (M1 : MkC P w K mg base "Truth" T.t 42 ["self", "said"] (spTI T)) (M2 : MkC P w K mg base "Same" T.s 42 ["self", "one", "other"] (spSI T)) (M3 : MkC P w K mg base "Opposite" T.p 42 ["self", "part"] (spPI T 19))
    (M4 : MkC P w K mg base "AllOf" T.a 42 ["self", "parts"] (spLI T K 19 T.a .all)) (M5 : MkC P w K mg base "OneOf" T.o 42 ["self", "parts"] (spLI T K 19 T.o .one)) : ∀ d, FnOk P w K mg base CX0 (44 + d) f fd ["_law_cond_here"] (spMade T d)
  | 0 => by
    refine ⟨fun vs H Q E h => ?_, fun A outer s H args us vs Q E hr e0 hb r h => ?_⟩
    · obtain ⟨v, c, pool, rfl, _⟩ := h
      rfl
    · obtain ⟨v, c, pool, _, _, hd, _⟩ := h
      have := depth_pos c
      exact absurd hd (by omega)
  | d + 1 => by
    have ih := ok_made Fn bd kp mm M1 M2 M3 M4 M5 d
    refine Fn.ok (k := 44 + d) scMa (fun vs H Q E h => ?_) (fun cdv A outer s H vs Q E hr h => ?_)
    · obtain ⟨v, c, pool, rfl, _⟩ := h
      rfl
    obtain ⟨v, c, pool, rfl, hT, hd, hd20, hn, hpl, hpc, q⟩ := h
    obtain ⟨tt, ht, q3⟩ := md_tail (P := P) (w := w) (K := K) (mg := mg) (base := base) (f := f) (outer := outer) (H0 := H) (E := E) (T := T) hr (by omega) ih bd kp mm M4 M5
    obtain ⟨f1, d1, mk1, G1, b1, m1⟩ := M1
    obtain ⟨f2, d2, mk2, G2, b2, m2⟩ := M2
    obtain ⟨f3, d3, mk3, G3, b3, m3⟩ := M3
    have hr43 : Room 43 _ := hr.mono (by omega)
    refine ⟨_, pss_cons (ps_if (pt_cmpR op_eq (pe_ix ix_tup (pv 0) pe_int (fun _ _ => rfl)) pe_str (nomark _)) (pss_one (ps_ret (pe_make mk1 G1 hr43 rfl m1 b1 .nil pass0 (pa_cons (pe_ix ix_tup (pv 0) pe_int (fun _ _ => rfl)) pa_nil)))) pss_nil)
      (pss_cons (ps_if (pt_cmpR op_eq (pe_ix ix_tup (pv 0) pe_int (fun _ _ => rfl)) pe_str (nomark _)) (pss_one (ps_ret (pe_make mk2 G2 hr43 rfl m2 b2 .nil pass0 (pa_cons (pe_ix ix_tup (pv 0) pe_int (fun _ _ => rfl)) (pa_cons (pe_ix ix_tup (pv 0) pe_int (fun _ _ => rfl)) pa_nil))))) pss_nil)
      (pss_cons (ps_if (pt_cmpR op_eq (pe_ix ix_tup (pv 0) pe_int (fun _ _ => rfl)) pe_str (nomark _)) (pss_one (ps_ret (pe_make mk3 G3 hr43 rfl m3 b3 .nil pass0 (pa_cons (pe_call ih hr rfl mm kp bd .nil pass0 (pa_cons (pe_ix ix_tup (pv 0) pe_int (fun _ _ => rfl)) pa_nil)) pa_nil)))) pss_nil)
      ht)), ?_⟩
    have pool1 : ∀ n, n ≤ 41 → n * pool.length ≤ 3000 := fun n hn => Nat.le_trans (Nat.mul_le_mul hn hpl) (by decide)
    cases c with
    | truth b =>
      simp only [IsT] at hT
      obtain ⟨a, rfl, ha⟩ := hT
      have ha' := SqT.of (K := K) ha
      refine ⟨_, rfl, a, _, _, _, rfl, rfl, ha', rfl, rfl, _, rfl, ?_⟩
      refine iteTd (by decide +kernel) ?_
      refine ⟨_, rfl, a, _, _, _, rfl, rfl, ha', rfl, fun x dx hx hdx ne => ?_⟩
      have ms := mk_same (C := T.t) hx hdx
      exact ⟨x, dx, b, H, rfl, upd_same, ms, hx, fun H' kb hC => ⟨rfl, q _ H' (kb.same ms hx) hC⟩⟩
    | same k1 k2 =>
      simp only [IsT] at hT
      obtain ⟨a, rfl, ha⟩ := hT
      have ha' := SqT.of (K := K) ha
      refine ⟨_, rfl, a, _, _, _, rfl, rfl, ha', rfl, rfl, _, rfl, ?_⟩
      refine iteFd (by decide +kernel) ?_
      refine ⟨_, rfl, a, _, _, _, rfl, rfl, ha', rfl, rfl, _, rfl, ?_⟩
      refine iteTd (by decide +kernel) ?_
      refine ⟨_, rfl, a, _, _, _, rfl, rfl, ha', rfl, _, rfl, a, _, _, _, rfl, rfl, ha', rfl, fun x dx hx hdx ne => ?_⟩
      have ms := mk_same (C := T.s) hx hdx
      exact ⟨x, dx, k1, k2, H, rfl, upd_same, ms, hx, fun H' kb hC => ⟨rfl, q _ H' (kb.same ms hx) hC⟩⟩
    | opp c =>
      simp only [IsT] at hT
      obtain ⟨a, u, rfl, ha, hu⟩ := hT
      have ha' := SqT.of (K := K) ha
      simp only [depth] at hd hd20
      simp only [nodes] at hn
      simp only [cells] at hpc
      refine ⟨_, rfl, a, _, _, _, rfl, rfl, ha', rfl, rfl, _, rfl, ?_⟩
      refine iteFd (by decide +kernel) ?_
      refine ⟨_, rfl, a, _, _, _, rfl, rfl, ha', rfl, rfl, _, rfl, ?_⟩
      refine iteFd (by decide +kernel) ?_
      refine ⟨_, rfl, a, _, _, _, rfl, rfl, ha', rfl, rfl, _, rfl, ?_⟩
      refine iteTd (by decide +kernel) ?_
      refine ⟨_, rfl, a, _, _, _, rfl, rfl, ha', rfl, u, c, pool, rfl, hu, by omega, by omega, by omega, hpl, hpc, fun v H2 s2 hC2 => fun x dx hx hdx ne => ?_⟩
      have ms := mk_same (C := T.p) hx hdx
      refine ⟨x, dx, v, c, H2, rfl, upd_same, ms, hx, hC2, by omega, ⟨pool, by omega, pool1 1 (by decide), hpc⟩, fun H' kb hC => ⟨rfl, ?_⟩⟩
      exact q _ H' (s2.trans (kb.same ms hx)) hC
    | all l =>
      simp only [IsT] at hT
      obtain ⟨a, p, xs, rfl, ha, hp, hTL⟩ := hT
      have ha' := SqT.of (K := K) ha
      simp only [depth] at hd hd20
      simp only [nodes] at hn
      simp only [cells] at hpc
      refine ⟨_, rfl, a, _, _, _, rfl, rfl, ha', rfl, rfl, _, rfl, ?_⟩
      refine iteFd (by decide +kernel) ?_
      refine ⟨_, rfl, a, _, _, _, rfl, rfl, ha', rfl, rfl, _, rfl, ?_⟩
      refine iteFd (by decide +kernel) ?_
      refine ⟨_, rfl, a, _, _, _, rfl, rfl, ha', rfl, rfl, _, rfl, ?_⟩
      refine iteFd (by decide +kernel) ?_
      exact q3 Q H a p "all" true l xs pool (by decide +kernel) ha hp hTL (by omega) (by omega) (by omega) hpl hpc (fun v' H' s' h' => by rw [if_pos rfl] at h'; exact q v' H' s' h')
    | one l =>
      simp only [IsT] at hT
      obtain ⟨a, p, xs, rfl, ha, hp, hTL⟩ := hT
      have ha' := SqT.of (K := K) ha
      simp only [depth] at hd hd20
      simp only [nodes] at hn
      simp only [cells] at hpc
      refine ⟨_, rfl, a, _, _, _, rfl, rfl, ha', rfl, rfl, _, rfl, ?_⟩
      refine iteFd (by decide +kernel) ?_
      refine ⟨_, rfl, a, _, _, _, rfl, rfl, ha', rfl, rfl, _, rfl, ?_⟩
      refine iteFd (by decide +kernel) ?_
      refine ⟨_, rfl, a, _, _, _, rfl, rfl, ha', rfl, rfl, _, rfl, ?_⟩
      refine iteFd (by decide +kernel) ?_
      exact q3 Q H a p "one" false l xs pool (by decide +kernel) ha hp hTL (by omega) (by omega) (by omega) hpl hpc (fun v' H' s' h' => by rw [if_neg Bool.false_ne_true] at h'; exact q v' H' s' h')
end
end K31
set_option maxHeartbeats 4000000
namespace K31
open PySem L2 CD
theorem KS.out {st : Addr} {H H1 H2 : Hp} (k : KS st H1 H2) (s : Same H H1) (h : H st = none) : Same H H2 := fun b o hb => k.k _ _ (fun e => by rw [e, h] at hb; cases hb) (s _ _ hb)
mutual
theorem cells_len : ∀ c : Cd, (cells c).length ≤ 2 * nodes c
  | .truth _ => by simp [cells]
  | .same _ _ => by simp [cells, nodes]
  | .all l => by simp only [cells, nodes]; have := cellsL_len l; omega
  | .one l => by simp only [cells, nodes]; have := cellsL_len l; omega
  | .opp c => by simp only [cells, nodes]; have := cells_len c; omega
theorem cellsL_len : ∀ l : List Cd, (cellsL l).length ≤ 2 * nodesL l
  | [] => by simp [cellsL]
  | c :: r => by simp only [cellsL, nodesL, List.length_append]; have := cells_len c; have := cellsL_len r; omega
end
/-- a drawn row -/
def RowT (H : Hp) (v : V) (r : Row) : Prop := ∃ (a rl : Addr) (tv : V), v = .ref a ∧ H a = some (.tup [.ref rl, tv]) ∧ H rl = some (.lst (r.1.map kV)) ∧ IsT H r.2 tv
theorem RowT.keep {H H' : Hp} (s : Same H H') {v : V} {r : Row} (h : RowT H v r) : RowT H' v r := by
  obtain ⟨a, rl, tv, e, h1, h2, h3⟩ := h
  exact ⟨a, rl, tv, e, s _ _ h1, s _ _ h2, h3.keep s⟩
theorem pmap {α β : Type} {R S : α → β → Prop} (f : ∀ a b, R a b → S a b) : ∀ {xs : List α} {ys : List β}, Paired R xs ys → Paired S xs ys
  | _, _, .nil => .nil
  | _, _, .cons r t => .cons (f _ _ r) (pmap f t)
def spLCells (d : Nat) : Sp := fun args H Q _ => ∃ (v : V) (c : Cd), args = [v] ∧ IsT H c v ∧ depth c ≤ d ∧ nodes c ≤ 41 ∧ ∀ (l : Addr) (H' : Hp), Same H H' → H l = none → H' l = some (.lst ((cells c).map kV)) → Q (.ref l) H'
def spStanding : Sp := fun args H Q _ => ∃ (ra : Addr) (wv : V) (xs : List V) (rows : List Row) (wc : Cd), args = [.ref ra, wv] ∧ H ra = some (.lst xs) ∧ Paired (RowT H) xs rows ∧ rows.length ≤ 8 ∧ (∀ r ∈ rows, r.1.length ≤ 10 ∧ depth r.2 ≤ 4 ∧ nodes r.2 ≤ 41) ∧ IsT H wc wv ∧ depth wc ≤ 4 ∧ nodes wc ≤ 41 ∧
  ∀ (l : Addr) (H' : Hp) (ks : List Key), Same H H' → H l = none → H' l = some (.lst (ks.map kV)) → ks.length ≤ 2000 → (∀ k, k ∈ ks ↔ AllC rows wc k) → Q (.ref l) H'
def Fll (H : Hp) (gs : List Str) (x : V) : Prop := ∃ (d : Addr) (f : Str → Int), x = .ref d ∧ Has H d f (gs.map Sum.inr)
def spFillings (K : PySem.W.Frag) : Sp := fun args H Q _ => ∃ (sa ga : Addr) (ns : List Int) (gs : List Str), args = [.ref sa, .ref ga] ∧ SqL K H sa (ns.map V.int) ∧ H ga = some (.lst (gs.map V.str)) ∧ gs.length ≤ 20 ∧
  ∀ (l : Addr) (xs : List V) (H' : Hp), Same H H' → H' l = some (.lst xs) → xs.length = 3 → (∀ x ∈ xs, Fll H' gs x) → Q (.ref l) H'
section
variable {P : Program} {w : World} {K : PySem.W.Frag} {mg : Str → Option Value} {base : Heap} {f : Addr} {fd : FuncData} {T : Cl}
theorem scLC : FnScope ["_law_cond_here", "_law_found", "_law_one"] ["_law_cond_here"] (defScope sCells) := ⟨rfl, rfl, rfl, by decide +kernel, rfl, by decide +kernel, by decide +kernel⟩
theorem lc_tail {cdv : Value} {A : Around} {outer : List Env} {s : Shared} {H0 : Hp} {E : XK} {d n : Nat} (hr : Room n (A.deeper (PyProof.Rows.envOfC "_law_cells" (defScope sCells) s.heap.objs.size f cdv))) (ih : FnOk P w K mg base CX0 n f fd ["_law_cond_here"] (spLCells d)) (bd : Binds K fd ["_law_cond_here"] []) (kp : PySem.W.keepIn K (.ref f) = true) (mm : mg "_law_cells" = some (.ref f)) :
    ∃ t, PSs (cxOf CX0 P w K mg base ["_law_cond_here", "_law_found", "_law_one"] "_law_cells" (defScope sCells) f cdv A outer s H0 E).nox ((defBody sCells).drop 3) t ∧
      ∀ (Q : VK) (H : Hp) (a p : Addr) (tag : Str) (l : List Cd) (xs : List V), H a = some (.tup [.str tag, .ref p]) → H p = some (.lst xs) → IsTL H l xs → depthL l ≤ d → nodesL l ≤ 40 →
        (∀ (r : Addr) (H' : Hp), Same H H' → H r = none → H' r = some (.lst ((cellsL l).map kV)) → Q (.ref r) H') →
        t { nx := fun _ H' => Q .non H', rt := Q } [some (.ref a), none, none] H := by
  refine ⟨_, pss_cons (ps_set (i := 1) scLC.nd rfl (Or.inl rfl) (pe_lst pa_nil))
    (pss_cons (ps_for PassesOwn.never rfl (pi_list (pe_ix ix_tup (pv 0) pe_int (fun _ _ => rfl))) (pg_name (i := 2) scLC.nd rfl (Or.inl rfl))
      (pss_one (ps_set (i := 1) scLC.nd rfl (Or.inl rfl) (pe_op op_cat (pv 1) (pe_call ih hr rfl mm kp bd .nil pass0 (pa_cons (pv 2) pa_nil))))))
    (pss_one (ps_ret (pv 1)))), ?_⟩
  intro Q H a p tag l xs ha hp hTL dl nl q
  have len := isTL_len hTL
  refine ⟨small (by simp), fun D hD => ?_⟩
  have s0 := same_new hD (.lst [])
  refine ⟨_, rfl, a, _, _, _, rfl, rfl, SqT.of (s0 _ _ ha), rfl, p, rfl, ⟨_, SqL.of (s0 _ _ hp)⟩, for_list (K := K) (a := p) (xs := xs) (fun i σ H2 => ∃ (u : Option V) (r : Addr), σ = [some (.ref a), some (.ref r), u] ∧ Same H H2 ∧ H r = none ∧ H2 r = some (.lst ((cellsL (l.take i)).map kV)))
    ⟨none, D, rfl, s0, hD, by rw [upd_same, List.take_zero]; simp [cellsL]⟩ (fun i σ H2 _ ⟨_, _, _, s2, _⟩ => SqL.of (s2 _ _ hp)) ?_ ?_⟩
  · rintro i x σ H2 hi ⟨u, r, rfl, s2, hr0, h2⟩
    obtain ⟨c', hc', hC'⟩ := isTL_get hTL hi
    have cm := List.mem_of_getElem? hc'
    have dc := Nat.le_trans (depthL_ge cm) dl
    have n1 := nodesL_mem cm
    refine ⟨_, rfl, _, rfl, x, c', rfl, hC'.keep s2, dc, by omega, fun r2 H3 s3 hr2 h3 => ?_⟩
    have e : cellsL (l.take (i + 1)) = cellsL (l.take i) ++ cells c' := by rw [take_snoc hc', cellsL_app]; simp [cellsL]
    have q1 := cellsL_len (l.take (i + 1))
    have q2 : nodesL (l.take (i + 1)) ≤ nodesL l := by
      have := nodesL_app (l.take (i + 1)) (l.drop (i + 1))
      rw [List.take_append_drop] at this
      omega
    rw [e, List.length_append] at q1
    refine ⟨r, r2, _, _, rfl, rfl, s3 _ _ h2, h3, small1000 (by rw [List.length_map, List.length_map]; omega) |> Nat.le_of_lt, fun r3 hr3 => ?_⟩
    have s4 := same_new hr3 (.lst ((cellsL (l.take i)).map kV ++ (cells c').map kV))
    exact ⟨_, r3, rfl, s2.trans (s3.trans s4), same_back (s2.trans s3) hr3, by rw [upd_same, e, List.map_append]⟩
  · rintro σ H2 ⟨u, r, rfl, s2, hr0, h2⟩
    rw [← len, List.take_length] at h2
    exact ⟨_, rfl, q r H2 s2 hr0 h2⟩
theorem ok_lcells (Fn : Fun K "_law_cells" "_law_cells" sCells f fd) (bd : Binds K fd ["_law_cond_here"] []) (kp : PySem.W.keepIn K (.ref f) = true) (mm : mg "_law_cells" = some (.ref f)) : ∀ d, FnOk P w K mg base CX0 (1 + d) f fd ["_law_cond_here"] (spLCells d)
  | 0 => by
    refine ⟨fun vs H Q E h => ?_, fun A outer s H args us vs Q E hr e0 hb r h => ?_⟩
    · obtain ⟨v, c, rfl, _⟩ := h
      rfl
    · obtain ⟨v, c, _, _, hd, _⟩ := h
      have := depth_pos c
      exact absurd hd (by omega)
  | d + 1 => by
    have ih := ok_lcells Fn bd kp mm d
    refine Fn.ok (k := 1 + d) scLC (fun vs H Q E h => ?_) (fun cdv A outer s H vs Q E hr h => ?_)
    · obtain ⟨v, c, rfl, _⟩ := h
      rfl
    obtain ⟨v, c, rfl, hT, hd, hn, q⟩ := h
    obtain ⟨tt, ht, q3⟩ := lc_tail (P := P) (w := w) (K := K) (mg := mg) (base := base) (f := f) (outer := outer) (H0 := H) (E := E) hr ih bd kp mm
    refine ⟨_, pss_cons (ps_if (pt_cmpR op_eq (pe_ix ix_tup (pv 0) pe_int (fun _ _ => rfl)) pe_str (nomark _)) (pss_one (ps_ret (pe_lst pa_nil))) pss_nil)
      (pss_cons (ps_if (pt_cmpR op_eq (pe_ix ix_tup (pv 0) pe_int (fun _ _ => rfl)) pe_str (nomark _)) (pss_one (ps_ret (pe_lst (pa_cons (pe_ix ix_tup (pv 0) pe_int (fun _ _ => rfl)) (pa_cons (pe_ix ix_tup (pv 0) pe_int (fun _ _ => rfl)) pa_nil))))) pss_nil)
      (pss_cons (ps_if (pt_cmpR op_eq (pe_ix ix_tup (pv 0) pe_int (fun _ _ => rfl)) pe_str (nomark _)) (pss_one (ps_ret (pe_call ih hr rfl mm kp bd .nil pass0 (pa_cons (pe_ix ix_tup (pv 0) pe_int (fun _ _ => rfl)) pa_nil)))) pss_nil)
      ht)), ?_⟩
    cases c with
    | truth b =>
      simp only [IsT] at hT
      obtain ⟨a, rfl, ha⟩ := hT
      have ha' := SqT.of (K := K) ha
      refine ⟨_, rfl, a, _, _, _, rfl, rfl, ha', rfl, rfl, _, rfl, ?_⟩
      refine iteTd (by decide +kernel) ⟨small (by simp), fun l hl => q l _ (same_new hl _) hl (by rw [upd_same]; simp [cells])⟩
    | same k1 k2 =>
      simp only [IsT] at hT
      obtain ⟨a, rfl, ha⟩ := hT
      have ha' := SqT.of (K := K) ha
      refine ⟨_, rfl, a, _, _, _, rfl, rfl, ha', rfl, rfl, _, rfl, ?_⟩
      refine iteFd (by decide +kernel) ?_
      refine ⟨_, rfl, a, _, _, _, rfl, rfl, ha', rfl, rfl, _, rfl, ?_⟩
      refine iteTd (by decide +kernel) ?_
      exact ⟨_, rfl, a, _, _, _, rfl, rfl, ha', rfl, _, rfl, a, _, _, _, rfl, rfl, ha', rfl, small (by simp), fun l hl => q l _ (same_new hl _) hl (by rw [upd_same]; simp [cells])⟩
    | opp c =>
      simp only [IsT] at hT
      obtain ⟨a, u, rfl, ha, hu⟩ := hT
      have ha' := SqT.of (K := K) ha
      simp only [depth] at hd
      simp only [nodes] at hn
      simp only [cells] at q
      refine ⟨_, rfl, a, _, _, _, rfl, rfl, ha', rfl, rfl, _, rfl, ?_⟩
      refine iteFd (by decide +kernel) ?_
      refine ⟨_, rfl, a, _, _, _, rfl, rfl, ha', rfl, rfl, _, rfl, ?_⟩
      refine iteFd (by decide +kernel) ?_
      refine ⟨_, rfl, a, _, _, _, rfl, rfl, ha', rfl, rfl, _, rfl, ?_⟩
      refine iteTd (by decide +kernel) ?_
      exact ⟨_, rfl, a, _, _, _, rfl, rfl, ha', rfl, u, c, rfl, hu, by omega, by omega, q⟩
    | all l =>
      simp only [IsT] at hT
      obtain ⟨a, p, xs, rfl, ha, hp, hTL⟩ := hT
      have ha' := SqT.of (K := K) ha
      simp only [depth] at hd
      simp only [nodes] at hn
      simp only [cells] at q
      refine ⟨_, rfl, a, _, _, _, rfl, rfl, ha', rfl, rfl, _, rfl, ?_⟩
      refine iteFd (by decide +kernel) ?_
      refine ⟨_, rfl, a, _, _, _, rfl, rfl, ha', rfl, rfl, _, rfl, ?_⟩
      refine iteFd (by decide +kernel) ?_
      refine ⟨_, rfl, a, _, _, _, rfl, rfl, ha', rfl, rfl, _, rfl, ?_⟩
      refine iteFd (by decide +kernel) ?_
      exact q3 Q H a p _ l xs ha hp hTL (by omega) (by omega) q
    | one l =>
      simp only [IsT] at hT
      obtain ⟨a, p, xs, rfl, ha, hp, hTL⟩ := hT
      have ha' := SqT.of (K := K) ha
      simp only [depth] at hd
      simp only [nodes] at hn
      simp only [cells] at q
      refine ⟨_, rfl, a, _, _, _, rfl, rfl, ha', rfl, rfl, _, rfl, ?_⟩
      refine iteFd (by decide +kernel) ?_
      refine ⟨_, rfl, a, _, _, _, rfl, rfl, ha', rfl, rfl, _, rfl, ?_⟩
      refine iteFd (by decide +kernel) ?_
      refine ⟨_, rfl, a, _, _, _, rfl, rfl, ha', rfl, rfl, _, rfl, ?_⟩
      refine iteFd (by decide +kernel) ?_
      exact q3 Q H a p _ l xs ha hp hTL (by omega) (by omega) q
theorem scSt : FnScope ["_law_rows", "_law_whole", "_law_found", "_law_cells_here", "_law_cond_here"] ["_law_rows", "_law_whole"] (defScope sStanding) := ⟨rfl, rfl, rfl, by decide +kernel, rfl, by decide +kernel, by decide +kernel⟩
theorem ok_standing (Fn : Fun K "_law_standing" "_law_standing" sStanding f fd) (C1 : Cal P w K mg base "_law_cells" 5 ["_law_cond_here"] (spLCells 4)) : FnOk P w K mg base CX0 6 f fd ["_law_rows", "_law_whole"] spStanding := by
  obtain ⟨f1, d1, G1, b1, k1, m1⟩ := C1
  refine Fn.ok (k := 5) scSt (fun vs H Q E h => ?_) (fun cdv A outer s H vs Q E hr h => ?_)
  · obtain ⟨ra, wv, xs, rows, wc, rfl, _⟩ := h
    rfl
  obtain ⟨ra, wv, xs, rows, wc, rfl, hra, hP, rl, rok, hW, dW, nW, q⟩ := h
  refine ⟨_, pss_cons (ps_set (i := 2) scSt.nd rfl (Or.inl rfl) (pe_call G1 hr rfl m1 k1 b1 .nil pass0 (pa_cons (pv 1) pa_nil)))
    (pss_cons (ps_for PassesOwn.never rfl (pi_list (pv 0)) (pg_tup rfl (pgs_cons (pg_name (i := 3) scSt.nd rfl (Or.inl rfl)) (pgs_cons (pg_name (i := 4) scSt.nd rfl (Or.inl rfl)) pgs_nil)))
      (pss_one (ps_set (i := 2) scSt.nd rfl (Or.inl rfl) (pe_op op_cat (pe_op op_cat (pv 2) (pv 3)) (pe_call G1 hr rfl m1 k1 b1 .nil pass0 (pa_cons (pv 4) pa_nil))))))
    (pss_one (ps_ret (pv 2)))), ?_⟩
  refine ⟨_, rfl, wv, wc, rfl, hW, dW, nW, fun l0 H1 s1 hl0 h1 => ?_⟩
  have c0 := cells_len wc
  have len := plen hP
  refine ⟨_, rfl, ra, rfl, ⟨_, SqL.of (s1 _ _ hra)⟩, for_list (K := K) (a := ra) (xs := xs) (fun i σ H2 => ∃ (u3 u4 : Option V) (r : Addr) (ks : List Key), σ = [some (.ref ra), some wv, some (.ref r), u3, u4] ∧ Same H H2 ∧ H r = none ∧ H2 r = some (.lst (ks.map kV)) ∧ ks.length ≤ 82 + 92 * i ∧ ∀ k, k ∈ ks ↔ AllC (rows.take i) wc k)
    ⟨none, none, l0, cells wc, rfl, s1, hl0, h1, by omega, fun k => ⟨.inr, fun z => z.elim (fun ⟨r, hr, _⟩ => by rw [List.take_zero] at hr; cases hr) id⟩⟩ (fun i σ H2 _ ⟨_, _, _, _, _, s2, _⟩ => SqL.of (s2 _ _ hra)) ?_ ?_⟩
  · rintro i x σ H2 hi ⟨u3, u4, r, ks, rfl, s2, hr0, h2, kl, km⟩
    obtain ⟨rw', hri, a, rr, tv, rfl, ha, hrr, hT⟩ := pget hP hi
    have hil := (List.getElem?_eq_some_iff.mp hri).1
    obtain ⟨r1, r2, r3⟩ := rok rw' (List.mem_of_getElem? hri)
    have c1 := cells_len rw'.2
    refine ⟨a, _, rfl, SqT.of (s2 _ _ ha), rfl, _, _, rfl, _, _, rfl, rfl, ?_⟩
    refine ⟨_, rfl, _, rfl, r, rr, _, _, rfl, rfl, h2, s2 _ _ hrr, small1000 (by rw [List.length_map, List.length_map]; omega) |> Nat.le_of_lt, fun p hp => ?_⟩
    have s3 := same_new hp (.lst (ks.map kV ++ rw'.1.map kV))
    have h3 := upd_same (H := H2) (a := p) (o := .lst (ks.map kV ++ rw'.1.map kV))
    generalize upd H2 p (.lst (ks.map kV ++ rw'.1.map kV)) = H3 at s3 h3 ⊢
    refine ⟨_, rfl, tv, rw'.2, rfl, hT.keep (s2.trans s3), r2, r3, fun l4 H4 s4 hl4 h4 => ?_⟩
    refine ⟨p, l4, _, _, rfl, rfl, s4 _ _ h3, h4, small1000 (by rw [List.length_append, List.length_map, List.length_map, List.length_map]; omega) |> Nat.le_of_lt, fun p5 hp5 => ?_⟩
    have s5 := same_new hp5 (.lst (ks.map kV ++ rw'.1.map kV ++ (cells rw'.2).map kV))
    refine ⟨_, _, p5, ks ++ rw'.1 ++ cells rw'.2, rfl, s2.trans (s3.trans (s4.trans s5)), same_back (s2.trans (s3.trans s4)) hp5, by rw [upd_same, List.map_append, List.map_append], by rw [List.length_append, List.length_append]; omega, fun k => ?_⟩
    rw [take_snoc hri, List.append_assoc, List.mem_append, List.mem_append, km k]
    unfold AllC
    constructor
    · rintro ((⟨r2, h1, h2⟩ | h2) | h2)
      · exact .inl ⟨r2, List.mem_append_left _ h1, h2⟩
      · exact .inr h2
      · exact .inl ⟨rw', List.mem_append_right _ (by simp), h2⟩
    · rintro (⟨r2, h1, h2⟩ | h2)
      · rcases List.mem_append.mp h1 with h1 | h1
        · exact .inl (.inl ⟨r2, h1, h2⟩)
        · have : r2 = rw' := by simpa using h1
          exact .inr (this ▸ h2)
      · exact .inl (.inr h2)
  · rintro σ H2 ⟨u3, u4, r, ks, rfl, s2, hr0, h2, kl, km⟩
    rw [len] at kl
    rw [len, List.take_length] at km
    exact ⟨_, rfl, q r H2 ks s2 hr0 h2 (by omega) km⟩
end
end K31
set_option maxHeartbeats 4000000
namespace K31
open PySem L2 CD
theorem Fll.keep {H H' : Hp} {gs : List Str} {x : V} (s : Same H H') (h : Fll H gs x) : Fll H' gs x := by
  obtain ⟨d, f, e, h⟩ := h
  exact ⟨d, f, e, Has.keep s h⟩
theorem Fll.updL {H : Hp} {D : Addr} {gs : List Str} {x : V} {ys zs : List V} (hD : H D = some (.lst ys)) (h : Fll H gs x) : Fll (upd H D (.lst zs)) gs x := by
  obtain ⟨d, f, e, kvs, h1, h2⟩ := h
  exact ⟨d, f, e, kvs, by rw [upd_ne (fun z => by rw [z, hD] at h1; cases h1)]; exact h1, h2⟩
def fvOf (kv : List (Key × V)) (g : Str) : Int := match valV kv (Sum.inr g : Key) with | some (.int z) => z | _ => 0
/-- what isinstance asks of the classes -/
structure Isa (K : PySem.W.Frag) (T : Cl) (CC : Addr) : Prop where
  isc : ∀ c : Cd, PySem.W.kitOne K (.ref (T.of c)) (.ref CC) = some true
  cls : ∀ c : Cd, PySem.W.findIn K (.ref (T.of c)) "__class__" = some (some (.builtin "object.__class__"))
  get : PySem.W.specialIn K (.builtin "object.__class__") "__get__" = some (some (.builtin "getset_descriptor.__get__"))
  tks : PySem.W.takesIn K (.builtin "object.__class__") = some true
  mro : ∀ c : Cd, PySem.W.mroIn K (T.of c) (.type "object") = some true
def spAlike (T : Cl) : Sp := fun args H Q _ => ∃ (cv tv : V) (fa : Addr) (c : Cd) (xs : List V) (gs : List Str), args = [cv, tv, .ref fa] ∧ IsC T H c cv ∧ IsT H c tv ∧ depth c ≤ 4 ∧ nodes c ≤ 41 ∧ H fa = some (.lst xs) ∧ (∀ x ∈ xs, Fll H gs x) ∧ (∀ g : Str, Sum.inr g ∈ cells c → g ∈ gs) ∧ ∀ H', Same H H' → Q (.bl true) H'
section
variable {P : Program} {w : World} {K : PySem.W.Frag} {mg : Str → Option Value} {base : Heap} {f : Addr} {fd : FuncData} {T : Cl} {CC : Addr}
theorem fam_T {n : Nat} (Z : Tc K mg T CC) (C1 : Cal P w K mg base "check_filling" 1 ["gaps", "filling"] (spCheck K)) (FH : FamH P w K mg base T n) : Fam P w K mg base CX0 (2 * n + 2) (dom T) "truth" ["self", "filling"] (fun _ => spTruth T n) := by
  rintro C ⟨c, rfl⟩
  obtain ⟨f, fd, m, F, b⟩ := Z.hT c
  exact ⟨f, fd, Z.z.cl c, m, ok_truth F Z C1 FH, b⟩
theorem scAl : FnScope ["_law_told", "_law_cond_here", "_law_fillings_here", "_law_filling"] ["_law_told", "_law_cond_here", "_law_fillings_here"] (defScope sAlike) := ⟨rfl, rfl, rfl, by decide +kernel, rfl, by decide +kernel, by decide +kernel⟩
theorem ok_alike (Fn : Fun K "_law_alike" "_law_alike" sAlike f fd) (Z : Tc K mg T CC) (I : Isa K T CC) (mC : mg "Cond" = some (.ref CC)) (FT : Fam P w K mg base CX0 40 (dom T) "truth" ["self", "filling"] (fun _ => spTruth T 19))
    (C5 : Cal P w K mg base "_law_holds" 21 ["_law_cond_here", "_law_filling"] (spLHolds 19)) : FnOk P w K mg base CX0 41 f fd ["_law_told", "_law_cond_here", "_law_fillings_here"] (spAlike T) := by
  obtain ⟨g5, d5, G5, b5, k5, m5⟩ := C5
  refine Fn.ok (k := 40) scAl (fun vs H Q E h => ?_) (fun cdv A outer s H vs Q E hr h => ?_)
  · obtain ⟨cv, tv, fa, c, xs, gs, rfl, _⟩ := h
    rfl
  obtain ⟨cv, tv, fa, c, xs, gs, rfl, hC, hT, hd, hn, hfa, hF, hg, q⟩ := h
  have hr21 : Room 21 _ := hr.mono (by decide)
  refine ⟨_, pss_cons (ps_if (pt_not (pt_val (pe_callB call_isi rfl Z.x.isi PyProof.Rows.boot_isinstance (pa_cons (pv 0) (pa_cons (pe_glob (v := .ref CC) rfl mC rfl) pa_nil))))) pss_never pss_nil)
    (pss_cons (ps_for PassesOwn.never rfl (pi_list (pv 2)) (pg_name (i := 3) scAl.nd rfl (Or.inl rfl))
      (pss_one (ps_if (pt_cmpR op_ne (pe_methF (pv 0) FT hr pass0 (pa_cons (pv 3) pa_nil)) (pe_call G5 hr21 rfl m5 k5 b5 .nil pass0 (pa_cons (pv 1) (pa_cons (pv 3) pa_nil))) (nomark _)) pss_never pss_nil)))
    (pss_one (ps_ret pe_bl))), ?_⟩
  obtain ⟨ca, dx, fs, rfl, hca, hme, hB, hO⟩ := isC_iff.mp hC
  refine ⟨_, rfl, _, _, _, _, _, rfl, (fun u r => r), TyOf.ins hca (Z.z.cl c) (I.cls c) I.get I.tks (I.mro c), I.isc c, _, rfl, ?_⟩
  refine iteF ?_
  refine ⟨_, rfl, fa, rfl, ⟨_, SqL.of hfa⟩, for_list (K := K) (a := fa) (xs := xs) (fun i σ H2 => ∃ u, σ = [some (.ref ca), some tv, some (.ref fa), u] ∧ Same H H2)
    ⟨none, rfl, .refl _⟩ (fun i σ H2 _ ⟨_, _, s2⟩ => SqL.of (s2 _ _ hfa)) ?_ ?_⟩
  · rintro i x σ H2 hi ⟨u, rfl, s2⟩
    obtain ⟨d, fl, rfl, hH⟩ := hF x (List.mem_of_getElem? hi)
    have hH2 : Has H2 d fl (cells c) := Has.keep s2 (Has.sub hH fun k hk => List.mem_map.mpr ⟨k, hg k hk, rfl⟩)
    refine ⟨_, rfl, ca, T.of c, dx, fs, rfl, s2 _ _ hca, ⟨c, rfl⟩, hme _ mem_truth, _, rfl, _, d, c, fl, rfl, hC.kp (.of s2), by omega, hH2, ?_⟩
    refine ⟨_, rfl, _, rfl, tv, c, d, fl, rfl, hT.keep s2, by omega, hn, hH2, fun H3 s3 => ?_⟩
    refine ⟨rfl, _, rfl, iteFd (by simp) ⟨_, rfl, s2.trans s3⟩⟩
  · rintro σ H2 ⟨u, rfl, s2⟩
    exact q H2 s2
theorem scFi : FnScope ["_law_script", "_law_gaps", "_law_found", "_law_k", "_law_state", "_law_values_here", "_law_filling", "_law_gap"] ["_law_script", "_law_gaps"] (defScope sFillings) := ⟨rfl, rfl, rfl, by decide +kernel, rfl, by decide +kernel, by decide +kernel⟩
theorem ok_fillings (Fn : Fun K "_law_fillings" "_law_fillings" sFillings f fd) (X : Txt mg) (C0 : Cal P w K mg base "_law_draw" 1 ["_law_state", "_law_many"] spDraw) (C1 : Cal P w K mg base "_law_seed" 1 ["_law_script", "_law_k"] (spSeed K)) (C2 : Cal P w K mg base "_law_values" 1 ["_law_cell_here"] spValues) : FnOk P w K mg base CX0 2 f fd ["_law_script", "_law_gaps"] (spFillings K) := by
  obtain ⟨f0, d0, G0, b0, k0, m0⟩ := C0
  obtain ⟨f1, d1, G1, b1, k1, m1⟩ := C1
  obtain ⟨f2, d2, G2, b2, k2, m2⟩ := C2
  refine Fn.ok (k := 1) scFi (fun vs H Q E h => ?_) (fun cdv A outer s H vs Q E hr h => ?_)
  · obtain ⟨sa, ga, ns, gs, rfl, _⟩ := h
    rfl
  obtain ⟨sa, ga, ns, gs, rfl, hS, hga, gl, q⟩ := h
  have hu := hu_of hr
  refine ⟨_, pss_cons (ps_set (i := 2) scFi.nd rfl (Or.inl rfl) (pe_lst pa_nil))
    (pss_cons (ps_for PassesOwn.never rfl (pi_range1 rfl X.range (pa_cons pe_int pa_nil)) (pg_name (i := 3) scFi.nd rfl (Or.inl rfl))
      (pss_cons (ps_set (i := 4) scFi.nd rfl (Or.inl rfl) (pe_lst (pa_cons (pe_op op_mod (pe_op op_add (pe_call G1 hr rfl m1 k1 b1 .nil pass0 (pa_cons (pv 0) (pa_cons pe_int pa_nil))) (pv 3)) pe_int) pa_nil)))
      (pss_cons (ps_set (i := 5) scFi.nd rfl (Or.inl rfl) (pe_call G2 hr rfl m2 k2 b2 .nil pass0 (pa_cons (pe_call G1 hr rfl m1 k1 b1 .nil pass0 (pa_cons (pv 0) (pa_cons pe_int pa_nil))) pa_nil)))
      (pss_cons (ps_set (i := 6) scFi.nd rfl (Or.inl rfl) pe_dnewK)
      (pss_cons (ps_for PassesOwn.never rfl (pi_list (pv 1)) (pg_name (i := 7) scFi.nd rfl (Or.inl rfl))
        (pss_one (ps_dput hu (pv 6) (pv 7) (pe_ix ix_list (pv 5) (pe_call G0 hr rfl m0 k0 b0 .nil pass0 (pa_cons (pv 4) (pa_cons (pe_callB call_len_seq rfl X.len PySem.boot_len (pa_cons (pv 5) pa_nil)) pa_nil))) (fun _ _ => rfl)) rfl)))
      (pss_one (ps_expr (pe_bm PySem.F.plainAttrs_list PySem.F.slot_list_append PySem.F.type_list_append mt_append (pv 2) (pa_cons (pv 6) pa_nil)))))))))
    (pss_one (ps_ret (pv 2)))), ?_⟩
  refine ⟨small (by simp), fun D hD => ?_⟩
  have s0 := same_new hD (.lst [])
  refine ⟨_, rfl, by decide, by decide, for_range (lo := 0) (n := (3 : Int).toNat) (fun i σ H2 => ∃ (u3 u4 u5 u6 u7 : Option V) (xs : List V), σ = [some (.ref sa), some (.ref ga), some (.ref D), u3, u4, u5, u6, u7] ∧ Same H H2 ∧ H2 D = some (.lst xs) ∧ xs.length = i ∧ ∀ x ∈ xs, Fll H2 gs x)
    ⟨none, none, none, none, none, [], rfl, s0, upd_same, rfl, fun x h => (nomatch h)⟩ ?_ ?_⟩
  · rintro i σ H2 hi ⟨u3, u4, u5, u6, u7, xs, rfl, s2, h2, xl, xF⟩
    refine ⟨_, rfl, sa, ns, 1, rfl, s2.seq hS, fun z1 => ⟨_, rfl, _, _, rfl, rfl, _, _, rfl, rfl, (by show (0 : Int) < 2147483647; decide), small (by simp), fun st hst => ?_⟩⟩
    have s3 := same_new hst (.lst [(fun i j : Int => V.int (i % j)) (z1 + (0 + (i : Int))) 2147483647])
    have h3 := upd_same (H := H2) (a := st) (o := .lst [(fun i j : Int => V.int (i % j)) (z1 + (0 + (i : Int))) 2147483647])
    generalize upd H2 st (.lst [(fun i j : Int => V.int (i % j)) (z1 + (0 + (i : Int))) 2147483647]) = H3 at s3 h3 ⊢
    obtain ⟨n0, h3⟩ : ∃ n0 : Int, H3 st = some (.lst [.int n0]) := ⟨_, h3⟩
    refine ⟨_, rfl, sa, ns, 1, rfl, (s2.trans s3).seq hS, fun z2 => ⟨z2, rfl, fun va vs hva vl => ?_⟩⟩
    have s4 := same_new hva (.lst (vs.map V.int))
    have h4 := upd_same (H := H3) (a := va) (o := .lst (vs.map V.int))
    have nva : va ≠ st := fun e => by rw [e, h3] at hva; cases hva
    generalize upd H3 va (.lst (vs.map V.int)) = H4 at s4 h4 ⊢
    refine fun d hd => ?_
    have s5 := same_new hd (.dK [])
    have h5 := upd_same (H := H4) (a := d) (o := .dK [])
    have nds : d ≠ st := fun e => by rw [e, s4 _ _ h3] at hd; cases hd
    have ndv : va ≠ d := fun e => by rw [← e, h4] at hd; cases hd
    generalize upd H4 d (.dK []) = H5 at s5 h5 ⊢
    have w5 : Same H2 H5 := s3.trans (s4.trans s5)
    have hst2 : H2 st = none := hst
    have hd2 : H2 d = none := same_back (s3.trans s4) hd
    refine ⟨_, rfl, ga, rfl, ⟨_, SqL.of (w5 _ _ (s2 _ _ hga))⟩, for_list (K := K) (a := ga) (xs := gs.map V.str) (fun j σ H6 => ∃ (u7 : Option V) (kvs : List (Key × V)) (n : Int), σ = [some (.ref sa), some (.ref ga), some (.ref D), some (.int (0 + (i : Nat))), some (.ref st), some (.ref va), some (.ref d), u7] ∧ Same H2 H6 ∧ H6 st = some (.lst [.int n]) ∧ H6 va = some (.lst (vs.map V.int)) ∧ H6 d = some (.dK kvs) ∧ kvs.length ≤ j ∧ ∀ x ∈ gs.take j, ∃ z, valV kvs (Sum.inr x : Key) = some (.int z))
      ⟨u7, [], n0, rfl, w5, s5 _ _ (s4 _ _ h3), s5 _ _ h4, h5, Nat.le_refl _, fun x hx => by rw [List.take_zero] at hx; cases hx⟩ (fun j σ H6 _ ⟨_, _, _, _, s6, _⟩ => SqL.of (s6 _ _ (s2 _ _ hga))) ?_ ?_⟩
    · rintro j x σ H6 hj ⟨u7', kvs, n, rfl, s6, h6s, h6v, h6d, kl, kF⟩
      obtain ⟨g, hgj, hgm, rfl⟩ := of_str hj
      have hjl := (List.getElem?_eq_some_iff.mp hgj).1
      refine ⟨_, rfl, _, rfl, _, rfl, va, _, rfl, .inl (SqL.of h6v), st, n, _, rfl, (by rw [List.length_map]; omega), h6s, fun z H7 t7 z0 z1' => ?_⟩
      obtain ⟨v, hv, ev⟩ := atN (ss := vs.map V.int) z0 z1'
      obtain ⟨y, hy, rfl⟩ := List.mem_map.mp hv
      have h7v := t7.k _ _ nva h6v
      have h7d := t7.k _ _ nds h6d
      obtain ⟨n7, hn7⟩ := t7.n
      refine ⟨va, _, _, _, rfl, rfl, SqL.of h7v, ev, _, rfl, _, rfl, d, _, rfl, DPut.k (k := Sum.inr g) h7d (small1000 (by omega)), ?_⟩
      refine ⟨_, _, n7, rfl, same_upd (t7.out s6 hst2) hd2 _, by rw [upd_ne (Ne.symm nds)]; exact hn7, by rw [upd_ne ndv]; exact h7v, upd_same, Nat.le_trans (length_putK _ _ _) (by omega), fun x hx => ?_⟩
      rw [valV_put]
      by_cases e : (Sum.inr x : Key) = Sum.inr g
      · rw [if_pos e]
        exact ⟨y, rfl⟩
      · rw [if_neg e]
        rw [take_snoc hgj] at hx
        rcases List.mem_append.mp hx with hx | hx
        · exact kF x hx
        · exact absurd (by rw [show x = g from by simpa using hx]) e
    · rintro σ H6 ⟨u7', kvs, n, rfl, s6, h6s, h6v, h6d, kl, kF⟩
      rw [List.length_map, List.take_length] at kF
      refine ⟨_, rfl, .inl ⟨rfl, _, SqL.of (s6 _ _ h2)⟩, _, rfl, D, _, _, rfl, rfl, s6 _ _ h2, small1000 (by omega), ?_⟩
      refine ⟨_, _, _, _, _, xs ++ [.ref d], rfl, same_upd (s2.trans s6) hD _, upd_same, by rw [List.length_append, xl]; rfl, fun x hx => ?_⟩
      refine Fll.updL (s6 _ _ h2) ?_
      rcases List.mem_append.mp hx with hx | hx
      · exact (xF x hx).keep s6
      · have : x = .ref d := by simpa using hx
        refine ⟨d, fvOf kvs, this, kvs, h6d, fun y hy => ?_⟩
        obtain ⟨y', hy', e⟩ := List.mem_map.mp hy
        obtain ⟨z, hz⟩ := kF y' hy'
        obtain rfl : y' = y := Sum.inr.inj e
        unfold fvOf
        rw [hz]
  · rintro σ H2 ⟨u3, u4, u5, u6, u7, xs, rfl, s2, h2, xl, xF⟩
    exact ⟨_, rfl, q D xs H2 s2 h2 xl xF⟩
end
end K31
set_option maxHeartbeats 4000000
namespace K31
open PySem L2 CD
theorem cut_ints (ns : List Int) : ∃ ms : List Int, cutV (ns.map V.int) (some 2) (some 10) = ms.map V.int ∧ ms.length ≤ 8 := by
  refine ⟨(ns.drop (min 2 ns.length)).take (min 10 ns.length - min 2 ns.length), ?_, ?_⟩
  · unfold cutV
    have e1 := HT.sIx_nat (ns.map V.int).length 0 2
    have e2 := HT.sIx_nat (ns.map V.int).length (ns.map V.int).length 10
    rw [show (some (2 : Int)) = some ((2 : Nat) : Int) from rfl, show (some (10 : Int)) = some ((10 : Nat) : Int) from rfl, e1, e2, List.length_map, ← List.map_drop, ← List.map_take]
  · rw [List.length_take]
    omega
theorem of_int {ns : List Int} {i : Nat} {x : V} (hi : (ns.map V.int)[i]? = some x) : ∃ n, ns[i]? = some n ∧ n ∈ ns ∧ x = V.int n := by
  rw [List.getElem?_map] at hi
  cases z : ns[i]? with
  | none => rw [z] at hi; cases hi
  | some v => rw [z] at hi; exact ⟨v, rfl, List.mem_of_getElem? z, (Option.some.inj hi).symm⟩
/-- what is drawn -/
structure Drw (H : Hp) (ca ga ra : Addr) (wv : V) (cs gs : List Str) (vals : List Int) (xs : List V) (rows : List Row) (wc : Cd) : Prop where
  ca : H ca = some (.lst (cs.map V.str))
  cn : cs.Nodup
  cl : cs.length ≤ 6
  ga : H ga = some (.lst (gs.map V.str))
  gl : gs.length ≤ 6
  vl : vals.length = 7
  ra : H ra = some (.lst xs)
  pr : Paired (RowT H) xs rows
  rl : rows.length ≤ 8
  ro : ∀ r ∈ rows, r.1.length = cs.length ∧ depth r.2 ≤ 3 ∧ nodes r.2 ≤ 16
  wt : IsT H wc wv
  wd : depth wc ≤ 3
  wn : nodes wc ≤ 16
  po : ∀ k, AllC rows wc k → k ∈ poolK gs vals
def spDrawn (K : PySem.W.Frag) : Sp := fun args H Q _ => ∃ (sa : Addr) (ns : List Int), args = [.ref sa] ∧ SqL K H sa (ns.map V.int) ∧
  ∀ (a ca ga ra : Addr) (wv : V) (cs gs : List Str) (vals : List Int) (xs : List V) (rows : List Row) (wc : Cd) (H' : Hp), Same H H' → H' a = some (.tup [.ref ca, .ref ga, .ref ra, wv]) → Drw H' ca ga ra wv cs gs vals xs rows wc → Q (.ref a) H'
theorem ndD : (["_law_name", "_law_line", "_law_gaps", "_law_values_here"] : List Str).Nodup := by decide +kernel
section
variable {P : Program} {w : World} {K : PySem.W.Frag} {mg : Str → Option Value} {base : Heap} {f : Addr} {fd : FuncData}
abbrev nmD : List Str := ["_law_script", "_law_state", "_law_columns", "_law_gaps", "_law_values_here", "_law_rows", "_law_cell_here", "_law_line", "_law_whole"]
theorem scDw : FnScope nmD ["_law_script"] (defScope sDrawn) := ⟨rfl, rfl, rfl, by decide +kernel, rfl, by decide +kernel, by decide +kernel⟩
theorem dr_tail {cdv : Value} {A : Around} {outer : List Env} {s : Shared} {H0' : Hp} {E : XK} (hr : Room 6 (A.deeper (PyProof.Rows.envOfC "_law_drawn" (defScope sDrawn) s.heap.objs.size f cdv)))
    (C0 : Cal P w K mg base "_law_draw" 1 ["_law_state", "_law_many"] spDraw) (C1 : Cal P w K mg base "_law_seed" 1 ["_law_script", "_law_k"] (spSeed K)) (C2 : Cal P w K mg base "_law_values" 1 ["_law_cell_here"] spValues)
    (C3 : Cal P w K mg base "_law_cell" 2 ["_law_state", "_law_gaps", "_law_values_here"] spCell) (C4 : Cal P w K mg base "_law_cond" 6 psC (spCond 2)) :
    ∃ t, PSs (cxOf CX0 P w K mg base nmD "_law_drawn" (defScope sDrawn) f cdv A outer s H0' E).nox ((defBody sDrawn).drop 4) t ∧
      ∀ (Q : VK) (H0 H : Hp) (sa st ca ga : Addr) (n : Int) (ns : List Int) (cs gs : List Str), SqL K H0 sa (ns.map V.int) → Same H0 H → H0 st = none → H st = some (.lst [.int n]) → H ca = some (.lst (cs.map V.str)) → cs.Nodup → cs.length ≤ 6 → H ga = some (.lst (gs.map V.str)) → gs.length ≤ 6 →
        (∀ (a ra : Addr) (wv : V) (vals : List Int) (xs : List V) (rows : List Row) (wc : Cd) (H' : Hp), Same H0 H' → H' a = some (.tup [.ref ca, .ref ga, .ref ra, wv]) → Drw H' ca ga ra wv cs gs vals xs rows wc → Q (.ref a) H') →
        t { nx := fun _ H' => Q .non H', rt := Q } [some (.ref sa), some (.ref st), some (.ref ca), some (.ref ga), none, none, none, none, none] H := by
  obtain ⟨f0, d0, G0, b0, k0, m0⟩ := C0
  obtain ⟨f1, d1, G1, b1, k1, m1⟩ := C1
  obtain ⟨f2, d2, G2, b2, k2, m2⟩ := C2
  obtain ⟨f3, d3, G3, b3, k3, m3⟩ := C3
  obtain ⟨f4, d4, G4, b4, k4, m4⟩ := C4
  have hr1 : Room 1 _ := hr.mono (by decide)
  have hr2 : Room 2 _ := hr.mono (by decide)
  refine ⟨_, pss_cons (ps_set (i := 4) scDw.nd rfl (Or.inr rfl) (pe_call G2 hr1 rfl m2 k2 b2 .nil pass0 (pa_cons (pe_call G1 hr1 rfl m1 k1 b1 .nil pass0 (pa_cons (pv 0) (pa_cons pe_int pa_nil))) pa_nil)))
    (pss_cons (ps_set (i := 5) scDw.nd rfl (Or.inl rfl) (pe_lst pa_nil))
    (pss_cons (ps_for PassesOwn.never rfl (pi_list (pe_slice sl_list (pv 0) (po_some pe_int) (po_some pe_int))) (pg_name (i := 6) scDw.nd rfl (Or.inl rfl))
      (pss_cons (ps_set (i := 7) scDw.nd rfl (Or.inr rfl) (pe_lst (pa_cons (pe_op op_mod (pv 6) pe_int) pa_nil)))
      (pss_one (ps_expr (pe_bm PySem.F.plainAttrs_list PySem.F.slot_list_append PySem.F.type_list_append mt_append (pv 5) (pa_cons (pe_tup (pa_cons
          (pe_lcG (caps := [("_law_line", 7), ("_law_gaps", 3), ("_law_values_here", 4)]) ["_law_name"] rfl (pi_list (pv 2)) ⟨rfl, by decide +kernel, by decide +kernel, rfl, .cons rfl (.inl rfl) rfl (.cons rfl (.inl rfl) rfl (.cons rfl (.inl rfl) rfl .nil)), rfl, rfl, rfl⟩
            (fun s H ex => pg_name (X := cxLG _ _ _ _ s H ex) (i := 0) ndD rfl (Or.inl rfl) (.inr rfl)) (fun s H ex => pif_nil)
            (fun s H ex => pe_call (X := cxLG _ _ _ _ s H ex) G3 hr2 rfl m3 k3 b3 .nil pass0 (pa_cons (pe_var (X := cxLG _ _ _ _ s H ex) (i := 1) rfl (Or.inr (Or.inl rfl))) (pa_cons (pe_var (X := cxLG _ _ _ _ s H ex) (i := 2) rfl (Or.inr (Or.inl rfl))) (pa_cons (pe_var (X := cxLG _ _ _ _ s H ex) (i := 3) rfl (Or.inr (Or.inl rfl))) pa_nil)))))
          (pa_cons (pe_call G4 hr rfl m4 k4 b4 .nil pass0 (pa_cons (pv 7) (pa_cons (pv 3) (pa_cons (pv 4) (pa_cons pe_int pa_nil))))) pa_nil))) pa_nil))))))
    (pss_cons (ps_set (i := 8) scDw.nd rfl (Or.inl rfl) (pe_call G4 hr rfl m4 k4 b4 .nil pass0 (pa_cons (pv 1) (pa_cons (pv 3) (pa_cons (pv 4) (pa_cons pe_int pa_nil))))))
    (pss_cons (ps_if (pt_cmpR op_eq (pe_call G0 hr1 rfl m0 k0 b0 .nil pass0 (pa_cons (pv 1) (pa_cons pe_int pa_nil))) pe_int (nomark _)) (pss_one (ps_set (i := 8) scDw.nd rfl (Or.inl rfl) (pe_tup (pa_cons pe_str (pa_cons pe_bl pa_nil))))) pss_nil)
    (pss_one (ps_ret (pe_tup (pa_cons (pv 2) (pa_cons (pv 3) (pa_cons (pv 5) (pa_cons (pv 8) pa_nil))))))))))), ?_⟩
  intro Q H0 H sa st ca ga n ns cs gs hS s0 hst0 hst hca csn csl hga gsl q
  have nca := st_ne hst hca
  have nga := st_ne hst hga
  refine ⟨_, rfl, sa, ns, 1, rfl, s0.seq hS, fun z1 => ⟨z1, rfl, fun va vals hva vl => ?_⟩⟩
  have s1 := same_new hva (.lst (vals.map V.int))
  have h1v := upd_same (H := H) (a := va) (o := .lst (vals.map V.int))
  have nva : va ≠ st := fun e => by rw [e, hst] at hva; cases hva
  generalize upd H va (.lst (vals.map V.int)) = H1 at s1 h1v ⊢
  refine ⟨small (by simp), fun D hD => ?_⟩
  have s2 := same_new hD (.lst [])
  have h2D := upd_same (H := H1) (a := D) (o := .lst [])
  generalize upd H1 D (.lst []) = HD at s2 h2D ⊢
  have hstD := s2 _ _ (s1 _ _ hst)
  have hD0 : H0 D = none := same_back (s0.trans s1) hD
  have nD : D ≠ st := fun e => by rw [e, s1 _ _ hst] at hD; cases hD
  have wD : Same H0 HD := s0.trans (s1.trans s2)
  refine ⟨_, rfl, _, rfl, _, rfl, sa, _, rfl, wD.seq hS, fun ia hia => ?_⟩
  obtain ⟨ms, ems, msl⟩ := cut_ints ns
  rw [ems]
  have s3 := same_new hia (.lst (ms.map V.int))
  have h3i := upd_same (H := HD) (a := ia) (o := .lst (ms.map V.int))
  generalize upd HD ia (.lst (ms.map V.int)) = H3 at s3 h3i ⊢
  have nia : D ≠ ia := fun e => by rw [← e, h2D] at hia; cases hia
  have w3 : Same H0 H3 := wD.trans s3
  have hst3 := s3 _ _ hstD
  have hca3 := s3 _ _ (s2 _ _ (s1 _ _ hca))
  have hga3 := s3 _ _ (s2 _ _ (s1 _ _ hga))
  have hva3 := s3 _ _ (s2 _ _ h1v)
  have hDD3 := s3 _ _ h2D
  refine ⟨ia, rfl, ⟨_, SqL.of h3i⟩, for_list (K := K) (a := ia) (xs := ms.map V.int) (fun i σ H4 => ∃ (u6 u7 : Option V) (xs : List V) (rows : List Row), σ = [some (.ref sa), some (.ref st), some (.ref ca), some (.ref ga), some (.ref va), some (.ref D), u6, u7, none] ∧ (∀ b o, b ≠ D → H3 b = some o → H4 b = some o) ∧ H4 D = some (.lst xs) ∧ Paired (RowT (nw H3 H4)) xs rows ∧ rows.length = i ∧ (∀ r ∈ rows, r.1.length = cs.length ∧ depth r.2 ≤ 3 ∧ nodes r.2 ≤ 16) ∧ ∀ r ∈ rows, ∀ k, k ∈ r.1 ∨ k ∈ cells r.2 → k ∈ poolK gs vals)
    ⟨none, none, [], [], rfl, fun b o _ h => h, hDD3, .nil, rfl, fun r h => (nomatch h), fun r h => (nomatch h)⟩ (fun i σ H4 _ ⟨_, _, _, _, _, k4, _⟩ => SqL.of (k4 _ _ (Ne.symm nia) h3i)) ?_ ?_⟩
  · rintro i x σ H4 hi ⟨u6, u7, xs, rows, rfl, k4', h4D, hP, rl, ro, rp⟩
    obtain ⟨y, hyi, _, rfl⟩ := of_int hi
    have hil := (List.getElem?_eq_some_iff.mp hyi).1
    refine ⟨_, rfl, _, _, rfl, rfl, (by show (0 : Int) < 2147483647; decide), small (by simp), fun ln hln => ?_⟩
    have s5 := same_new hln (.lst [(fun i j : Int => V.int (i % j)) y 2147483647])
    have h5 := upd_same (H := H4) (a := ln) (o := .lst [(fun i j : Int => V.int (i % j)) y 2147483647])
    generalize upd H4 ln (.lst [(fun i j : Int => V.int (i % j)) y 2147483647]) = H5 at s5 h5 ⊢
    obtain ⟨n5, h5⟩ : ∃ n5 : Int, H5 ln = some (.lst [.int n5]) := ⟨_, h5⟩
    have back4 : ∀ a, H4 a = none → H3 a = none := fun a h => by
      by_cases z : a = D
      · rw [z, h4D] at h; cases h
      · cases e : H3 a with
        | none => rfl
        | some o => rw [k4' a o z e] at h; cases h
    have ncaD : ca ≠ D := fun e => by rw [← e, s1 _ _ hca] at hD; cases hD
    have ngaD : ga ≠ D := fun e => by rw [← e, s1 _ _ hga] at hD; cases hD
    have nvaD : va ≠ D := fun e => by rw [← e, h1v] at hD; cases hD
    have hca4 := k4' _ _ ncaD hca3
    have hga4 := k4' _ _ ngaD hga3
    have hva4 := k4' _ _ nvaD hva3
    have nvl : va ≠ ln := fun e => by rw [e, hln] at hva4; cases hva4
    refine ⟨_, rfl, .inl ⟨rfl, _, SqL.of (s5 _ _ h4D)⟩, _, rfl, ca, rfl, ⟨_, SqL.of (s5 _ _ hca4)⟩, fun R hR => ?_⟩
    have hR4 := same_back s5 hR
    have nRl : R ≠ ln := fun e => by rw [e, h5] at hR; cases hR
    refine lcg_listR (K := K) (a := ca) (xs := cs.map V.str) (fun j σ H6 => ∃ (u : Option V) (ks : List Key) (n6 : Int), σ = [u, some (.ref ln), some (.ref ga), some (.ref va)] ∧ Same H4 H6 ∧ H6 ln = some (.lst [.int n6]) ∧ H6 R = some (.lst (ks.map kV)) ∧ ks.length = j ∧ ∀ k ∈ ks, k ∈ poolK gs vals)
      ⟨none, [], n5, rfl, s5.trans (same_new hR _), (same_new hR _) _ _ h5, upd_same, rfl, fun k h => (nomatch h)⟩ (fun j σ H6 _ ⟨_, _, _, _, s6, _⟩ => SqL.of (s6 _ _ hca4)) ?_ ?_
    · rintro j x σ H6 hj ⟨u, ks, n6, rfl, s6, h6l, h6R, kl, kp⟩
      have hjl := (List.getElem?_eq_some_iff.mp hj).1
      rw [List.length_map] at hjl
      refine ⟨_, rfl, _, rfl, _, rfl, ln, ga, va, n6, gs, vals, rfl, h6l, s6 _ _ hga4, by omega, s6 _ _ hva4, by omega, by omega, nvl, fun k H7 t7 hk => ?_⟩
      have h7R := t7.k _ _ nRl h6R
      obtain ⟨n7, hn7⟩ := t7.n
      refine ⟨_, h7R, small1000 (by rw [List.length_map]; omega), _, ks ++ [k], n7, rfl, same_upd (t7.out s6 hln) hR4 _, by rw [upd_ne (Ne.symm nRl)]; exact hn7, by rw [upd_same, List.map_append]; rfl, by rw [List.length_append, kl]; rfl, fun k' hk' => ?_⟩
      rcases List.mem_append.mp hk' with h | h
      · exact kp k' h
      · rw [show k' = k from by simpa using h]; exact hk
    rintro σ H6 ⟨u, ks, n6, rfl, s6, h6l, h6R, kl, kp⟩
    rw [List.length_map] at kl
    refine ⟨_, rfl, _, rfl, _, rfl, ln, ga, va, n6, gs, vals, rfl, h6l, s6 _ _ hga4, by omega, s6 _ _ hva4, by omega, by omega, nvl, fun tv H8 c t8 hT hdp hnd hcl => ⟨small (by simp), fun a ha => ?_⟩⟩
    have s8 : Same H4 H8 := t8.out s6 hln
    have s9 := same_new ha (.tup [.ref R, tv])
    have h9 := upd_same (H := H8) (a := a) (o := .tup [.ref R, tv])
    have h8R := t8.k _ _ nRl h6R
    have ha4 := same_back s8 ha
    have naD : a ≠ D := fun e => by rw [e, s8 _ _ h4D] at ha; cases ha
    have nRD : R ≠ D := fun e => by rw [e, h4D] at hR4; cases hR4
    generalize upd H8 a (.tup [.ref R, tv]) = H9 at s9 h9 ⊢
    have w9 := s8.trans s9
    refine ⟨D, _, _, rfl, rfl, w9 _ _ h4D, small1000 (by rw [plen hP]; omega), _, _, xs ++ [.ref a], rows ++ [(ks, c)], rfl, fun b o nb hb => by rw [upd_ne nb]; exact w9 _ _ (k4' b o nb hb), upd_same, psnoc (pmap (fun _ _ h => h.keep ((nw_s w9).trans (nw_upd hDD3))) hP) ⟨a, R, tv, rfl, nw_mk (back4 a ha4) (by rw [upd_ne naD]; exact h9), nw_mk (back4 R hR4) (by rw [upd_ne nRD]; exact s9 _ _ h8R), hT.keep (((nw_out fun b h => back4 b (same_back s6 h)).trans (nw_s s9)).trans (nw_upd hDD3))⟩, by rw [List.length_append, rl]; rfl, fun r hr => ?_, fun r hr k hk => ?_⟩
    · rcases List.mem_append.mp hr with h | h
      · exact ro r h
      · rw [show r = (ks, c) from by simpa using h]
        exact ⟨kl, hdp, hnd⟩
    · rcases List.mem_append.mp hr with h | h
      · exact rp r h k hk
      · rw [show r = (ks, c) from by simpa using h] at hk
        exact hk.elim (kp k) (hcl k)
  · rintro σ H4 ⟨u6, u7, xs, rows, rfl, k4', h4D, hP, rl, ro, rp⟩
    rw [List.length_map] at rl
    have ncaD : ca ≠ D := fun e => by rw [← e, s1 _ _ hca] at hD; cases hD
    have ngaD : ga ≠ D := fun e => by rw [← e, s1 _ _ hga] at hD; cases hD
    have nvaD : va ≠ D := fun e => by rw [← e, h1v] at hD; cases hD
    have fin : ∀ (H7 : Hp) (wv : V) (wc : Cd), KS st H4 H7 → IsT H7 wc wv → depth wc ≤ 3 → nodes wc ≤ 16 → (∀ k ∈ cells wc, k ∈ poolK gs vals) → ∀ a, H7 a = none → Q (.ref a) (upd H7 a (.tup [.ref ca, .ref ga, .ref D, wv])) := fun H7 wv wc t7 hT hdp hnd hcl a ha => by
      have s8 := same_new ha (.tup [.ref ca, .ref ga, .ref D, wv])
      have g : ∀ b o, b ≠ D → b ≠ st → H3 b = some o → upd H7 a (.tup [.ref ca, .ref ga, .ref D, wv]) b = some o := fun b o n1 n2 h => s8 _ _ (t7.k _ _ n2 (k4' b o n1 h))
      refine q a D wv vals xs rows wc _ (fun b o h => g b o (fun e => by rw [e, hD0] at h; cases h) (fun e => by rw [e, hst0] at h; cases h) (w3 _ _ h)) upd_same ⟨g _ _ ncaD nca hca3, csn, csl, g _ _ ngaD nga hga3, gsl, vl, s8 _ _ (t7.k _ _ nD h4D), pmap (fun _ _ h => h.keep (((nw_ks hst3 t7).trans (nw_same _ _)).trans s8)) hP, by omega, ro, hT.keep s8, hdp, hnd, ?_⟩
      rintro k (⟨r, hr, hk⟩ | hk)
      · exact rp r hr k hk
      · exact hcl k hk
    have hst4 := k4' _ _ (Ne.symm nD) hst3
    refine ⟨_, rfl, _, rfl, _, rfl, st, ga, va, n, gs, vals, rfl, hst4, k4' _ _ ngaD hga3, by omega, k4' _ _ nvaD hva3, by omega, by omega, nva, fun wv H6 wc t6 hT hdp hnd hcl => ?_⟩
    obtain ⟨n6, hn6⟩ := t6.n
    refine ⟨_, rfl, st, n6, 4, rfl, by decide, hn6, fun z H7 t7 _ _ => ⟨rfl, _, rfl, ite2 (fun _ => ?_) (fun _ => ?_)⟩⟩
    · refine ⟨small (by simp), fun a ha => ?_⟩
      have s8 := same_new ha (.tup [.str "truth", .bl true])
      have h8 := upd_same (H := H7) (a := a) (o := .tup [.str "truth", .bl true])
      generalize upd H7 a (.tup [.str "truth", .bl true]) = H8 at s8 h8 ⊢
      exact ⟨_, rfl, _, rfl, _, rfl, _, rfl, small (by simp), fun b hb => fin H8 (.ref a) (.truth true) ((t6.trans t7).same s8) (by simp only [IsT]; exact ⟨a, rfl, h8⟩) (by simp [depth]) (by simp [nodes]) (by simp [cells]) b hb⟩
    · exact ⟨_, rfl, _, rfl, _, rfl, _, rfl, small (by simp), fun b hb => fin H7 wv wc (t6.trans t7) (hT.keep ((nw_ks hst4 t7).trans (nw_same _ _))) hdp hnd hcl b hb⟩
end
end K31
set_option maxHeartbeats 4000000
namespace K31
open PySem L2 CD
theorem ixN0 {n : Nat} : ixN (n + 1) 0 = some 0 := by
  unfold ixN
  simp <;> omega
section
variable {P : Program} {w : World} {K : PySem.W.Frag} {mg : Str → Option Value} {base : Heap} {f : Addr} {fd : FuncData}
theorem ok_drawn (Fn : Fun K "_law_drawn" "_law_drawn" sDrawn f fd)
    (C0 : Cal P w K mg base "_law_draw" 1 ["_law_state", "_law_many"] spDraw) (C1 : Cal P w K mg base "_law_seed" 1 ["_law_script", "_law_k"] (spSeed K)) (C2 : Cal P w K mg base "_law_values" 1 ["_law_cell_here"] spValues)
    (C3 : Cal P w K mg base "_law_cell" 2 ["_law_state", "_law_gaps", "_law_values_here"] spCell) (C4 : Cal P w K mg base "_law_cond" 6 psC (spCond 2)) (C5 : Cal P w K mg base "_law_words" 3 ["_law_state", "_law_many"] spWords) : FnOk P w K mg base CX0 7 f fd ["_law_script"] (spDrawn K) := by
  refine Fn.ok (k := 6) scDw (fun vs H Q E h => ?_) (fun cdv A outer s H vs Q E hr h => ?_)
  · obtain ⟨sa, ns, rfl, _⟩ := h
    rfl
  obtain ⟨sa, ns, rfl, hS, q⟩ := h
  obtain ⟨tt, ht, q3⟩ := dr_tail (P := P) (w := w) (K := K) (mg := mg) (base := base) (f := f) (outer := outer) (H0' := H) (E := E) hr C0 C1 C2 C3 C4
  obtain ⟨f0, d0, G0, b0, k0, m0⟩ := C0
  obtain ⟨f1, d1, G1, b1, k1, m1⟩ := C1
  obtain ⟨f5, d5, G5, b5, k5, m5⟩ := C5
  have hu8 := hu8_of hr
  have hr1 : Room 1 _ := hr.mono (by decide)
  have hr3 : Room 3 _ := hr.mono (by decide)
  refine ⟨_, pss_cons (ps_set (i := 1) scDw.nd rfl (Or.inl rfl) (pe_lst (pa_cons (pe_op op_mod (pe_call G1 hr1 rfl m1 k1 b1 .nil pass0 (pa_cons (pv 0) (pa_cons pe_int pa_nil))) pe_int) pa_nil)))
    (pss_cons (ps_set (i := 2) scDw.nd rfl (Or.inl rfl) (pe_call G5 hr3 rfl m5 k5 b5 .nil pass0 (pa_cons (pv 1) (pa_cons (pe_call G0 hr1 rfl m0 k0 b0 .nil pass0 (pa_cons (pv 1) (pa_cons pe_int pa_nil))) pa_nil))))
    (pss_cons (ps_set (i := 3) scDw.nd rfl (Or.inr rfl) (pe_call G5 hr3 rfl m5 k5 b5 .nil pass0 (pa_cons (pv 1) (pa_cons (pe_call G0 hr1 rfl m0 k0 b0 .nil pass0 (pa_cons (pv 1) (pa_cons pe_int pa_nil))) pa_nil))))
    (pss_cons (ps_if (PW.pt (pw_and (pt_cmpR (op_ne_nil hu8) (pv 2) (pe_lst pa_nil) (nomark _)) (pw_and (pt_cmpR (op_ne_nil hu8) (pv 3) (pe_lst pa_nil) (nomark _)) (pw_and (pt_cmpR op_eq (pe_call G0 hr1 rfl m0 k0 b0 .nil pass0 (pa_cons (pv 1) (pa_cons pe_int pa_nil))) pe_int (nomark _)) (pw_and1 (pt_cmpR op_notIn_seq (pe_ix ix_list (pv 2) pe_int (fun _ _ => rfl)) (pv 3) rfl))))))
      (pss_one (ps_asg (pe_ix ix_list (pv 2) pe_int (fun _ _ => rfl)) (pg_sub (pv 3) pe_int set_list))) pss_nil)
    ht))), ?_⟩
  refine ⟨_, rfl, sa, ns, 0, rfl, hS, fun z0 => ⟨_, _, rfl, rfl, (by show (0 : Int) < 2147483647; decide), small (by simp), fun st hst => ?_⟩⟩
  have s1 := same_new hst (.lst [(fun i j : Int => V.int (i % j)) z0 2147483647])
  have h1 := upd_same (H := H) (a := st) (o := .lst [(fun i j : Int => V.int (i % j)) z0 2147483647])
  generalize upd H st (.lst [(fun i j : Int => V.int (i % j)) z0 2147483647]) = H1 at s1 h1 ⊢
  obtain ⟨n1, h1⟩ : ∃ n1 : Int, H1 st = some (.lst [.int n1]) := ⟨_, h1⟩
  refine ⟨_, rfl, _, rfl, st, n1, 7, rfl, by decide, h1, fun zc H2 t2 c0 c7 => ?_⟩
  obtain ⟨mc, rfl⟩ := Int.eq_ofNat_of_zero_le c0
  obtain ⟨n2, h2⟩ := t2.n
  refine ⟨st, n2, mc, rfl, h2, by omega, fun ca cs H3 t3 hca0 hca cnd cl cw => ?_⟩
  obtain ⟨n3, h3⟩ := t3.n
  refine ⟨_, rfl, _, rfl, st, n3, 6, rfl, by decide, h3, fun zg H4 t4 g0 g6 => ?_⟩
  obtain ⟨mgn, rfl⟩ := Int.eq_ofNat_of_zero_le g0
  obtain ⟨n4, h4⟩ := t4.n
  refine ⟨st, n4, mgn, rfl, h4, by omega, fun ga gs H5 t5 hga0 hga gnd gl gw => ?_⟩
  have nca := st_ne h3 hca
  have hca4 := t4.k _ _ nca hca
  have hca5 := t5.k _ _ nca hca4
  have s5 : Same H H5 := ((t2.trans t3).trans (t4.trans t5)).out s1 hst
  obtain ⟨n5, h5⟩ := t5.n
  have nga := st_ne h5 hga
  have ncg : ca ≠ ga := fun e => by rw [e, hga0] at hca4; cases hca4
  have hga00 : H ga = none := same_back ((t2.trans (t3.trans t4)).out s1 hst) hga0
  have rest : ∀ H6, KS st H5 H6 → tt { nx := fun _ H' => Q .non H', rt := Q } [some (.ref sa), some (.ref st), some (.ref ca), some (.ref ga), none, none, none, none, none] H6 := fun H6 t6 => by
    obtain ⟨n6, h6⟩ := t6.n
    exact q3 Q H H6 sa st ca ga n6 ns cs gs hS (t6.out s5 hst) hst h6 (t6.k _ _ nca hca5) cnd (by omega) (t6.k _ _ nga hga) (by omega) (fun a ra wv vals xs rows wc H' s' ha hD => q a ca ga ra wv cs gs vals xs rows wc H' s' ha hD)
  refine ⟨_, rfl, small (by simp), fun e1 he1 => ?_⟩
  have s6 := same_new he1 (.lst [])
  have h6 := upd_same (H := H5) (a := e1) (o := .lst [])
  generalize upd H5 e1 (.lst []) = H6 at s6 h6 ⊢
  have t6 : KS st H5 H6 := KS.of s6 h5
  refine ⟨ca, e1, _, rfl, rfl, SqL.of (s6 _ _ hca5), SqL.of h6, _, rfl, ?_⟩
  cases cs with
  | nil => exact iteF (iteF (rest H6 t6))
  | cons c1 cr =>
  refine iteT ⟨_, rfl, small (by simp), fun e2 he2 => ?_⟩
  have s7 := same_new he2 (.lst [])
  have h7 := upd_same (H := H6) (a := e2) (o := .lst [])
  generalize upd H6 e2 (.lst []) = H7 at s7 h7 ⊢
  have t7 := t6.same s7
  refine ⟨ga, e2, _, rfl, rfl, SqL.of (s7 _ _ (s6 _ _ hga)), SqL.of h7, _, rfl, ?_⟩
  cases gs with
  | nil => exact iteF (iteF (rest H7 t7))
  | cons g1 gr =>
  obtain ⟨n7, hn7⟩ := t7.n
  refine iteT ⟨_, rfl, st, n7, 3, rfl, by decide, hn7, fun z3 H8 t8 _ _ => ⟨rfl, _, rfl, ?_⟩⟩
  have t88 := t7.trans t8
  refine ite2 (fun _ => ?_) (fun _ => iteF (rest H8 t88))
  have hca8 := t88.k _ _ nca hca5
  have hga8 := t88.k _ _ nga hga
  refine ⟨_, rfl, ca, _, _, _, rfl, rfl, SqL.of hca8, at0, _, rfl, ga, _, rfl, .inl (SqL.of hga8), rfl, str_flat _, _, rfl, ?_⟩
  refine ite2 (fun _ => ?_) (fun _ => rest H8 t88)
  refine ⟨_, rfl, ca, _, _, _, rfl, rfl, SqL.of hca8, at0, _, rfl, ga, _, 0, 0, rfl, rfl, hga8, ixN0, ?_⟩
  obtain ⟨n8, hn8⟩ := t88.n
  refine q3 Q H _ sa st ca ga n8 ns (c1 :: cr) (c1 :: gr) hS (same_upd (t88.out s5 hst) hga00 _) hst (by rw [upd_ne (Ne.symm nga)]; exact hn8) (by rw [upd_ne ncg]; exact hca8) cnd (by omega) upd_same (by simp at gl ⊢; omega) (fun a ra wv vals xs rows wc H' s' ha hD => q a ca ga ra wv _ _ vals xs rows wc H' s' ha hD)
end
end K31
set_option maxHeartbeats 4000000
namespace K31
open PySem L2 CD
/-- a row that is handed on: its cells in a new list or a new tuple -/
def LnI (T : Cl) (H H' : Hp) (i : Nat) (y : V) (r : Row) : Prop := ∃ (a rr : Addr) (cv : V), y = .ref a ∧ H a = none ∧ H' a = some (.tup [.ref rr, cv]) ∧ H rr = none ∧ (i % 2 = 0 → H' rr = some (.lst (r.1.map kV))) ∧ (i % 2 = 1 → H' rr = some (.tup (r.1.map kV))) ∧ IsC T H' r.2 cv
theorem get_snoc {α : Type} {ys : List α} {b y : α} {j : Nat} (h : (ys ++ [b])[j]? = some y) : ys[j]? = some y ∨ (j = ys.length ∧ y = b) := by
  by_cases z : j < ys.length
  · rw [List.getElem?_append_left z] at h
    exact .inl h
  · rw [List.getElem?_append_right (by omega)] at h
    have : j - ys.length = 0 := by
      have := (List.getElem?_eq_some_iff.mp h).1
      simp at this
      omega
    rw [this] at h
    exact .inr ⟨by omega, by simpa using h.symm⟩
def spLines (T : Cl) : Sp := fun args H Q _ => ∃ (ra : Addr) (xs : List V) (rows : List Row) (pool : List Key), args = [.ref ra] ∧ H ra = some (.lst xs) ∧ Paired (RowT H) xs rows ∧ rows.length ≤ 8 ∧ (∀ r ∈ rows, depth r.2 ≤ 3 ∧ nodes r.2 ≤ 16) ∧ pool.length ≤ 40 ∧ (∀ r ∈ rows, ∀ k ∈ cells r.2, k ∈ pool) ∧
  ∀ (l : Addr) (ys : List V) (H' : Hp), Same H H' → H l = none → H' l = some (.lst ys) → ys.length = rows.length → (∀ i y, ys[i]? = some y → ∃ r, rows[i]? = some r ∧ LnI T H H' i y r) → Q (.ref l) H'
theorem LnI.step {T : Cl} {H H2 H6 : Hp} {D : Addr} {o : HO} {zs zs' : List V} {i : Nat} {y : V} {r : Row} (h : LnI T H H2 i y r) (hD : H D = some o) (s : Same H2 H6) (h6 : H6 D = some (.lst zs)) : LnI T H (upd H6 D (.lst zs')) i y r := by
  obtain ⟨a, rr, cv, e, h1, h2, h3, h4, h5, hC⟩ := h
  have na : a ≠ D := fun e => by rw [e, hD] at h1; cases h1
  have nr : rr ≠ D := fun e => by rw [e, hD] at h3; cases h3
  have kp : Kp H6 (upd H6 D (.lst zs')) := ⟨fun b xs h => by rw [upd_ne (fun e => by rw [e, h6] at h; cases h)]; exact h, fun b C dx fs h => by rw [upd_ne (fun e => by rw [e, h6] at h; cases h)]; exact h⟩
  exact ⟨a, rr, cv, e, h1, by rw [upd_ne na]; exact s _ _ h2, h3, fun z => by rw [upd_ne nr]; exact s _ _ (h4 z), fun z => by rw [upd_ne nr]; exact s _ _ (h5 z), (hC.kp (.of s)).kp kp⟩
theorem LnI.out {T : Cl} {H0 H H' : Hp} {i : Nat} {y : V} {r : Row} (k : ∀ a, H a = none → H0 a = none) (h : LnI T H H' i y r) : LnI T H0 H' i y r := by
  obtain ⟨a, rr, cv, e, h1, h2, h3, h4⟩ := h
  exact ⟨a, rr, cv, e, k a h1, h2, k rr h3, h4⟩
section
variable {P : Program} {w : World} {K : PySem.W.Frag} {mg : Str → Option Value} {base : Heap} {f : Addr} {fd : FuncData} {T : Cl}
theorem scLn : FnScope ["_law_rows", "_law_found", "_law_k", "_law_cells_here"] ["_law_rows"] (defScope sLines) := ⟨rfl, rfl, rfl, by decide +kernel, rfl, by decide +kernel, by decide +kernel⟩
theorem ok_lines (Fn : Fun K "_law_lines" "_law_lines" sLines f fd) (X : Txt mg) (C1 : Cal P w K mg base "_law_made" 47 ["_law_cond_here"] (spMade T 3)) : FnOk P w K mg base CX0 48 f fd ["_law_rows"] (spLines T) := by
  obtain ⟨f1, d1, G1, b1, k1, m1⟩ := C1
  refine Fn.ok (k := 47) scLn (fun vs H Q E h => ?_) (fun cdv A outer s H vs Q E hr h => ?_)
  · obtain ⟨ra, xs, rows, pool, rfl, _⟩ := h
    rfl
  obtain ⟨ra, xs, rows, pool, rfl, hra, hP, rl, ro, pl, rp, q⟩ := h
  have len := plen hP
  refine ⟨_, pss_cons (ps_set (i := 1) scLn.nd rfl (Or.inl rfl) (pe_lst pa_nil))
    (pss_cons (ps_for PassesOwn.never rfl (pi_range1 rfl X.range (pa_cons (pe_callB call_len_seq rfl X.len PySem.boot_len (pa_cons (pv 0) pa_nil)) pa_nil)) (pg_name (i := 2) scLn.nd rfl (Or.inl rfl))
      (pss_cons (ps_set (i := 3) scLn.nd rfl (Or.inl rfl) (pe_callTy call_list_of rfl X.list PyProof.Rows.boot_list (pa_cons (pe_ix ix_tup (pe_ix ix_list (pv 0) (pv 2) (fun _ _ => rfl)) pe_int (fun _ _ => rfl)) pa_nil)))
      (pss_cons (ps_if (pt_cmpR op_eq (pe_op op_mod (pv 2) pe_int) pe_int (nomark _)) (pss_one (ps_set (i := 3) scLn.nd rfl (Or.inl rfl) (pe_callTy call_tuple_of rfl X.tuple PyProof.Rows.boot_tuple (pa_cons (pv 3) pa_nil)))) pss_nil)
      (pss_one (ps_expr (pe_bm PySem.F.plainAttrs_list PySem.F.slot_list_append PySem.F.type_list_append mt_append (pv 1) (pa_cons (pe_tup (pa_cons (pv 3) (pa_cons (pe_call G1 hr rfl m1 k1 b1 .nil pass0 (pa_cons (pe_ix ix_tup (pe_ix ix_list (pv 0) (pv 2) (fun _ _ => rfl)) pe_int (fun _ _ => rfl)) pa_nil)) pa_nil))) pa_nil)))))))
    (pss_one (ps_ret (pv 1)))), ?_⟩
  refine ⟨small (by simp), fun D hD => ?_⟩
  have s0 := same_new hD (.lst [])
  refine ⟨_, rfl, ra, _, rfl, .inl (SqL.of (s0 _ _ hra)), _, rfl, by omega, by omega, for_range (lo := 0) (n := ((xs.length : Nat) : Int).toNat) (fun i σ H2 => ∃ (u2 u3 : Option V) (ys : List V), σ = [some (.ref ra), some (.ref D), u2, u3] ∧ Same H H2 ∧ H2 D = some (.lst ys) ∧ ys.length = i ∧ ∀ j y, ys[j]? = some y → ∃ r, rows[j]? = some r ∧ LnI T (upd H D (.lst [])) H2 j y r)
    ⟨none, none, [], rfl, s0, upd_same, rfl, fun j y h => by simp at h⟩ ?_ ?_⟩
  · rintro i σ H2 hi ⟨u2, u3, ys, rfl, s2, h2, yl, yI⟩
    have hix : i < xs.length := by omega
    have hDD := upd_same (H := H) (a := D) (o := .lst [])
    have back : ∀ b, H2 b = none → upd H D (.lst []) b = none := fun b hb => by
      by_cases z : b = D
      · rw [z, h2] at hb; cases hb
      · rw [upd_ne z]; exact same_back s2 hb
    obtain ⟨r, hri, a, rl', tv, ex, ha, hrl, hT⟩ := pget hP (List.getElem?_eq_getElem hix)
    obtain ⟨dr, nr⟩ := ro r (List.mem_of_getElem? hri)
    have e0 : (0 : Int) + (i : Nat) = (i : Nat) := Int.zero_add _
    have hat2 : atI xs (0 + (i : Nat)) = some (.ref a) := by rw [e0, ← ex]; exact atI_nat (List.getElem?_eq_getElem hix)
    refine ⟨_, rfl, _, rfl, ra, xs, _, _, rfl, rfl, SqL.of (s2 _ _ hra), hat2, a, _, _, _, rfl, rfl, SqT.of (s2 _ _ ha), rfl, rl', _, rfl, .inl (SqL.of (s2 _ _ hrl)), fun L hL => ?_⟩
    have s3 := same_new hL (.lst (r.1.map kV))
    have h3 := upd_same (H := H2) (a := L) (o := .lst (r.1.map kV))
    generalize upd H2 L (.lst (r.1.map kV)) = H3 at s3 h3 ⊢
    have w3 := s2.trans s3
    have hL0 := back L hL
    have h3D := s3 _ _ h2
    refine ⟨_, rfl, _, _, rfl, rfl, (by show (0 : Int) < 2; decide), rfl, _, rfl, ite2 (fun hk => ?_) (fun hk => ?_)⟩
    · rw [dec_int] at hk
      have hk' : i % 2 = 1 := by
        have : (0 + (i : Int)) % 2 = 1 := by simpa using hk
        omega
      refine ⟨_, rfl, L, _, rfl, .inl ⟨SqL.of h3, fun L2 hL2 => ?_⟩⟩
      have s4 := same_new hL2 (.tup (r.1.map kV))
      have h4 := upd_same (H := H3) (a := L2) (o := .tup (r.1.map kV))
      generalize upd H3 L2 (.tup (r.1.map kV)) = H4 at s4 h4 ⊢
      have h4D := s4 _ _ h3D
      have w4 := w3.trans s4
      refine ⟨_, rfl, .inl ⟨rfl, _, SqL.of h4D⟩, _, rfl, _, rfl, _, rfl, ra, xs, _, _, rfl, rfl, SqL.of (w4 _ _ hra), hat2, a, _, _, _, rfl, rfl, SqT.of (w4 _ _ ha), rfl, tv, r.2, pool, rfl, hT.keep w4, dr, by omega, by omega, pl, rp r (List.mem_of_getElem? hri), fun cv H5 s5 hC => ⟨small (by simp), fun b hb => ?_⟩⟩
      have s6 := same_new hb (.tup [.ref L2, cv])
      have h6 := upd_same (H := H5) (a := b) (o := .tup [.ref L2, cv])
      generalize upd H5 b (.tup [.ref L2, cv]) = H6 at s6 h6 ⊢
      have h6D := s6 _ _ (s5 _ _ h4D)
      have w26 : Same H2 H6 := (s3.trans s4).trans (s5.trans s6)
      have hb0 := back b (same_back ((s3.trans s4).trans s5) hb)
      refine ⟨D, _, _, rfl, rfl, h6D, small1000 (by omega), _, _, ys ++ [.ref b], rfl, same_upd (s2.trans w26) hD _, upd_same, by rw [List.length_append, yl]; rfl, fun j y hj => ?_⟩
      rcases get_snoc hj with hj' | ⟨hje, rfl⟩
      · obtain ⟨r', h1, h2'⟩ := yI j y hj'
        exact ⟨r', h1, h2'.step hDD w26 h6D⟩
      · rw [hje, yl]
        have ln : LnI T (upd H D (.lst [])) H6 i (.ref b) r := ⟨b, L2, cv, rfl, hb0, h6, back L2 (same_back s3 hL2), fun z => absurd z (by omega), fun _ => s6 _ _ (s5 _ _ h4), hC.kp (.of s6)⟩
        exact ⟨r, hri, ln.step hDD (Same.refl _) h6D⟩
    · rw [dec_int] at hk
      have hk' : i % 2 = 0 := by
        have : ¬ (0 + (i : Int)) % 2 = 1 := by simpa using hk
        omega
      refine ⟨_, rfl, .inl ⟨rfl, _, SqL.of h3D⟩, _, rfl, _, rfl, _, rfl, ra, xs, _, _, rfl, rfl, SqL.of (w3 _ _ hra), hat2, a, _, _, _, rfl, rfl, SqT.of (w3 _ _ ha), rfl, tv, r.2, pool, rfl, hT.keep w3, dr, by omega, by omega, pl, rp r (List.mem_of_getElem? hri), fun cv H5 s5 hC => ⟨small (by simp), fun b hb => ?_⟩⟩
      have s6 := same_new hb (.tup [.ref L, cv])
      have h6 := upd_same (H := H5) (a := b) (o := .tup [.ref L, cv])
      generalize upd H5 b (.tup [.ref L, cv]) = H6 at s6 h6 ⊢
      have h6D := s6 _ _ (s5 _ _ h3D)
      have w26 : Same H2 H6 := s3.trans (s5.trans s6)
      have hb0 := back b (same_back (s3.trans s5) hb)
      refine ⟨D, _, _, rfl, rfl, h6D, small1000 (by omega), _, _, ys ++ [.ref b], rfl, same_upd (s2.trans w26) hD _, upd_same, by rw [List.length_append, yl]; rfl, fun j y hj => ?_⟩
      rcases get_snoc hj with hj' | ⟨hje, rfl⟩
      · obtain ⟨r', h1, h2'⟩ := yI j y hj'
        exact ⟨r', h1, h2'.step hDD w26 h6D⟩
      · rw [hje, yl]
        have ln : LnI T (upd H D (.lst [])) H6 i (.ref b) r := ⟨b, L, cv, rfl, hb0, h6, hL0, fun _ => s6 _ _ (s5 _ _ h3), fun z => absurd z (by omega), hC.kp (.of s6)⟩
        exact ⟨r, hri, ln.step hDD (Same.refl _) h6D⟩
  · rintro σ H2 ⟨u2, u3, ys, rfl, s2, h2, yl, yI⟩
    refine ⟨_, rfl, q D ys H2 s2 hD h2 (by omega) fun j y hj => ?_⟩
    obtain ⟨r, h1, h2'⟩ := yI j y hj
    exact ⟨r, h1, h2'.out fun a ha => same_back s0 ha⟩
end
end K31
set_option maxHeartbeats 4000000
namespace K31
open PySem L2 CD
/-! ### one order, one list -/
theorem uniq {α : Type} {le : α → α → Prop} (anti : ∀ a b, le a b → le b a → a = b) : ∀ {xs ys : List α}, xs.Pairwise le → ys.Pairwise le → xs.Nodup → ys.Nodup → (∀ a, a ∈ xs ↔ a ∈ ys) → xs = ys
  | [], [], _, _, _, _, _ => rfl
  | [], y :: t, _, _, _, _, h => absurd ((h y).mpr List.mem_cons_self) (by simp)
  | x :: r, [], _, _, _, _, h => absurd ((h x).mp List.mem_cons_self) (by simp)
  | x :: r, y :: t, p1, p2, n1, n2, h => by
    obtain ⟨a1, b1⟩ := List.pairwise_cons.mp p1
    obtain ⟨a2, b2⟩ := List.pairwise_cons.mp p2
    obtain ⟨c1, d1⟩ := List.nodup_cons.mp n1
    obtain ⟨c2, d2⟩ := List.nodup_cons.mp n2
    have e : x = y := by
      rcases List.mem_cons.mp ((h x).mp List.mem_cons_self) with e | hx
      · exact e
      · rcases List.mem_cons.mp ((h y).mpr List.mem_cons_self) with e | hy
        · exact e.symm
        · exact anti x y (a1 y hy) (a2 x hx)
    subst e
    rw [uniq anti b1 b2 d1 d2 fun a => ?_]
    constructor
    · intro ha
      rcases List.mem_cons.mp ((h a).mp (List.mem_cons_of_mem _ ha)) with e | h'
      · exact absurd (e ▸ ha) c1
      · exact h'
    · intro ha
      rcases List.mem_cons.mp ((h a).mpr (List.mem_cons_of_mem _ ha)) with e | h'
      · exact absurd (e ▸ ha) c2
      · exact h'
def leS (a b : Str) : Prop := a.cps.toList ≤ b.cps.toList
theorem leS_anti (a b : Str) (h1 : leS a b) (h2 : leS b a) : a = b := by
  have e := List.le_antisymm h1 h2
  cases a
  cases b
  simp at e
  rw [e]
theorem rising_pw : ∀ {p : Str} {l : List Str}, PyProof.Rows.risingS p l = true → (p :: l).Pairwise leS
  | p, [], _ => by simp
  | p, x :: r, h => by
    have h' : (!PySem.Spec.ltCps x.cps.toList p.cps.toList && PyProof.Rows.risingS x r) = true := h
    rw [Bool.and_eq_true] at h'
    have ih := rising_pw h'.2
    have hx : leS p x := by
      have := h'.1
      rw [PyProof.Rows.ltCps_eq] at this
      have n : ¬ x.cps.toList < p.cps.toList := by simpa using this
      exact n
    refine List.pairwise_cons.mpr ⟨fun y hy => ?_, ih⟩
    rcases List.mem_cons.mp hy with rfl | hy
    · exact hx
    · exact List.le_trans hx ((List.pairwise_cons.mp ih).1 y hy)
theorem sorted_pw : ∀ {l : List Str}, PyProof.Rows.sortedS l = true → l.Pairwise leS
  | [], _ => by simp
  | x :: r, h => rising_pw h
theorem paired_self {K : PySem.W.Frag} {H : Hp} : ∀ {xs : List V}, (∀ x ∈ xs, flatV x = true) → Paired (EqT K H) xs xs
  | [], _ => .nil
  | x :: r, h => .cons (.flat (h x List.mem_cons_self)) (paired_self fun y hy => h y (List.mem_cons_of_mem _ hy))
theorem kit_ib (K : PySem.W.Frag) : PySem.W.kitOne K (.type "int") (.type "bool") = some false := by kernel_rfl
/-! ### a table stays -/
theorem rowx_kp {T : Cl} {H H' : Hp} (k : Kp H H') : ∀ {xs : List V} {rows : List Row}, Paired (RowX T H H) xs rows → Paired (RowX T H' H') xs rows
  | _, _, .nil => .nil
  | _, _, .cons ⟨a, rt, cv, e, h1, h2, h3⟩ r => .cons ⟨a, rt, cv, e, k.tup _ _ h1, k.tup _ _ h2, h3.kp k⟩ (rowx_kp k r)
theorem IsB.kp {T : Cl} {BC : Addr} {H H' : Hp} {b : Addr} {cs : List Str} {rows : List Row} {w : Cd} (k : Kp H H') (h : IsB T BC H b cs rows w) : IsB T BC H' b cs rows w := by
  obtain ⟨dx, tc, tr, tg, tv, cw, fs, xs, gs, vs, hb, hm, l1, h1, l2, h2, hP, l3, hC, l4, h4, g1, g2, g3, l5, h5, v1, v2, v3⟩ := h
  exact ⟨dx, tc, tr, tg, tv, cw, fs, xs, gs, vs, k.ins _ _ _ _ hb, hm, l1, k.tup _ _ h1, l2, k.tup _ _ h2, rowx_kp k hP, l3, hC.kp k, l4, k.tup _ _ h4, g1, g2, g3, l5, k.tup _ _ h5, v1, v2, v3⟩
theorem IsB.at {T : Cl} {BC : Addr} {H : Hp} {b : Addr} {cs : List Str} {rows : List Row} {w : Cd} (h : IsB T BC H b cs rows w) : ∃ dx fs, H b = some (.ins BC dx fs) ∧ ∀ m ∈ bmeths, fs.lookup m = none := by
  obtain ⟨dx, tc, tr, tg, tv, cw, fs, xs, gs, vs, hb, hm, _⟩ := h
  exact ⟨dx, fs, hb, hm⟩
theorem bm_c : ("columns" : Str) ∈ bmeths := by unfold bmeths; simp
theorem bm_r : ("rows" : Str) ∈ bmeths := by unfold bmeths; simp
theorem bm_w : ("whole" : Str) ∈ bmeths := by unfold bmeths; simp
theorem bm_g : ("gaps" : Str) ∈ bmeths := by unfold bmeths; simp
theorem bm_s : ("standing" : Str) ∈ bmeths := by unfold bmeths; simp
def spRight (T : Cl) (BC : Addr) : Sp := fun args H Q _ => ∃ (b ca ra fa : Addr) (wv : V) (cs : List Str) (rows : List Row) (wc : Cd) (xs fxs : List V) (gs0 : List Str) (pool : List Key), args = [.ref b, .ref ca, .ref ra, wv, .ref fa] ∧ IsB T BC H b cs rows wc ∧ H ca = some (.lst (cs.map V.str)) ∧ cs.length ≤ 10 ∧ H ra = some (.lst xs) ∧ Paired (RowT H) xs rows ∧ rows.length ≤ 8 ∧ (∀ r ∈ rows, r.1.length ≤ 10 ∧ depth r.2 ≤ 4 ∧ nodes r.2 ≤ 41) ∧ IsT H wc wv ∧ depth wc ≤ 4 ∧ nodes wc ≤ 41 ∧ H fa = some (.lst fxs) ∧ (∀ x ∈ fxs, Fll H gs0 x) ∧ (∀ g : Str, AllC rows wc (Sum.inr g) → g ∈ gs0) ∧ pool.length ≤ 40 ∧ (∀ k, AllC rows wc k → k ∈ pool) ∧ ∀ H', Same H H' → Q (.bl true) H'
abbrev nmR : List Str := ["_law_table", "_law_columns", "_law_rows", "_law_whole", "_law_fillings_here", "_law_told", "_law_lines_here", "_law_k", "_law_standing_here", "_law_gaps", "_law_values_here", "_law_due", "_law_some"]
abbrev psR : List Str := ["_law_table", "_law_columns", "_law_rows", "_law_whole", "_law_fillings_here"]
theorem int_flat (ns : List Int) : ∀ x ∈ ns.map V.int, flatV x = true := fun x hx => by
  obtain ⟨o, _, rfl⟩ := List.mem_map.mp hx
  rfl
theorem str_flat' (ns : List Str) : ∀ x ∈ ns.map V.str, flatV x = true := fun x hx => by
  obtain ⟨o, _, rfl⟩ := List.mem_map.mp hx
  rfl
section
variable {P : Program} {w : World} {K : PySem.W.Frag} {mg : Str → Option Value} {base : Heap} {f : Addr} {fd : FuncData} {T : Cl} {BC : Addr}
theorem scRi : FnScope nmR psR (defScope sRight) := ⟨rfl, rfl, rfl, by decide +kernel, rfl, by decide +kernel, by decide +kernel⟩
theorem rt_tail2 {cdv : Value} {A : Around} {outer : List Env} {s : Shared} {H0' : Hp} {E : XK} (hr : Room 41 (A.deeper (PyProof.Rows.envOfC "_law_right" (defScope sRight) s.heap.objs.size f cdv))) (X : Txt mg) :
    ∃ t, PSs (cxOf CX0 P w K mg base nmR "_law_right" (defScope sRight) f cdv A outer s H0' E).nox ((defBody sRight).drop 10) t ∧
      ∀ (Q : VK) (H0 H : Hp) (v0 v1 v2 v3 v4 v7 v11 : Option V) (ta la sa ga va : Addr) (ts ls gl : List V) (ks : List Key) (ns : List Int) (Pd : Key → Prop) (pool : List Key), Same H0 H → H0 ta = none → H0 la = none → H0 ga = none → H0 va = none →
        H ta = some (.lst ts) → ts.length ≤ 100 → H la = some (.lst ls) → ls.length ≤ 100 → H ga = some (.lst gl) → gl.length ≤ 100 → H va = some (.lst (ns.map V.int)) → H sa = some (.lst (ks.map kV)) → ks.length ≤ 2000 → (∀ k, k ∈ ks ↔ Pd k) → (∀ k, Pd k → k ∈ pool) → pool.length ≤ 40 →
        ns.Nodup → ns.Pairwise (· ≤ ·) → (∀ x, x ∈ ns ↔ Pd (Sum.inl x)) → (∀ H', Same H0 H' → Q (.bl true) H') →
        t { nx := fun _ H' => Q .non H', rt := Q } [v0, v1, v2, v3, v4, some (.ref ta), some (.ref la), v7, some (.ref sa), some (.ref ga), some (.ref va), v11, none] H := by
  have hu8 := hu8_of hr
  refine ⟨_, pss_cons (ps_set (i := 11) scRi.nd rfl (Or.inl rfl) (pe_callB (call_sorted_setI rfl) rfl X.sorted PyProof.Rows.boot_sorted (pa_cons (pe_callTy (call_set_of rfl) rfl X.set PyProof.Rows.boot_set (pa_cons
        (pe_lcG (caps := []) ["_law_cell_here"] rfl (pi_list (pv 8)) ⟨rfl, by decide +kernel, by decide +kernel, rfl, .nil, rfl, rfl, rfl⟩
          (fun s H ex => pg_name (X := cxLG _ _ _ _ s H ex) (i := 0) (nd1 _) rfl (Or.inl rfl) (.inr rfl))
          (fun s H ex => pif_one (pt_not (pt_val (pe_callB (call_isiK (K := K) rfl) rfl X.isi PyProof.Rows.boot_isinstance (pa_cons (pe_var (X := cxLG _ _ _ _ s H ex) (i := 0) rfl (Or.inl rfl)) (pa_cons (pe_bltn (v := .ty "str") rfl X.str PyProof.Rows.boot_str rfl) pa_nil))))))
          (fun s H ex => pe_var (X := cxLG _ _ _ _ s H ex) (i := 0) rfl (Or.inl rfl))) pa_nil)) pa_nil)))
    (pss_cons (ps_if (PW.pt (pw_or (pt_not (pt_val (pe_callB call_isi rfl X.isi PyProof.Rows.boot_isinstance (pa_cons (pv 10) (pa_cons (pe_bltn (v := .ty "list") rfl X.list PyProof.Rows.boot_list rfl) pa_nil)))))
      (pw_or1 (pt_cmpR (op_ne_deep hu8) (pv 10) (pv 11) (nomark _))))) pss_never pss_nil)
    (pss_cons (ps_if (pt_cmpR op_in_seq pe_bl (pe_lcG (caps := []) ["_law_one"] rfl (pi_list (pv 10)) ⟨rfl, by decide +kernel, by decide +kernel, rfl, .nil, rfl, rfl, rfl⟩
          (fun s H ex => pg_name (X := cxLG _ _ _ _ s H ex) (i := 0) (nd1 _) rfl (Or.inl rfl) (.inr rfl)) (fun s H ex => pif_nil)
          (fun s H ex => pe_callB (call_isiK (K := K) rfl) rfl X.isi PyProof.Rows.boot_isinstance (pa_cons (pe_var (X := cxLG _ _ _ _ s H ex) (i := 0) rfl (Or.inl rfl)) (pa_cons (pe_bltn (v := .ty "bool") rfl X.bool PyProof.Rows.boot_bool rfl) pa_nil)))) rfl) pss_never pss_nil)
    (pss_cons (ps_for PassesOwn.never rfl (pi_list (pe_lst (pa_cons (pv 5) (pa_cons (pv 6) (pa_cons (pv 9) (pa_cons (pv 10) pa_nil)))))) (pg_name (i := 12) scRi.nd rfl (Or.inl rfl))
      (pss_one (ps_expr (pe_bm PySem.F.plainAttrs_list PySem.F.slot_list_append PySem.F.type_list_append mt_append (pv 12) (pa_cons pe_int pa_nil)))))
    (pss_one (ps_ret pe_bl))))), ?_⟩
  intro Q H0 H v0 v1 v2 v3 v4 v7 v11 ta la sa ga va ts ls gl ks ns Pd pool s0 n1 n2 n3 n4 hta tl hla ll hga gll hva hsa kl hk hp pl nn nsd nm q
  refine ⟨_, rfl, sa, rfl, ⟨_, SqL.of hsa⟩, fun D hD => ?_⟩
  refine lcg_listR (K := K) (a := sa) (xs := ks.map kV) (fun i σ H7 => ∃ u, σ = [u] ∧ Same H H7 ∧ H7 D = some (.lst ((intsIn (ks.take i)).map V.int)))
    ⟨none, rfl, same_new hD _, upd_same⟩ (fun i σ H7 _ ⟨_, _, s7, _⟩ => SqL.of (s7 _ _ hsa)) ?_ ?_
  · rintro i x σ H7 hi ⟨u, rfl, s7, h7⟩
    obtain ⟨k, hk, rfl⟩ := of_key hi
    refine ⟨_, rfl, _, _, _, _, _, rfl, rel_ty, ty_key k, kit_key K k, _, rfl, ?_⟩
    rw [take_snoc hk, intsIn_snoc]
    cases k with
    | inr j => exact iteF ⟨_, rfl, s7, by simpa using h7⟩
    | inl y =>
      refine iteT ⟨_, rfl, _, h7, ?_, _, rfl, same_upd s7 hD _, ?_⟩
      · have a1 := intsIn_len (ks.take i)
        have a2 : (ks.take i).length ≤ ks.length := by rw [List.length_take]; omega
        rw [List.length_map]
        exact Nat.lt_of_le_of_lt (show _ ≤ 2000 by omega) (by decide)
      · rw [upd_same, List.map_append]; rfl
  rintro σ H7 ⟨u, rfl, s7, h7⟩
  rw [List.length_map, List.take_length] at h7
  have il := intsIn_len ks
  refine ⟨D, (intsIn ks).map Sum.inl, rfl, SqL.of (by rw [← map_kVi]; exact h7), by rw [List.length_map]; omega, fun j2 ks' hj2 nd' hm' => ?_⟩
  obtain ⟨ns0, rfl, nnd, nl', nmm⟩ := ints_setP nd' hm' hk hp (by omega)
  refine ⟨j2, ns0, rfl, upd_same, nl', fun j3 ns' hj3 pn sn => ?_⟩
  have en : ns' = ns := uniq (fun a b h1 h2 => Int.le_antisymm h1 h2) sn nsd ((pn.nodup_iff).mpr nnd) nn fun x => ((pn.mem_iff).trans (nmm x)).trans (nm x).symm
  subst en
  have nl : ns'.length ≤ 64 := by rw [pn.length_eq]; omega
  generalize SetO _ _ j2 (List.map Sum.inl ns0) = so2 at hj3 ⊢
  have x2 := same_new hj2 so2
  have x3 := same_new hj3 (.lst (ns'.map V.int))
  have w5 := s7.trans (x2.trans x3)
  have h5 := upd_same (H := upd H7 j2 so2) (a := j3) (o := .lst (ns'.map V.int))
  generalize upd (upd H7 j2 so2) j3 (.lst (ns'.map V.int)) = H5 at w5 h5
  have hva5 := w5 _ _ hva
  refine ⟨_, rfl, _, _, _, _, _, rfl, rel_ty, .lst hva5, kit_ss K "list", _, rfl, iteF ?_⟩
  refine ⟨_, rfl, _, rfl, va, j3, _, _, rfl, rfl, SqL.of hva5, SqL.of h5, paired_self (int_flat _), _, rfl, iteF ?_⟩
  -- no truths
  refine ⟨_, rfl, va, rfl, ⟨_, SqL.of hva5⟩, fun D2 hD2 => ?_⟩
  refine lcg_listR (K := K) (a := va) (xs := ns'.map V.int) (fun i σ H6 => ∃ u, σ = [u] ∧ Same H5 H6 ∧ H6 D2 = some (.lst ((List.replicate i false).map V.bl)))
    ⟨none, rfl, same_new hD2 _, upd_same⟩ (fun i σ H6 _ ⟨_, _, s6, _⟩ => SqL.of (s6 _ _ hva5)) ?_ ?_
  · rintro i x σ H6 hi ⟨u, rfl, s6, h6⟩
    obtain ⟨z, _, _, rfl⟩ := of_int hi
    have hil : i < ns'.length := by
      have := (List.getElem?_eq_some_iff.mp hi).1
      rwa [List.length_map] at this
    refine ⟨_, rfl, _, _, _, _, _, rfl, rel_ty, .int z, kit_ib K, _, h6, ?_, _, rfl, same_upd s6 hD2 _, ?_⟩
    · rw [List.length_map, List.length_replicate]; exact small1000 (by omega)
    · rw [upd_same, List.replicate_succ', List.map_append]; rfl
  rintro σ H6 ⟨u, rfl, s6, h6⟩
  refine ⟨D2, _, rfl, .inl (SqL.of h6), rfl, bl_flat _, _, rfl, ?_⟩
  refine iteFd ?_ ?_
  · rw [if_neg Bool.false_ne_true, inV_bls, decide_eq_false_iff_not]
    intro c
    exact absurd (List.mem_replicate.mp c).2 (by decide)
  have w6 := w5.trans s6
  -- the lists told are changed
  refine ⟨_, rfl, _, rfl, _, rfl, _, rfl, small (by simp), fun D3 hD3 => ?_⟩
  refine ⟨D3, rfl, ⟨_, SqL.of upd_same⟩, ?_⟩
  have s3 := same_new hD3 (.lst [V.ref ta, .ref la, .ref ga, .ref va])
  have h3 := upd_same (H := H6) (a := D3) (o := .lst [V.ref ta, .ref la, .ref ga, .ref va])
  have w63 := w6.trans s3
  generalize upd H6 D3 (.lst [V.ref ta, .ref la, .ref ga, .ref va]) = H8 at s3 h3 w63
  have ne : ∀ a o, H6 a = some o → a ≠ D3 := fun a o h e => by rw [e, hD3] at h; cases h
  have nD : ∀ a ∈ [ta, la, ga, va], a ≠ D3 := fun a ha => by
    simp only [List.mem_cons, List.not_mem_nil, or_false] at ha
    rcases ha with rfl | rfl | rfl | rfl
    · exact ne _ _ (w6 _ _ hta)
    · exact ne _ _ (w6 _ _ hla)
    · exact ne _ _ (w6 _ _ hga)
    · exact ne _ _ (w6 _ _ hva)
  have n0 : ∀ a ∈ [ta, la, ga, va], H0 a = none := fun a ha => by
    simp only [List.mem_cons, List.not_mem_nil, or_false] at ha
    rcases ha with rfl | rfl | rfl | rfl <;> assumption
  refine for_list (K := K) (a := D3) (xs := [V.ref ta, .ref la, .ref ga, .ref va]) (fun i σ H9 => ∃ u : Option V, σ = [v0, v1, v2, v3, v4, some (.ref ta), some (.ref la), v7, some (.ref sa), some (.ref ga), some (.ref va), some (.ref j3), u] ∧ Same H0 H9 ∧ H9 D3 = some (.lst [V.ref ta, .ref la, .ref ga, .ref va]) ∧ ∀ a ∈ [ta, la, ga, va], ∃ zs : List V, H9 a = some (.lst zs) ∧ zs.length ≤ 100 + i)
    ⟨none, rfl, s0.trans w63, h3, fun a ha => ?_⟩ (fun i σ H9 _ ⟨_, _, _, z, _⟩ => SqL.of z) ?_ ?_
  · simp only [List.mem_cons, List.not_mem_nil, or_false] at ha
    rcases ha with rfl | rfl | rfl | rfl
    · exact ⟨_, w63 _ _ hta, by omega⟩
    · exact ⟨_, w63 _ _ hla, by omega⟩
    · exact ⟨_, w63 _ _ hga, by omega⟩
    · exact ⟨_, w63 _ _ hva, by rw [List.length_map]; omega⟩
  · rintro i x σ H9 hi ⟨u, rfl, s9, h9, hA⟩
    have hil := (List.getElem?_eq_some_iff.mp hi).1
    have hil' : i < 4 := hil
    obtain ⟨a, ha, rfl⟩ : ∃ a ∈ [ta, la, ga, va], x = V.ref a := by
      have := List.mem_of_getElem? hi
      simp only [List.mem_cons, List.not_mem_nil, or_false] at this
      rcases this with rfl | rfl | rfl | rfl
      · exact ⟨ta, by simp, rfl⟩
      · exact ⟨la, by simp, rfl⟩
      · exact ⟨ga, by simp, rfl⟩
      · exact ⟨va, by simp, rfl⟩
    obtain ⟨zs, hz, zl⟩ := hA a ha
    refine ⟨_, rfl, .inl ⟨rfl, _, SqL.of hz⟩, a, _, _, rfl, rfl, hz, small1000 (by omega), ?_⟩
    refine ⟨_, rfl, same_upd s9 (n0 a ha) _, by rw [upd_ne (Ne.symm (nD a ha))]; exact h9, fun c hc => ?_⟩
    by_cases e : c = a
    · subst e
      exact ⟨_, upd_same, by rw [List.length_append]; simp; omega⟩
    · obtain ⟨zs', hz', zl'⟩ := hA c hc
      exact ⟨zs', by rw [upd_ne e]; exact hz', by omega⟩
  · rintro σ H9 ⟨u, rfl, s9, h9, hA⟩
    exact q H9 s9
end
end K31
set_option maxHeartbeats 4000000
namespace K31
open PySem L2 CD
theorem key_flat (ks : List Key) : ∀ x ∈ ks.map kV, flatV x = true := fun x hx => by
  obtain ⟨o, _, rfl⟩ := List.mem_map.mp hx
  cases o <;> rfl
section
variable {P : Program} {w : World} {K : PySem.W.Frag} {mg : Str → Option Value} {base : Heap} {f : Addr} {fd : FuncData} {T : Cl} {BC : Addr}
theorem rt_tail1 {cdv : Value} {A : Around} {outer : List Env} {s : Shared} {H0' : Hp} {E : XK} (hr : Room 41 (A.deeper (PyProof.Rows.envOfC "_law_right" (defScope sRight) s.heap.objs.size f cdv))) (X : Txt mg)
    (FG : Fam P w K mg base CX0 1 (· = BC) "gaps" ["self"] (fun _ => spBGaps T BC)) (FS : Fam P w K mg base CX0 1 (· = BC) "standing" ["self"] (fun _ => spBStand T BC)) :
    ∃ t, PSs (cxOf CX0 P w K mg base nmR "_law_right" (defScope sRight) f cdv A outer s H0' E).nox ((defBody sRight).drop 6) t ∧
      ∀ (Q : VK) (H0 H : Hp) (v1 v2 v3 v4 v7 : Option V) (b ta la sa : Addr) (ts ls : List V) (ks : List Key) (cs : List Str) (rows : List Row) (wc : Cd) (pool : List Key), Same H0 H → H0 ta = none → H0 la = none →
        H ta = some (.lst ts) → ts.length ≤ 100 → H la = some (.lst ls) → ls.length ≤ 100 → H sa = some (.lst (ks.map kV)) → ks.length ≤ 2000 → (∀ k, k ∈ ks ↔ AllC rows wc k) → (∀ k, AllC rows wc k → k ∈ pool) → pool.length ≤ 40 → IsB T BC H b cs rows wc →
        (∀ H', Same H0 H' → Q (.bl true) H') →
        t { nx := fun _ H' => Q .non H', rt := Q } [some (.ref b), v1, v2, v3, v4, some (.ref ta), some (.ref la), v7, some (.ref sa), none, none, none, none] H := by
  have hu8 := hu8_of hr
  have hr1 : Room 1 _ := hr.mono (by decide)
  obtain ⟨tt, ht, q3⟩ := rt_tail2 (P := P) (w := w) (K := K) (mg := mg) (base := base) (f := f) (outer := outer) (H0' := H0') (E := E) hr X
  refine ⟨_, pss_cons (ps_set (i := 9) scRi.nd rfl (Or.inl rfl) (pe_methF0 (pv 0) FG hr1 pass0))
    (pss_cons (ps_set (i := 10) scRi.nd rfl (Or.inl rfl) (pe_methF0 (pv 0) FS hr1 pass0))
    (pss_cons (ps_set (i := 11) scRi.nd rfl (Or.inl rfl) (pe_callB (call_sorted_setS rfl) rfl X.sorted PyProof.Rows.boot_sorted (pa_cons (pe_callTy (call_set_of rfl) rfl X.set PyProof.Rows.boot_set (pa_cons
        (pe_lcG (caps := []) ["_law_cell_here"] rfl (pi_list (pv 8)) ⟨rfl, by decide +kernel, by decide +kernel, rfl, .nil, rfl, rfl, rfl⟩
          (fun s H ex => pg_name (X := cxLG _ _ _ _ s H ex) (i := 0) (nd1 _) rfl (Or.inl rfl) (.inr rfl))
          (fun s H ex => pif_one (pt_val (pe_callB (call_isiK (K := K) rfl) rfl X.isi PyProof.Rows.boot_isinstance (pa_cons (pe_var (X := cxLG _ _ _ _ s H ex) (i := 0) rfl (Or.inl rfl)) (pa_cons (pe_bltn (v := .ty "str") rfl X.str PyProof.Rows.boot_str rfl) pa_nil)))))
          (fun s H ex => pe_var (X := cxLG _ _ _ _ s H ex) (i := 0) rfl (Or.inl rfl))) pa_nil)) pa_nil)))
    (pss_cons (ps_if (PW.pt (pw_or (pt_not (pt_val (pe_callB call_isi rfl X.isi PyProof.Rows.boot_isinstance (pa_cons (pv 9) (pa_cons (pe_bltn (v := .ty "list") rfl X.list PyProof.Rows.boot_list rfl) pa_nil)))))
      (pw_or1 (pt_cmpR (op_ne_deep hu8) (pv 9) (pv 11) (nomark _))))) pss_never pss_nil) ht))), ?_⟩
  intro Q H0 H v1 v2 v3 v4 v7 b ta la sa ts ls ks cs rows wc pool s0 n1 n2 hta tl hla ll hsa kl hk hp pl hB q
  obtain ⟨dx, fs, hb, hm⟩ := hB.at
  refine ⟨_, rfl, b, BC, dx, fs, rfl, hb, rfl, hm _ bm_g, b, cs, rows, wc, rfl, hB, fun ga gs hga gn gsd gm => ?_⟩
  have s1 := same_new hga (.lst (gs.map V.str))
  have h1 := upd_same (H := H) (a := ga) (o := .lst (gs.map V.str))
  generalize upd H ga (.lst (gs.map V.str)) = H1 at s1 h1
  refine ⟨_, rfl, b, BC, dx, fs, rfl, s1 _ _ hb, rfl, hm _ bm_s, b, cs, rows, wc, rfl, hB.kp (.of s1), fun va ns hva nn nsd nm => ?_⟩
  have s2 := same_new hva (.lst (ns.map V.int))
  have h2 := upd_same (H := H1) (a := va) (o := .lst (ns.map V.int))
  have nva0 := same_back s1 hva
  generalize upd H1 va (.lst (ns.map V.int)) = H2 at s2 h2
  have w2 := s1.trans s2
  refine ⟨_, rfl, sa, rfl, ⟨_, SqL.of (w2 _ _ hsa)⟩, fun D hD => ?_⟩
  refine lcg_listR (K := K) (a := sa) (xs := ks.map kV) (fun i σ H7 => ∃ u, σ = [u] ∧ Same H2 H7 ∧ H7 D = some (.lst ((strsIn (ks.take i)).map V.str)))
    ⟨none, rfl, same_new hD _, upd_same⟩ (fun i σ H7 _ ⟨_, _, s7, _⟩ => SqL.of (s7 _ _ (w2 _ _ hsa))) ?_ ?_
  · rintro i x σ H7 hi ⟨u, rfl, s7, h7⟩
    obtain ⟨k, hk, rfl⟩ := of_key hi
    refine ⟨_, rfl, _, _, _, _, _, rfl, rel_ty, ty_key k, kit_key K k, _, rfl, ?_⟩
    rw [take_snoc hk, strsIn_snoc]
    cases k with
    | inl j => exact iteF ⟨_, rfl, s7, by simpa using h7⟩
    | inr y =>
      refine iteT ⟨_, rfl, _, h7, ?_, _, rfl, same_upd s7 hD _, ?_⟩
      · have a1 := strsIn_len (ks.take i)
        have a2 : (ks.take i).length ≤ ks.length := by rw [List.length_take]; omega
        rw [List.length_map]
        exact Nat.lt_of_le_of_lt (show _ ≤ 2000 by omega) (by decide)
      · rw [upd_same, List.map_append]; rfl
  rintro σ H7 ⟨u, rfl, s7, h7⟩
  rw [List.length_map, List.take_length] at h7
  have il := strsIn_len ks
  refine ⟨D, (strsIn ks).map Sum.inr, rfl, SqL.of (by rw [← map_kVs]; exact h7), by rw [List.length_map]; omega, fun j2 ks' hj2 nd' hm' => ?_⟩
  obtain ⟨gs0, rfl, gnd, gl', gmm⟩ := strs_setP nd' hm' hk hp (by omega)
  refine ⟨j2, gs0, rfl, upd_same, gl', fun j3 gs' hj3 pg sg => ?_⟩
  have en : gs' = gs := uniq leS_anti (sorted_pw sg) (sorted_pw gsd) ((pg.nodup_iff).mpr gnd) gn fun x => ((pg.mem_iff).trans (gmm x)).trans (gm x).symm
  subst en
  have nl : gs'.length ≤ 64 := by rw [pg.length_eq]; omega
  generalize SetO _ _ j2 (List.map Sum.inr gs0) = so2 at hj3 ⊢
  have x2 := same_new hj2 so2
  have x3 := same_new hj3 (.lst (gs'.map V.str))
  have w5 := s7.trans (x2.trans x3)
  have h5 := upd_same (H := upd H7 j2 so2) (a := j3) (o := .lst (gs'.map V.str))
  generalize upd (upd H7 j2 so2) j3 (.lst (gs'.map V.str)) = H5 at w5 h5
  have hga5 := w5 _ _ (s2 _ _ h1)
  have w25 := w2.trans w5
  refine ⟨_, rfl, _, _, _, _, _, rfl, rel_ty, .lst hga5, kit_ss K "list", _, rfl, iteF ?_⟩
  refine ⟨_, rfl, _, rfl, ga, j3, _, _, rfl, rfl, SqL.of hga5, SqL.of h5, paired_self (str_flat' _), _, rfl, iteF ?_⟩
  exact q3 Q H0 H5 _ _ _ _ _ _ _ ta la sa ga va ts ls _ ks ns (AllC rows wc) pool (s0.trans w25) n1 n2 (same_back s0 hga) (same_back s0 nva0) (w25 _ _ hta) tl (w25 _ _ hla) ll hga5 (by rw [List.length_map]; omega) (w5 _ _ h2) (w25 _ _ hsa) kl hk hp pl nn nsd nm q
theorem ok_right (Fn : Fun K "_law_right" "_law_right" sRight f fd) (X : Txt mg)
    (FC : Fam P w K mg base CX0 1 (· = BC) "columns" ["self"] (fun _ => spBCols T BC)) (FR : Fam P w K mg base CX0 1 (· = BC) "rows" ["self"] (fun _ => spBRows T BC)) (FW : Fam P w K mg base CX0 1 (· = BC) "whole" ["self"] (fun _ => spBWhole T BC))
    (FG : Fam P w K mg base CX0 1 (· = BC) "gaps" ["self"] (fun _ => spBGaps T BC)) (FS : Fam P w K mg base CX0 1 (· = BC) "standing" ["self"] (fun _ => spBStand T BC))
    (C1 : Cal P w K mg base "_law_alike" 41 ["_law_told", "_law_cond_here", "_law_fillings_here"] (spAlike T)) (C2 : Cal P w K mg base "_law_standing" 6 ["_law_rows", "_law_whole"] spStanding) : FnOk P w K mg base CX0 42 f fd psR (spRight T BC) := by
  obtain ⟨f1, d1, G1, b1, k1, m1⟩ := C1
  obtain ⟨f2, d2, G2, b2, k2, m2⟩ := C2
  refine Fn.ok (k := 41) scRi (fun vs H Q E h => ?_) (fun cdv A outer s H vs Q E hr h => ?_)
  · obtain ⟨b, ca, ra, fa, wv, cs, rows, wc, xs, fxs, gs0, pool, rfl, _⟩ := h
    rfl
  obtain ⟨b, ca, ra, fa, wv, cs, rows, wc, xs, fxs, gs0, pool, rfl, hB, hca, cl, hra, hP, rl, ro, hT, dw, nw, hfa, hF, hg0, pl, hp, q⟩ := h
  have hu8 := hu8_of hr
  have hr1 : Room 1 _ := hr.mono (by decide)
  have hr6 : Room 6 _ := hr.mono (by decide)
  obtain ⟨tt, ht, q3⟩ := rt_tail1 (P := P) (w := w) (K := K) (mg := mg) (base := base) (f := f) (outer := outer) (H0' := H) (E := E) hr X FG FS
  refine ⟨_, pss_cons (ps_set (i := 5) scRi.nd rfl (Or.inl rfl) (pe_methF0 (pv 0) FC hr1 pass0))
    (pss_cons (ps_set (i := 6) scRi.nd rfl (Or.inl rfl) (pe_methF0 (pv 0) FR hr1 pass0))
    (pss_cons (ps_if (PW.pt (pw_or (pt_not (pt_val (pe_callB call_isi rfl X.isi PyProof.Rows.boot_isinstance (pa_cons (pv 5) (pa_cons (pe_bltn (v := .ty "list") rfl X.list PyProof.Rows.boot_list rfl) pa_nil)))))
      (pw_or (pt_cmpR (op_ne_deep hu8) (pv 5) (pv 1) (nomark _))
      (pw_or (pt_not (pt_val (pe_callB call_isi rfl X.isi PyProof.Rows.boot_isinstance (pa_cons (pv 6) (pa_cons (pe_bltn (v := .ty "list") rfl X.list PyProof.Rows.boot_list rfl) pa_nil)))))
      (pw_or1 (pt_cmpR op_ne (pe_callB call_len_seq rfl X.len PySem.boot_len (pa_cons (pv 6) pa_nil)) (pe_callB call_len_seq rfl X.len PySem.boot_len (pa_cons (pv 2) pa_nil)) (nomark _))))))) pss_never pss_nil)
    (pss_cons (ps_for PassesOwn.never rfl (pi_range1 rfl X.range (pa_cons (pe_callB call_len_seq rfl X.len PySem.boot_len (pa_cons (pv 2) pa_nil)) pa_nil)) (pg_name (i := 7) scRi.nd rfl (Or.inl rfl))
      (pss_cons (ps_if (PW.pt (pw_or (pt_not (pt_val (pe_callB call_isi rfl X.isi PyProof.Rows.boot_isinstance (pa_cons (pe_ix ix_list (pv 6) (pv 7) (fun _ _ => rfl)) (pa_cons (pe_bltn (v := .ty "tuple") rfl X.tuple PyProof.Rows.boot_tuple rfl) pa_nil)))))
        (pw_or (pt_cmpR op_ne (pe_callB call_len_seq rfl X.len PySem.boot_len (pa_cons (pe_ix ix_list (pv 6) (pv 7) (fun _ _ => rfl)) pa_nil)) pe_int (nomark _))
        (pw_or1 (pt_not (pt_val (pe_callB call_isi rfl X.isi PyProof.Rows.boot_isinstance (pa_cons (pe_ix ix_tup (pe_ix ix_list (pv 6) (pv 7) (fun _ _ => rfl)) pe_int (fun _ _ => rfl)) (pa_cons (pe_bltn (v := .ty "tuple") rfl X.tuple PyProof.Rows.boot_tuple rfl) pa_nil))))))))) pss_never pss_nil)
      (pss_one (ps_if (PW.pt (pw_or (pt_cmpR (op_ne_deep hu8) (pe_callTy call_list_of rfl X.list PyProof.Rows.boot_list (pa_cons (pe_ix ix_tup (pe_ix ix_list (pv 6) (pv 7) (fun _ _ => rfl)) pe_int (fun _ _ => rfl)) pa_nil)) (pe_ix ix_tup (pe_ix ix_list (pv 2) (pv 7) (fun _ _ => rfl)) pe_int (fun _ _ => rfl)) (nomark _))
        (pw_or1 (pt_not (pt_val (pe_call G1 hr rfl m1 k1 b1 .nil pass0 (pa_cons (pe_ix ix_tup (pe_ix ix_list (pv 6) (pv 7) (fun _ _ => rfl)) pe_int (fun _ _ => rfl)) (pa_cons (pe_ix ix_tup (pe_ix ix_list (pv 2) (pv 7) (fun _ _ => rfl)) pe_int (fun _ _ => rfl)) (pa_cons (pv 4) pa_nil)))))))))
        pss_never pss_nil))))
    (pss_cons (ps_if (pt_not (pt_val (pe_call G1 hr rfl m1 k1 b1 .nil pass0 (pa_cons (pe_methF0 (pv 0) FW hr1 pass0) (pa_cons (pv 3) (pa_cons (pv 4) pa_nil)))))) pss_never pss_nil)
    (pss_cons (ps_set (i := 8) scRi.nd rfl (Or.inl rfl) (pe_call G2 hr6 rfl m2 k2 b2 .nil pass0 (pa_cons (pv 2) (pa_cons (pv 3) pa_nil)))) ht))))), ?_⟩
  obtain ⟨dx, fs, hb, hm⟩ := hB.at
  refine ⟨_, rfl, b, BC, dx, fs, rfl, hb, rfl, hm _ bm_c, b, cs, rows, wc, rfl, hB, fun ta hta => ?_⟩
  have s1 := same_new hta (.lst (cs.map V.str))
  have h1 := upd_same (H := H) (a := ta) (o := .lst (cs.map V.str))
  generalize upd H ta (.lst (cs.map V.str)) = H1 at s1 h1
  refine ⟨_, rfl, b, BC, dx, fs, rfl, s1 _ _ hb, rfl, hm _ bm_r, b, cs, rows, wc, rfl, hB.kp (.of s1), fun la ls hla hX => ?_⟩
  have s2 := same_new hla (.lst ls)
  have h2 := upd_same (H := H1) (a := la) (o := .lst ls)
  generalize upd H1 la (.lst ls) = H2 at s2 h2
  have w2 := s1.trans s2
  have hta2 := s2 _ _ h1
  have hla0 := same_back s1 hla
  have hX2 : Paired (RowX T H2 H2) ls rows := rowx_kp (.of s2) hX
  have len1 := plen hP
  have len2 := plen hX
  refine ⟨_, rfl, _, _, _, _, _, rfl, rel_ty, .lst hta2, kit_ss K "list", _, rfl, iteF ?_⟩
  refine ⟨_, rfl, _, rfl, ta, ca, _, _, rfl, rfl, SqL.of hta2, SqL.of (w2 _ _ hca), paired_self (str_flat' _), _, rfl, iteF ?_⟩
  refine ⟨_, rfl, _, _, _, _, _, rfl, rel_ty, .lst h2, kit_ss K "list", _, rfl, iteF ?_⟩
  refine ⟨_, rfl, la, _, rfl, .inl (SqL.of h2), _, rfl, ra, _, rfl, .inl (SqL.of (w2 _ _ hra)), rfl, _, rfl, iteFd (by rw [len2, len1]; simp) ?_⟩
  refine ⟨_, rfl, ra, _, rfl, .inl (SqL.of (w2 _ _ hra)), _, rfl, by omega, by omega, for_range (lo := 0) (n := ((xs.length : Nat) : Int).toNat) (fun i σ H3 => ∃ (u : Option V), σ = [some (.ref b), some (.ref ca), some (.ref ra), some wv, some (.ref fa), some (.ref ta), some (.ref la), u, none, none, none, none, none] ∧ Same H2 H3)
    ⟨none, rfl, .refl _⟩ ?_ ?_⟩
  · rintro i σ H3 hi ⟨u, rfl, s3⟩
    have hix : i < xs.length := by omega
    obtain ⟨r, hri, a, rl', tv, ex, ha, hrl, hTr⟩ := pget hP (List.getElem?_eq_getElem hix)
    obtain ⟨r', hri', a2, rt, cv, ex2, ha2, hrt, hC⟩ := pget hX2 (List.getElem?_eq_getElem (show i < ls.length by omega))
    obtain rfl : r = r' := by rw [hri] at hri'; exact Option.some.inj hri'
    obtain ⟨rw1, dr, nr⟩ := ro r (List.mem_of_getElem? hri)
    have e0 : (0 : Int) + (i : Nat) = (i : Nat) := Int.zero_add _
    have hat : atI ls (0 + (i : Nat)) = some (.ref a2) := by rw [e0, ← ex2]; exact atI_nat (List.getElem?_eq_getElem _)
    have hat2 : atI xs (0 + (i : Nat)) = some (.ref a) := by rw [e0, ← ex]; exact atI_nat (List.getElem?_eq_getElem hix)
    have w3 := w2.trans s3
    have hla3 := SqL.of (K := K) (s3 _ _ h2)
    have ha3 := SqT.of (K := K) (s3 _ _ ha2)
    refine ⟨_, rfl, _, rfl, la, ls, _, _, rfl, rfl, hla3, hat, _, _, _, _, _, rfl, rel_ty, .tup (s3 _ _ ha2), kit_ss K "tuple", _, rfl, iteF ?_⟩
    refine ⟨_, rfl, _, rfl, la, ls, _, _, rfl, rfl, hla3, hat, a2, _, rfl, .inr ha3, rfl, _, rfl, iteFd (by rw [dec_int]; simp) ?_⟩
    refine ⟨_, rfl, _, rfl, la, ls, _, _, rfl, rfl, hla3, hat, a2, _, _, _, rfl, rfl, ha3, rfl, _, _, _, _, _, rfl, rel_ty, .tup (s3 _ _ hrt), kit_ss K "tuple", _, rfl, iteF ?_⟩
    refine ⟨_, rfl, _, rfl, la, ls, _, _, rfl, rfl, hla3, hat, a2, _, _, _, rfl, rfl, ha3, rfl, rt, _, rfl, .inr (SqT.of (s3 _ _ hrt)), fun L hL => ?_⟩
    have s4 := same_new hL (.lst (r.1.map kV))
    have h4 := upd_same (H := H3) (a := L) (o := .lst (r.1.map kV))
    generalize upd H3 L (.lst (r.1.map kV)) = H4 at s4 h4
    have w4 := w3.trans s4
    have s24 := s3.trans s4
    have hra4 := SqL.of (K := K) (w4 _ _ hra)
    have ha4 := SqT.of (K := K) (w4 _ _ ha)
    refine ⟨_, rfl, _, rfl, ra, xs, _, _, rfl, rfl, hra4, hat2, a, _, _, _, rfl, rfl, ha4, rfl, L, rl', _, _, rfl, rfl, SqL.of h4, SqL.of (w4 _ _ hrl), paired_self (key_flat _), _, rfl, iteF ?_⟩
    refine ⟨_, rfl, _, rfl, la, ls, _, _, rfl, rfl, SqL.of (s24 _ _ h2), hat, a2, _, _, _, rfl, rfl, SqT.of (s24 _ _ ha2), rfl, ?_⟩
    refine ⟨_, rfl, _, rfl, ra, xs, _, _, rfl, rfl, hra4, hat2, a, _, _, _, rfl, rfl, ha4, rfl, _, rfl, ?_⟩
    refine ⟨cv, tv, fa, r.2, fxs, gs0, rfl, hC.kp (.of s24), hTr.keep w4, dr, nr, w4 _ _ hfa, fun x hx => (hF x hx).keep w4, fun g hgc => hg0 g (.inl ⟨r, List.mem_of_getElem? hri, .inr hgc⟩), fun H5 s5 => ⟨_, rfl, iteF ?_⟩⟩
    exact ⟨_, rfl, s24.trans s5⟩
  · rintro σ H3 ⟨u, rfl, s3⟩
    have w3 := w2.trans s3
    refine ⟨_, rfl, b, BC, dx, fs, rfl, w3 _ _ hb, rfl, hm _ bm_w, b, cs, rows, wc, rfl, hB.kp (.of w3), fun cw hC => ⟨_, rfl, _, rfl, ?_⟩⟩
    refine ⟨cw, wv, fa, wc, fxs, gs0, rfl, hC, hT.keep w3, dw, nw, w3 _ _ hfa, fun x hx => (hF x hx).keep w3, fun g hgc => hg0 g (.inr hgc), fun H4 s4 => ⟨_, rfl, iteF ?_⟩⟩
    have w4 := w3.trans s4
    refine ⟨_, rfl, _, rfl, ra, wv, xs, rows, wc, rfl, w4 _ _ hra, pmap (fun _ _ h => RowT.keep w4 h) hP, rl, ro, hT.keep w4, dw, nw, fun sa H5 ks s5 hsa0 hsa kl hk => ?_⟩
    have w5 := w4.trans s5
    have s25 := s3.trans (s4.trans s5)
    exact q3 Q H H5 _ _ _ _ _ b ta la sa _ ls ks cs rows wc pool w5 hta hla0 (s25 _ _ hta2) (by rw [List.length_map]; omega) (s25 _ _ h2) (by omega) hsa kl hk hp pl (hB.kp (.of w5)) q
end
end K31
set_option maxHeartbeats 4000000
namespace L2
open PySem PySem.Spec PyProof.Rows
section
variable {X : Cx}
def rListOf (K : PySem.W.Frag) : List V → Hp → VK → Prop := fun xs H Q => ∃ p ys, xs = [.ref p] ∧ (SqL K H p ys ∨ SqT K H p ys) ∧ ∀ l, H l = none → Q (.ref l) (upd H l (.lst ys))
theorem call_list_ofK {K : PySem.W.Frag} (hK : X.K = K) : CallR X (.type "list") (rListOf K) := by
  subst hK; exact call_list_of
end
end L2
namespace K31
open PySem L2 CD
def spLaw (K : PySem.W.Frag) : Sp := fun args H Q _ => ∃ (a : Addr) (ns : List Int), args = [.ref a] ∧ SqL K H a (ns.map V.int) ∧ ns.length ≤ 63 ∧ ∀ H', Q (.bl true) H'
theorem paired_of {α β : Type} {R : α → β → Prop} : ∀ {xs : List α} {ys : List β}, xs.length = ys.length → (∀ (i : Nat) (x : α), xs[i]? = some x → ∃ y, ys[i]? = some y ∧ R x y) → Paired R xs ys
  | [], [], _, _ => .nil
  | [], _ :: _, h, _ => by cases h
  | _ :: _, [], h, _ => by cases h
  | x :: xs, y :: ys, h, f => by
    obtain ⟨y', e, r⟩ := f 0 x rfl
    cases Option.some.inj e
    exact .cons r (paired_of (Nat.succ.inj h) fun i z hz => f (i + 1) z hz)
theorem LnI.keep {T : Cl} {H H' H'' : Hp} {i : Nat} {y : V} {r : Row} (s : Same H' H'') (h : LnI T H H' i y r) : LnI T H H'' i y r := by
  obtain ⟨a, rr, cv, e, h1, h2, h3, h4, h5, hC⟩ := h
  exact ⟨a, rr, cv, e, h1, s _ _ h2, h3, fun z => s _ _ (h4 z), fun z => s _ _ (h5 z), hC.kp (.of s)⟩
theorem LnI.row {T : Cl} {H H' : Hp} {i : Nat} {y : V} {r : Row} (h : LnI T H H' i y r) : RowI T H' y r := by
  obtain ⟨a, rr, cv, e, h1, h2, h3, h4, h5, hC⟩ := h
  refine ⟨a, rr, cv, e, h2, ?_, hC⟩
  rcases Nat.mod_two_eq_zero_or_one i with z | z
  · exact .inl (h4 z)
  · exact .inr (h5 z)
theorem RowX.row {T : Cl} {H : Hp} {y : V} {r : Row} (h : RowX T H H y r) : RowI T H y r := by
  obtain ⟨a, rt, cv, e, h1, h2, h3⟩ := h
  exact ⟨a, rt, cv, e, h1, .inr h2, h3⟩
theorem poolK_len (gs : List Str) (vs : List Int) : (poolK gs vs).length = gs.length + vs.length := by
  unfold poolK
  rw [List.length_append, List.length_map, List.length_map]
theorem poolK_inr {gs : List Str} {vs : List Int} {g : Str} (h : Sum.inr g ∈ poolK gs vs) : g ∈ gs := by
  unfold poolK at h
  rcases List.mem_append.mp h with h | h
  · obtain ⟨x, hx, e⟩ := List.mem_map.mp h
    exact Sum.inr.inj e ▸ hx
  · obtain ⟨x, _, e⟩ := List.mem_map.mp h
    cases e
/-- what is at hand before anything is made -/
structure Bs (Hb : Hp) (ca ga ra fa : Addr) (wv : V) (cs gs : List Str) (vals : List Int) (xs fxs : List V) (rows : List Row) (wc : Cd) : Prop where
  d : Drw Hb ca ga ra wv cs gs vals xs rows wc
  fa : Hb fa = some (.lst fxs)
  fl : ∀ x ∈ fxs, Fll Hb gs x
theorem rt_use {T : Cl} {BC : Addr} {Hb H : Hp} {b ca ga ra fa : Addr} {wv wv' : V} {cs gs : List Str} {vals : List Int} {xs fxs : List V} {rows : List Row} {wc wc' : Cd} {Q : VK} {E : XK} (B : Bs Hb ca ga ra fa wv cs gs vals xs fxs rows wc) (s : Same Hb H) (hB : IsB T BC H b cs rows wc') (hT : IsT H wc' wv') (hd : depth wc' ≤ 4) (hn : nodes wc' ≤ 41) (hs : ∀ k, AllC rows wc' k → AllC rows wc k) (q : ∀ H', Same H H' → Q (.bl true) H') : spRight T BC [.ref b, .ref ca, .ref ra, wv', .ref fa] H Q E := by
  have cl := B.d.cl
  have gl := B.d.gl
  have vl := B.d.vl
  refine ⟨b, ca, ra, fa, wv', cs, rows, wc', xs, fxs, gs, poolK gs vals, rfl, hB, s _ _ B.d.ca, by omega, s _ _ B.d.ra, pmap (fun _ _ h => RowT.keep s h) B.d.pr, B.d.rl, fun r hr => ?_, hT, hd, hn, s _ _ B.fa, fun x hx => (B.fl x hx).keep s, fun g h => poolK_inr (B.d.po _ (hs _ h)), by rw [poolK_len]; omega, fun k h => B.d.po k (hs k h), q⟩
  obtain ⟨h1, h2, h3⟩ := B.d.ro r hr
  exact ⟨by omega, by omega, by omega⟩
theorem kp_updL {H : Hp} {a : Addr} {xs ys : List V} (h : H a = some (.lst xs)) : Kp H (upd H a (.lst ys)) :=
  ⟨fun b zs hb => by rw [upd_ne (fun e => by rw [e, h] at hb; cases hb)]; exact hb, fun b C dx fs hb => by rw [upd_ne (fun e => by rw [e, h] at hb; cases hb)]; exact hb⟩
/-- a table made -/
theorem bi_use {T : Cl} {BC : Addr} {H : Hp} {b dx ca ra : Addr} {wv : V} {cs : List Str} {gs : List Str} {vals : List Int} {ys : List V} {rows : List Row} {wc wc0 : Cd} {R : Hp → Prop} {E : XK} (hb : H b = none) (hdx : H dx = none) (hca : H ca = some (.lst (cs.map V.str))) (cn : cs.Nodup) (cl : cs.length ≤ 6) (hra : H ra = some (.lst ys)) (hP : Paired (RowI T H) ys rows) (hw : ∀ r ∈ rows, r.1.length = cs.length) (rl : rows.length ≤ 8)
    (hwv : (wv = .non ∧ wc = .truth true) ∨ IsC T H wc wv) (gl : gs.length ≤ 6) (vl : vals.length = 7) (po : ∀ k, AllC rows wc0 k → k ∈ poolK gs vals) (hs : ∀ k, AllC rows wc k → AllC rows wc0 k) (q : ∀ H', Same H H' → IsB T BC H' b cs rows wc → R H') :
    spBI T BC [.ref b, .ref ca, .ref ra, wv] (upd (upd H dx (.own b)) b (.ins BC dx [])) (fun v H2 => v = .non ∧ R H2) E := by
  have ms := mk_same (C := BC) hb hdx
  exact ⟨b, dx, ca, ra, wv, cs, ys, rows, wc, poolK gs vals, H, rfl, upd_same, ms, hb, hca, cn, by omega, hra, hP, hw, by omega, hwv, by rw [poolK_len]; omega, fun k h => po k (hs k h), fun H' kb hB => ⟨rfl, q H' (kb.same ms hb) hB⟩⟩
abbrev nmL : List Str := ["_law_script", "_law_columns", "_law_gaps", "_law_rows", "_law_whole", "_law_fillings_here", "_law_handed", "_law_lines_here", "_law_table", "_law_again", "_law_bare", "_law_line"]
section
variable {P : Program} {w : World} {K : PySem.W.Frag} {mg : Str → Option Value} {base : Heap} {f : Addr} {fd : FuncData} {T : Cl} {BC : Addr}
theorem scLw : FnScope nmL ["_law_script"] (defScope sLaw) := ⟨rfl, rfl, rfl, by decide +kernel, rfl, by decide +kernel, by decide +kernel⟩
/-- the last part: what was handed in is changed, and the tables are asked again -/
theorem lw_tail2 {cdv : Value} {A : Around} {outer : List Env} {s : Shared} {H0' : Hp} {E : XK} (hr : Room 48 (A.deeper (PyProof.Rows.envOfC "law" (defScope sLaw) s.heap.objs.size f cdv)))
    (C1 : Cal P w K mg base "_law_right" 42 psR (spRight T BC)) (M1 : MkC P w K mg base "Truth" T.t 42 ["self", "said"] (spTI T)) :
    ∃ t, PSs (cxOf CX0 P w K mg base nmL "law" (defScope sLaw) f cdv A outer s H0' E).nox ((defBody sLaw).drop 10) t ∧
      ∀ (Q : VK) (Hb H : Hp) (v0 v2 : Option V) (ca ga ra fa ha la b b2 b3 : Addr) (wv : V) (cs gs : List Str) (vals : List Int) (xs fxs ys : List V) (rows : List Row) (wc : Cd), Bs Hb ca ga ra fa wv cs gs vals xs fxs rows wc → Same Hb H → Hb ha = none → Hb la = none → H ha = some (.lst (cs.map V.str)) → H la = some (.lst ys) → ys.length = rows.length → (∀ i y, ys[i]? = some y → ∃ r, rows[i]? = some r ∧ LnI T Hb H i y r) →
        IsB T BC H b cs rows wc → IsB T BC H b2 cs rows wc → IsB T BC H b3 cs rows (.truth true) → (∀ H', Q (.bl true) H') →
        t { nx := fun _ H' => Q .non H', rt := Q } [v0, some (.ref ca), v2, some (.ref ra), some wv, some (.ref fa), some (.ref ha), some (.ref la), some (.ref b), some (.ref b2), some (.ref b3), none] H := by
  obtain ⟨f1, d1, G1, b1, k1, m1⟩ := C1
  obtain ⟨f2, d2, mk2, G2, bb2, m2⟩ := M1
  have hr42 : Room 42 _ := hr.mono (by decide)
  have hr43 : Room 43 _ := hr.mono (by decide)
  refine ⟨_, pss_cons (ps_for PassesOwn.never rfl (pi_list (pe_slice3 (pv 7) po_none po_none (po_some pe_int))) (pg_name (i := 11) scLw.nd rfl (Or.inl rfl))
      (pss_one (ps_expr (pe_bm PySem.F.plainAttrs_list PySem.F.slot_list_append PySem.F.type_list_append mt_append (pe_ix ix_tup (pv 11) pe_int (fun _ _ => rfl)) (pa_cons pe_int pa_nil)))))
    (pss_cons (ps_expr (pe_bm PySem.F.plainAttrs_list PySem.F.slot_list_append PySem.F.type_list_append mt_append (pv 7) (pa_cons (pe_tup (pa_cons (pe_lst pa_nil) (pa_cons (pe_make mk2 G2 hr43 rfl m2 bb2 .nil pass0 (pa_cons pe_bl pa_nil)) pa_nil))) pa_nil)))
    (pss_cons (ps_expr (pe_bm PySem.F.plainAttrs_list PySem.F.slot_list_append PySem.F.type_list_append mt_append (pv 6) (pa_cons pe_str pa_nil)))
    (pss_cons (ps_if (pt_not (pt_val (pe_call G1 hr42 rfl m1 k1 b1 .nil pass0 (pa_cons (pv 9) (pa_cons (pv 1) (pa_cons (pv 3) (pa_cons (pv 4) (pa_cons (pv 5) pa_nil)))))))) pss_never pss_nil)
    (pss_cons (ps_if (pt_not (pt_val (pe_call G1 hr42 rfl m1 k1 b1 .nil pass0 (pa_cons (pv 10) (pa_cons (pv 1) (pa_cons (pv 3) (pa_cons (pe_tup (pa_cons pe_str (pa_cons pe_bl pa_nil))) (pa_cons (pv 5) pa_nil)))))))) pss_never pss_nil)
    (pss_one (ps_ret (pe_call G1 hr42 rfl m1 k1 b1 .nil pass0 (pa_cons (pv 8) (pa_cons (pv 1) (pa_cons (pv 3) (pa_cons (pv 4) (pa_cons (pv 5) pa_nil)))))))))))), ?_⟩
  intro Q Hb H v0 v2 ca ga ra fa ha la b b2 b3 wv cs gs vals xs fxs ys rows wc B s0 nha nla hha hla yl hL hB1 hB2 hB3 q
  have rl := B.d.rl
  have cl := B.d.cl
  refine ⟨_, rfl, 2, rfl, la, ys, rfl, SqL.of hla, by decide, fun D hD => ?_⟩
  have pe := @pick_even ys
  have pn := @pick_len ys
  generalize pickV ys none none (some 2) = zs at pe pn ⊢
  have s1 := same_new hD (.lst zs)
  have h1 := upd_same (H := H) (a := D) (o := .lst zs)
  generalize upd H D (.lst zs) = H1 at s1 h1 ⊢
  refine ⟨D, rfl, ⟨_, SqL.of h1⟩, for_list (K := K) (a := D) (xs := zs) (fun i σ H2 => ∃ u : Option V, σ = [v0, some (.ref ca), v2, some (.ref ra), some wv, some (.ref fa), some (.ref ha), some (.ref la), some (.ref b), some (.ref b2), some (.ref b3), u] ∧ Same Hb H2 ∧ Kp H H2 ∧ H2 D = some (.lst zs) ∧ (∃ ys', H2 la = some (.lst ys') ∧ ys'.length ≤ 100 + i) ∧ (∃ hs, H2 ha = some (.lst hs) ∧ hs.length ≤ 100 + i) ∧ ∀ j y, ys[j]? = some y → j % 2 = 0 → ∃ (a rr : Addr) (cv : V) (us : List V), y = .ref a ∧ H a = some (.tup [.ref rr, cv]) ∧ Hb rr = none ∧ rr ≠ D ∧ H2 rr = some (.lst us) ∧ us.length ≤ 100 + i)
    ⟨none, rfl, s0.trans s1, .of s1, h1, ⟨ys, s1 _ _ hla, by omega⟩, ⟨_, s1 _ _ hha, by rw [List.length_map]; omega⟩, fun j y hj hj2 => ?_⟩ (fun i σ H2 _ ⟨_, _, _, _, z, _⟩ => SqL.of z) ?_ ?_⟩
  · obtain ⟨r, hr0, a, rr, cv, rfl, h2, h3, h4, h5, h6, h7⟩ := hL j y hj
    have r1 := (B.d.ro r (List.mem_of_getElem? hr0)).1
    exact ⟨a, rr, cv, _, rfl, h3, h4, (fun e => by rw [e, hD] at h5; cases h5 hj2), s1 _ _ (h5 hj2), by rw [List.length_map]; omega⟩
  · rintro i x σ H2 hi ⟨u, rfl, s2, k2, h2, ⟨ys', hy', yl'⟩, ⟨hs, hh', hl'⟩, hA⟩
    have hil := (List.getElem?_eq_some_iff.mp hi).1
    obtain ⟨j, hj⟩ := pe (List.mem_of_getElem? hi)
    obtain ⟨a, rr, cv, us, rfl, h3, h4, h5, h6, h7⟩ := hA (2 * j) x hj (by omega)
    have tk := SqT.of (K := K) (k2.tup _ _ h3)
    refine ⟨_, rfl, a, _, _, _, rfl, rfl, tk, rfl, .inl ⟨rfl, _, SqL.of h6⟩, rr, _, _, rfl, rfl, h6, small1000 (by omega), ?_⟩
    refine ⟨_, rfl, same_upd s2 h4 _, k2.trans (kp_updL h6), by rw [upd_ne (Ne.symm h5)]; exact h2, ?_, ?_, fun j' y' hj' hj2' => ?_⟩
    · by_cases e : la = rr
      · subst e
        exact ⟨_, upd_same, by rw [List.length_append]; simp; omega⟩
      · exact ⟨ys', by rw [upd_ne e]; exact hy', by omega⟩
    · by_cases e : ha = rr
      · subst e
        exact ⟨_, upd_same, by rw [List.length_append]; simp; omega⟩
      · exact ⟨hs, by rw [upd_ne e]; exact hh', by omega⟩
    · obtain ⟨a', rr', cv', us', e1, h3', h4', h5', h6', h7'⟩ := hA j' y' hj' hj2'
      by_cases e : rr' = rr
      · subst e
        exact ⟨a', rr', cv', _, e1, h3', h4', h5', upd_same, by rw [List.length_append]; simp; omega⟩
      · exact ⟨a', rr', cv', us', e1, h3', h4', h5', by rw [upd_ne e]; exact h6', by omega⟩
  · rintro σ H2 ⟨u, rfl, s2, k2, h2, ⟨ys', hy', yl'⟩, ⟨hs, hh', hl'⟩, hA⟩
    refine ⟨_, rfl, .inl ⟨rfl, _, SqL.of hy'⟩, small (by simp), fun l1 hl1 => ?_⟩
    have s3 := same_new hl1 (.lst [])
    generalize upd H2 l1 (.lst []) = H3 at s3 ⊢
    refine fun x dx hx hdx ne => ?_
    have ms := mk_same (C := T.t) hx hdx
    refine ⟨x, dx, true, H3, rfl, upd_same, ms, hx, fun H4 kb hC => ⟨rfl, small (by simp), fun t1 ht1 => ?_⟩⟩
    have s4 := kb.same ms hx
    have s5 := same_new ht1 (.tup [.ref l1, .ref x])
    generalize upd H4 t1 (.tup [.ref l1, .ref x]) = H5 at s5 ⊢
    have w5 := s3.trans (s4.trans s5)
    have hy5 := w5 _ _ hy'
    refine ⟨la, _, _, rfl, rfl, hy5, small1000 (by omega), ?_⟩
    have k6 := kp_updL (ys := ys' ++ [V.ref t1]) hy5
    have s6 := same_upd (s2.trans w5) nla (.lst (ys' ++ [V.ref t1]))
    have hh6 : ∃ hs', (upd H5 la (.lst (ys' ++ [V.ref t1]))) ha = some (.lst hs') ∧ hs'.length ≤ 1000 := by
      by_cases e : ha = la
      · subst e
        exact ⟨_, upd_same, by rw [List.length_append]; simp; omega⟩
      · exact ⟨hs, by rw [upd_ne e]; exact w5 _ _ hh', by omega⟩
    generalize upd H5 la (.lst (ys' ++ [V.ref t1])) = H6 at k6 s6 hh6 ⊢
    obtain ⟨hs', hh6, hl6⟩ := hh6
    refine ⟨_, rfl, .inl ⟨rfl, _, SqL.of hh6⟩, ha, _, _, rfl, rfl, hh6, small1000 hl6, ?_⟩
    have k7 := kp_updL (ys := hs' ++ [V.str "zz"]) hh6
    have s7 := same_upd s6 nha (.lst (hs' ++ [V.str "zz"]))
    generalize upd H6 ha (.lst (hs' ++ [V.str "zz"])) = H7 at k7 s7 ⊢
    have k07 : Kp H H7 := k2.trans ((Kp.of w5).trans (k6.trans k7))
    have wd := B.d.wd
    have wn := B.d.wn
    refine ⟨_, rfl, _, rfl, _, rfl, _, rfl, _, rfl, ?_⟩
    (try dsimp only [tNil])
    refine rt_use B s7 (hB2.kp k07) (B.d.wt.keep s7) (by omega) (by omega) (fun k h => h) fun H8 s8 => ⟨_, rfl, iteF ?_⟩
    have w8 := s7.trans s8
    refine ⟨_, rfl, _, rfl, _, rfl, small (by simp), fun t2 ht2 => ?_⟩
    have s9 := same_new ht2 (.tup [.str "truth", .bl true])
    have h9 := upd_same (H := H8) (a := t2) (o := .tup [.str "truth", .bl true])
    generalize upd H8 t2 (.tup [.str "truth", .bl true]) = H9 at s9 h9 ⊢
    have w9 := w8.trans s9
    have k9 := k07.trans (.of (s8.trans s9))
    refine ⟨_, rfl, ?_⟩
    (try dsimp only [tNil])
    refine rt_use B w9 (hB3.kp k9) (by simp only [IsT]; exact ⟨t2, rfl, h9⟩) (by simp [depth]) (by simp [nodes]) (fun k h => ?_) fun H10 s10 => ⟨_, rfl, iteF ?_⟩
    · rcases h with h | h
      · exact .inl h
      · simp [cells] at h
    refine ⟨_, rfl, _, rfl, _, rfl, _, rfl, _, rfl, ?_⟩
    (try dsimp only [tNil])
    exact rt_use B (w9.trans s10) (hB1.kp (k9.trans (.of s10))) (B.d.wt.keep (w9.trans s10)) (by omega) (by omega) (fun k h => h) fun H11 _ => q H11
end
end K31
set_option maxHeartbeats 4000000
namespace K31
open PySem L2 CD
/-- lists of cells, one for each row -/
def CelL (H : Hp) (D : Addr) (v : V) (r : Row) : Prop := ∃ L : Addr, v = .ref L ∧ L ≠ D ∧ H L = some (.lst (r.1.map kV))
theorem celL_keep {H H' : Hp} {D : Addr} (k : ∀ a o, a ≠ D → H a = some o → H' a = some o) : ∀ {zs : List V} {rows : List Row}, Paired (CelL H D) zs rows → Paired (CelL H' D) zs rows
  | _, _, .nil => .nil
  | _, _, .cons ⟨L, e, n, h⟩ t => .cons ⟨L, e, n, k _ _ n h⟩ (celL_keep k t)
theorem celL_eq {K : PySem.W.Frag} {H : Hp} {D D' : Addr} : ∀ {zs ws : List V} {rows : List Row}, Paired (CelL H D) zs rows → Paired (CelL H D') ws rows → Paired (EqT K H) zs ws
  | _, _, _, .nil, .nil => .nil
  | _, _, _, .cons ⟨L, e, _, h⟩ t, .cons ⟨L', e', _, h'⟩ t' => by
    subst e e'
    exact .cons (.lst (SqL.of h) (SqL.of h') (key_flat _)) (celL_eq t t')
section
variable {P : Program} {w : World} {K : PySem.W.Frag} {mg : Str → Option Value} {base : Heap} {f : Addr} {fd : FuncData} {T : Cl} {BC : Addr}
theorem lw_tail1 {cdv : Value} {A : Around} {outer : List Env} {s : Shared} {H0' : Hp} {E : XK} (hr : Room 48 (A.deeper (PyProof.Rows.envOfC "law" (defScope sLaw) s.heap.objs.size f cdv))) (X : Txt mg)
    (FC : Fam P w K mg base CX0 1 (· = BC) "columns" ["self"] (fun _ => spBCols T BC)) (FR : Fam P w K mg base CX0 1 (· = BC) "rows" ["self"] (fun _ => spBRows T BC)) (FW : Fam P w K mg base CX0 1 (· = BC) "whole" ["self"] (fun _ => spBWhole T BC))
    (C1 : Cal P w K mg base "_law_right" 42 psR (spRight T BC)) (M1 : MkC P w K mg base "Truth" T.t 42 ["self", "said"] (spTI T)) (MB : MkC P w K mg base "Table" BC 44 ["self", "columns", "rows", "whole"] (spBI T BC)) :
    ∃ t, PSs (cxOf CX0 P w K mg base nmL "law" (defScope sLaw) f cdv A outer s H0' E).nox ((defBody sLaw).drop 6) t ∧
      ∀ (Q : VK) (Hb H : Hp) (v0 v2 : Option V) (ca ga ra fa ha la b : Addr) (wv : V) (cs gs : List Str) (vals : List Int) (xs fxs ys : List V) (rows : List Row) (wc : Cd), Bs Hb ca ga ra fa wv cs gs vals xs fxs rows wc → Same Hb H → Hb ha = none → Hb la = none → H ha = some (.lst (cs.map V.str)) → H la = some (.lst ys) → ys.length = rows.length → (∀ i y, ys[i]? = some y → ∃ r, rows[i]? = some r ∧ LnI T Hb H i y r) →
        IsB T BC H b cs rows wc → (∀ H', Q (.bl true) H') →
        t { nx := fun _ H' => Q .non H', rt := Q } [v0, some (.ref ca), v2, some (.ref ra), some wv, some (.ref fa), some (.ref ha), some (.ref la), some (.ref b), none, none, none] H := by
  obtain ⟨tt, ht, q3⟩ := lw_tail2 (P := P) (w := w) (K := K) (mg := mg) (base := base) (f := f) (outer := outer) (H0' := H0') (E := E) (BC := BC) hr C1 M1
  obtain ⟨f1, d1, G1, b1, k1, m1⟩ := C1
  obtain ⟨f2, d2, mk2, G2, bb2, m2⟩ := MB
  have hu8 := hu8_of hr
  have hr1 : Room 1 _ := hr.mono (by decide)
  have hr42 : Room 42 _ := hr.mono (by decide)
  have hr45 : Room 45 _ := hr.mono (by decide)
  refine ⟨_, pss_cons (ps_if (pt_not (pt_val (pe_call G1 hr42 rfl m1 k1 b1 .nil pass0 (pa_cons (pv 8) (pa_cons (pv 1) (pa_cons (pv 3) (pa_cons (pv 4) (pa_cons (pv 5) pa_nil)))))))) pss_never pss_nil)
    (pss_cons (ps_if (PW.pt (pw_or (pt_cmpR (op_ne_deep hu8) (pv 6) (pv 1) (nomark _))
      (pw_or1 (pt_cmpR (op_ne_deep hu8)
        (pe_lcG (caps := []) ["_law_line"] rfl (pi_list (pv 7)) ⟨rfl, by decide +kernel, by decide +kernel, rfl, .nil, rfl, rfl, rfl⟩
          (fun s H ex => pg_name (X := cxLG _ _ _ _ s H ex) (i := 0) (nd1 _) rfl (Or.inl rfl) (.inr rfl)) (fun s H ex => pif_nil)
          (fun s H ex => pe_callTy (call_list_ofK (K := K) rfl) rfl X.list PyProof.Rows.boot_list (pa_cons (pe_ix (ix_tupK (K := K) rfl) (pe_var (X := cxLG _ _ _ _ s H ex) (i := 0) rfl (Or.inl rfl)) pe_int (fun _ _ => rfl)) pa_nil)))
        (pe_lcG (caps := []) ["_law_row"] rfl (pi_list (pv 3)) ⟨rfl, by decide +kernel, by decide +kernel, rfl, .nil, rfl, rfl, rfl⟩
          (fun s H ex => pg_name (X := cxLG _ _ _ _ s H ex) (i := 0) (nd1 _) rfl (Or.inl rfl) (.inr rfl)) (fun s H ex => pif_nil)
          (fun s H ex => pe_ix (ix_tupK (K := K) rfl) (pe_var (X := cxLG _ _ _ _ s H ex) (i := 0) rfl (Or.inl rfl)) pe_int (fun _ _ => rfl))) (nomark _))))) pss_never pss_nil)
    (pss_cons (ps_set (i := 9) scLw.nd rfl (Or.inl rfl) (pe_make mk2 G2 hr45 rfl m2 bb2 .nil pass0 (pa_cons (pe_methF0 (pv 8) FC hr1 pass0) (pa_cons (pe_methF0 (pv 8) FR hr1 pass0) (pa_cons (pe_methF0 (pv 8) FW hr1 pass0) pa_nil)))))
    (pss_cons (ps_set (i := 10) scLw.nd rfl (Or.inl rfl) (pe_make mk2 G2 hr45 rfl m2 bb2 .nil pass0 (pa_cons (pv 6) (pa_cons (pv 7) (pa_cons pe_non pa_nil))))) ht))), ?_⟩
  intro Q Hb H v0 v2 ca ga ra fa ha la b wv cs gs vals xs fxs ys rows wc B s0 nha nla hha hla yl hL hB q
  have rl := B.d.rl
  have cl := B.d.cl
  have wd := B.d.wd
  have wn := B.d.wn
  refine ⟨_, rfl, _, rfl, _, rfl, _, rfl, _, rfl, ?_⟩
  (try dsimp only [tNil])
  refine rt_use B s0 hB (B.d.wt.keep s0) (by omega) (by omega) (fun k h => h) fun H1 s1 => ⟨_, rfl, iteF ?_⟩
  have w1 := s0.trans s1
  have hha1 := s1 _ _ hha
  have hla1 := s1 _ _ hla
  refine ⟨_, rfl, _, rfl, ha, ca, _, _, rfl, rfl, SqL.of hha1, SqL.of (w1 _ _ B.d.ca), paired_self (str_flat' _), _, rfl, iteF ?_⟩
  -- the cells handed in
  refine ⟨_, rfl, la, rfl, ⟨_, SqL.of hla1⟩, fun D hD => ?_⟩
  refine lcg_listR (K := K) (a := la) (xs := ys) (fun i σ H2 => ∃ (u : Option V) (zs : List V), σ = [u] ∧ Same H1 H2 ∧ H2 D = some (.lst zs) ∧ Paired (CelL H2 D) zs (rows.take i))
    ⟨none, [], rfl, same_new hD _, upd_same, by rw [List.take_zero]; exact .nil⟩ (fun i σ H2 _ ⟨_, _, _, s2, _⟩ => SqL.of (s2 _ _ hla1)) ?_ ?_
  · rintro i x σ H2 hi ⟨u, zs, rfl, s2, h2, hZ⟩
    obtain ⟨r, hri, a, rr, cv, rfl, n1, h3, n2, h4, h5, h6⟩ := hL i x hi
    have zl := plen hZ
    have hil := (List.getElem?_eq_some_iff.mp hri).1
    rw [List.length_take] at zl
    have w2 := s1.trans s2
    have hrr : SqL K H2 rr (r.1.map kV) ∨ SqT K H2 rr (r.1.map kV) := by
      rcases Nat.mod_two_eq_zero_or_one i with z | z
      · exact .inl (SqL.of (w2 _ _ (h4 z)))
      · exact .inr (SqT.of (w2 _ _ (h5 z)))
    refine ⟨_, rfl, a, _, _, _, rfl, rfl, SqT.of (w2 _ _ h3), rfl, rr, _, rfl, hrr, fun L hL' => ?_⟩
    have s3 := same_new hL' (.lst (r.1.map kV))
    have h3' := upd_same (H := H2) (a := L) (o := .lst (r.1.map kV))
    have nLD : L ≠ D := fun e => by rw [e, h2] at hL'; cases hL'
    generalize upd H2 L (.lst (r.1.map kV)) = H3 at s3 h3' ⊢
    refine ⟨zs, s3 _ _ h2, small1000 (by omega), _, zs ++ [.ref L], rfl, same_upd (s2.trans s3) hD _, upd_same, ?_⟩
    rw [take_snoc hri]
    refine psnoc (celL_keep (fun a o n h => by rw [upd_ne n]; exact s3 _ _ h) hZ) ⟨L, rfl, nLD, by rw [upd_ne nLD]; exact h3'⟩
  rintro σ H2 ⟨u, zs, rfl, s2, h2, hZ⟩
  rw [yl, List.take_length] at hZ
  have w2 := w1.trans s2
  have hra2 := w2 _ _ B.d.ra
  have len := plen B.d.pr
  -- the cells drawn
  refine ⟨_, rfl, ra, rfl, ⟨_, SqL.of hra2⟩, fun D2 hD2 => ?_⟩
  refine lcg_listR (K := K) (a := ra) (xs := xs) (fun i σ H3 => ∃ (u : Option V) (ws : List V), σ = [u] ∧ Same H2 H3 ∧ H3 D2 = some (.lst ws) ∧ Paired (CelL H3 D2) ws (rows.take i))
    ⟨none, [], rfl, same_new hD2 _, upd_same, by rw [List.take_zero]; exact .nil⟩ (fun i σ H3 _ ⟨_, _, _, s3, _⟩ => SqL.of (s3 _ _ hra2)) ?_ ?_
  · rintro i x σ H3 hi ⟨u, ws, rfl, s3, h3, hW⟩
    obtain ⟨r, hri, a, rl', tv, rfl, h4, h5, h6⟩ := pget B.d.pr hi
    have wl := plen hW
    have hil := (List.getElem?_eq_some_iff.mp hri).1
    rw [List.length_take] at wl
    have w3 := w2.trans s3
    have nD2 : rl' ≠ D2 := fun e => by rw [e, ] at h5; rw [w2 _ _ h5] at hD2; cases hD2
    refine ⟨_, rfl, a, _, _, _, rfl, rfl, SqT.of (w3 _ _ h4), rfl, ws, h3, small1000 (by omega), _, ws ++ [.ref rl'], rfl, same_upd s3 hD2 _, upd_same, ?_⟩
    rw [take_snoc hri]
    exact psnoc (celL_keep (fun a o n h => by rw [upd_ne n]; exact h) hW) ⟨rl', rfl, nD2, by rw [upd_ne nD2]; exact w3 _ _ h5⟩
  rintro σ H3 ⟨u, ws, rfl, s3, h3, hW⟩
  rw [len, List.take_length] at hW
  refine ⟨D, D2, _, _, rfl, rfl, SqL.of (s3 _ _ h2), SqL.of h3, celL_eq (celL_keep (fun a o _ h => s3 _ _ h) hZ) hW, _, rfl, iteF ?_⟩
  have w3 := w2.trans s3
  have s13 : Same H H3 := s1.trans (s2.trans s3)
  -- made again
  have hB3 := hB.kp (.of s13)
  obtain ⟨dx, fs, hb, hm⟩ := hB3.at
  refine ⟨_, rfl, b, BC, dx, fs, rfl, hb, rfl, hm _ bm_c, b, cs, rows, wc, rfl, hB3, fun ta hta => ?_⟩
  have s4 := same_new hta (.lst (cs.map V.str))
  have h4 := upd_same (H := H3) (a := ta) (o := .lst (cs.map V.str))
  generalize upd H3 ta (.lst (cs.map V.str)) = H4 at s4 h4 ⊢
  refine ⟨_, rfl, b, BC, dx, fs, rfl, s4 _ _ hb, rfl, hm _ bm_r, b, cs, rows, wc, rfl, hB3.kp (.of s4), fun ta2 ls hta2 hX => ?_⟩
  have s5 := same_new hta2 (.lst ls)
  have h5 := upd_same (H := H4) (a := ta2) (o := .lst ls)
  generalize upd H4 ta2 (.lst ls) = H5 at s5 h5 ⊢
  have hX5 : Paired (RowX T H5 H5) ls rows := rowx_kp (.of s5) hX
  have w35 := s4.trans s5
  refine ⟨_, rfl, b, BC, dx, fs, rfl, w35 _ _ hb, rfl, hm _ bm_w, b, cs, rows, wc, rfl, hB3.kp (.of w35), fun cw hC => ?_⟩
  refine fun b2 dx2 hb2 hdx2 ne2 => bi_use hb2 hdx2 (s5 _ _ h4) B.d.cn cl h5 (pmap (fun _ _ h => RowX.row h) hX5) (fun r hr => (B.d.ro r hr).1) rl (.inr hC) B.d.gl B.d.vl B.d.po (fun k h => h) fun H6 s6 hB6 => ?_
  have s06 : Same H H6 := s13.trans (w35.trans s6)
  have hP6 : Paired (RowI T H6) ys rows := paired_of yl fun i y hi => by
    obtain ⟨r, hr0, hl⟩ := hL i y hi
    exact ⟨r, hr0, (hl.keep s06).row⟩
  refine ⟨_, rfl, _, rfl, fun b3 dx3 hb3 hdx3 ne3 => bi_use hb3 hdx3 (s06 _ _ hha) B.d.cn cl (s06 _ _ hla) hP6 (fun r hr => (B.d.ro r hr).1) rl (.inl ⟨rfl, rfl⟩) B.d.gl B.d.vl B.d.po (fun k h => ?_) fun H7 s7 hB7 => ?_⟩
  · rcases h with h | h
    · exact .inl h
    · simp [cells] at h
  have s07 := s06.trans s7
  exact q3 Q Hb H7 v0 v2 ca ga ra fa ha la b b2 b3 wv cs gs vals xs fxs ys rows wc B (s0.trans s07) nha nla (s07 _ _ hha) (s07 _ _ hla) yl (fun i y hi => by
    obtain ⟨r, hr0, hl⟩ := hL i y hi
    exact ⟨r, hr0, hl.keep s07⟩) (hB.kp (.of s07)) (hB6.kp (.of s7)) hB7 q
end
end K31
set_option maxHeartbeats 4000000
namespace K31
open PySem L2 CD
/-- whether a tree is the one that holds always, compared as tuples -/
theorem isT_eq {K : PySem.W.Frag} {H : Hp} {c : Cd} {v : V} {t : Addr} {Q : VK} (h : IsT H c v) (ht : H t = some (.tup [.str "truth", .bl true])) (q1 : c = .truth true → Q (.bl true) H) (q2 : Q (.bl false) H) : rEqTT K v (.ref t) H Q := by
  have fls : ∀ (a : Addr) (ts : List V) (tag : Str) (e : Nat → Bool), v = .ref a → H a = some (.tup (.str tag :: ts)) → ts ≠ [] → tag ≠ "truth" → e 0 = false → (∀ x y, (V.str tag :: ts)[1]? = some x → ([V.str "truth", .bl true] : List V)[1]? = some y → EqI K H x y (e 1)) → rEqTT K v (.ref t) H Q := fun a ts tag e ev ha hne htag h0 h1 => by
    refine ⟨a, t, _, _, e, ev, rfl, SqT.of ha, SqT.of ht, fun j x y hx hy => ?_, ?_⟩
    · match j, hx, hy with
      | 0, hx, hy =>
        cases hx
        cases hy
        have : e 0 = eqV (.str tag) (.str "truth") := by
          rw [h0]
          symm
          show (tag == "truth") = false
          exact beq_false_of_ne htag
        rw [this]
        exact .flat rfl rfl
      | 1, hx, hy => exact h1 x y hx hy
      | j + 2, hx, hy => cases hy
    · have z : ((List.range (min (V.str tag :: ts).length ([V.str "truth", .bl true] : List V).length)).all e && (V.str tag :: ts).length == ([V.str "truth", .bl true] : List V).length) = false := by
        rw [Bool.and_eq_false_iff]
        refine .inl ?_
        rw [Bool.eq_false_iff]
        intro c
        have := (List.all_eq_true.mp c) 0 (by simp; omega)
        rw [h0] at this
        cases this
      rw [z]
      exact q2
  cases c with
  | truth b =>
    simp only [IsT] at h
    obtain ⟨a, rfl, ha⟩ := h
    refine ⟨a, t, _, _, fun j => if j = 0 then true else (b == true), rfl, rfl, SqT.of ha, SqT.of ht, fun j x y hx hy => ?_, ?_⟩
    · match j, hx, hy with
      | 0, hx, hy =>
        cases hx
        cases hy
        exact .flat (x := .str "truth") (y := .str "truth") rfl rfl
      | 1, hx, hy =>
        cases hx
        cases hy
        exact .flat (x := .bl b) (y := .bl true) rfl rfl
      | j + 2, hx, hy => cases hy
    · cases b with
      | true => exact q1 rfl
      | false => exact q2
  | same x y =>
    simp only [IsT] at h
    obtain ⟨a, rfl, ha⟩ := h
    exact fls a _ _ (fun j => if j = 0 then false else eqV (kV x) (.bl true)) rfl ha (by simp) (by decide) rfl fun z1 z2 h1 h2 => by
      cases h1
      cases h2
      exact .flat (by cases x <;> rfl) rfl
  | all l =>
    simp only [IsT] at h
    obtain ⟨a, p, xs, rfl, ha, hp, _⟩ := h
    exact fls a _ _ (fun j => false) rfl ha (by simp) (by decide) rfl fun z1 z2 h1 h2 => by
      cases h1
      cases h2
      exact .lb (SqL.of hp)
  | one l =>
    simp only [IsT] at h
    obtain ⟨a, p, xs, rfl, ha, hp, _⟩ := h
    exact fls a _ _ (fun j => false) rfl ha (by simp) (by decide) rfl fun z1 z2 h1 h2 => by
      cases h1
      cases h2
      exact .lb (SqL.of hp)
  | opp c' =>
    simp only [IsT] at h
    obtain ⟨a, v', rfl, ha, hc⟩ := h
    have : ∃ p us, v' = .ref p ∧ H p = some (.tup us) := by
      cases c' <;> simp only [IsT] at hc
      all_goals first
        | (obtain ⟨p, rfl, hp⟩ := hc; exact ⟨p, _, rfl, hp⟩)
        | (obtain ⟨p, _, _, rfl, hp, _⟩ := hc; exact ⟨p, _, rfl, hp⟩)
        | (obtain ⟨p, _, rfl, hp, _⟩ := hc; exact ⟨p, _, rfl, hp⟩)
    obtain ⟨p, us, rfl, hp⟩ := this
    exact fls a _ _ (fun j => false) rfl ha (by simp) (by decide) rfl fun z1 z2 h1 h2 => by
      cases h1
      cases h2
      exact .tb (SqT.of hp)
section
variable {P : Program} {w : World} {K : PySem.W.Frag} {mg : Str → Option Value} {base : Heap} {f : Addr} {fd : FuncData} {T : Cl} {BC : Addr}
theorem ok_law (Fn : Fun K "law" "law" sLaw f fd) (X : Txt mg)
    (FC : Fam P w K mg base CX0 1 (· = BC) "columns" ["self"] (fun _ => spBCols T BC)) (FR : Fam P w K mg base CX0 1 (· = BC) "rows" ["self"] (fun _ => spBRows T BC)) (FW : Fam P w K mg base CX0 1 (· = BC) "whole" ["self"] (fun _ => spBWhole T BC))
    (C1 : Cal P w K mg base "_law_right" 42 psR (spRight T BC)) (M1 : MkC P w K mg base "Truth" T.t 42 ["self", "said"] (spTI T)) (MB : MkC P w K mg base "Table" BC 44 ["self", "columns", "rows", "whole"] (spBI T BC))
    (MB0 : ∃ f fd, Mk K BC f ∧ FnOk P w K mg base CX0 44 f fd ["self", "columns", "rows", "whole"] (spBI T BC) ∧ Binds K fd ["self", "columns", "rows", "whole"] [.none] ∧ mg "Table" = some (.ref BC))
    (C2 : Cal P w K mg base "_law_drawn" 7 ["_law_script"] (spDrawn K)) (C3 : Cal P w K mg base "_law_fillings" 2 ["_law_script", "_law_gaps"] (spFillings K)) (C4 : Cal P w K mg base "_law_lines" 48 ["_law_rows"] (spLines T)) (C5 : Cal P w K mg base "_law_made" 47 ["_law_cond_here"] (spMade T 3)) :
    FnOk P w K mg base CX0 49 f fd ["_law_script"] (spLaw K) := by
  refine Fn.ok (k := 48) scLw (fun vs H Q E h => ?_) (fun cdv A outer s H vs Q E hr h => ?_)
  · obtain ⟨a, ns, rfl, _⟩ := h
    rfl
  obtain ⟨sa, ns, rfl, hS, nl, q⟩ := h
  obtain ⟨tt, ht, q3⟩ := lw_tail1 (P := P) (w := w) (K := K) (mg := mg) (base := base) (f := f) (outer := outer) (H0' := H) (E := E) hr X FC FR FW C1 M1 MB
  obtain ⟨f2, d2, mk2, G2, bb2, m2⟩ := MB
  obtain ⟨f0, d0, mk0, G0, bb0, m0⟩ := MB0
  obtain ⟨g2, e2, J2, c2, l2, n2⟩ := C2
  obtain ⟨g3, e3, J3, c3, l3, n3⟩ := C3
  obtain ⟨g4, e4, J4, c4, l4, n4⟩ := C4
  obtain ⟨g5, e5, J5, c5, l5, n5⟩ := C5
  have hu8 := hu8_of hr
  have hr2 : Room 2 _ := hr.mono (by decide)
  have hr7 : Room 7 _ := hr.mono (by decide)
  have hr45 : Room 45 _ := hr.mono (by decide)
  have hr47 : Room 47 _ := hr.mono (by decide)
  refine ⟨_, pss_cons (ps_asg (pe_call J2 hr7 rfl n2 l2 c2 .nil pass0 (pa_cons (pv 0) pa_nil)) (pg_tup rfl (pgs_cons (pg_name (i := 1) scLw.nd rfl (Or.inl rfl)) (pgs_cons (pg_name (i := 2) scLw.nd rfl (Or.inl rfl)) (pgs_cons (pg_name (i := 3) scLw.nd rfl (Or.inl rfl)) (pgs_cons (pg_name (i := 4) scLw.nd rfl (Or.inl rfl)) pgs_nil))))))
    (pss_cons (ps_set (i := 5) scLw.nd rfl (Or.inl rfl) (pe_call J3 hr2 rfl n3 l3 c3 .nil pass0 (pa_cons (pv 0) (pa_cons (pv 2) pa_nil))))
    (pss_cons (ps_set (i := 6) scLw.nd rfl (Or.inl rfl) (pe_callTy call_list_of rfl X.list PyProof.Rows.boot_list (pa_cons (pv 1) pa_nil)))
    (pss_cons (ps_set (i := 7) scLw.nd rfl (Or.inl rfl) (pe_call J4 hr rfl n4 l4 c4 .nil pass0 (pa_cons (pv 3) pa_nil)))
    (pss_cons (ps_set (i := 8) scLw.nd rfl (Or.inl rfl) (pe_make mk2 G2 hr45 rfl m2 bb2 .nil pass0 (pa_cons (pv 6) (pa_cons (pv 7) (pa_cons (pe_call J5 hr47 rfl n5 l5 c5 .nil pass0 (pa_cons (pv 4) pa_nil)) pa_nil)))))
    (pss_cons (ps_if (pt_cmpR (op_eqTT hu8) (pv 4) (pe_tup (pa_cons pe_str (pa_cons pe_bl pa_nil))) (nomark _))
      (pss_one (ps_set (i := 8) scLw.nd rfl (Or.inl rfl) (pe_make mk0 G0 hr45 rfl m0 bb0 (.cons (show RelV .non .none from rfl) .nil) pass0 (pa_cons (pv 6) (pa_cons (pv 7) pa_nil))))) pss_nil)
    ht))))), ?_⟩
  refine ⟨_, rfl, sa, ns, rfl, hS, fun a ca ga ra wv cs gs vals xs rows wc H1 s1 ha hD => ?_⟩
  refine ⟨a, _, rfl, SqT.of ha, rfl, _, _, rfl, _, _, rfl, _, _, rfl, _, _, rfl, rfl, ?_⟩
  have gl := hD.gl
  refine ⟨_, rfl, _, rfl, sa, ga, ns, gs, rfl, s1.seq hS, hD.ga, by omega, fun fa fxs H2 s2 hfa f3 hF => ?_⟩
  have hD2 : Drw H2 ca ga ra wv cs gs vals xs rows wc := { hD with ca := s2 _ _ hD.ca, ga := s2 _ _ hD.ga, ra := s2 _ _ hD.ra, pr := pmap (fun _ _ h => RowT.keep s2 h) hD.pr, wt := hD.wt.keep s2 }
  have B : Bs H2 ca ga ra fa wv cs gs vals xs fxs rows wc := ⟨hD2, hfa, hF⟩
  refine ⟨_, rfl, ca, _, rfl, .inl (SqL.of hD2.ca), fun ha' hha0 => ?_⟩
  have s3 := same_new hha0 (.lst (cs.map V.str))
  have h3 := upd_same (H := H2) (a := ha') (o := .lst (cs.map V.str))
  generalize upd H2 ha' (.lst (cs.map V.str)) = H3 at s3 h3 ⊢
  have vl := hD.vl
  refine ⟨_, rfl, ra, xs, rows, poolK gs vals, rfl, s3 _ _ hD2.ra, pmap (fun _ _ h => RowT.keep s3 h) hD2.pr, hD.rl, fun r hr => (hD.ro r hr).2, by rw [poolK_len]; omega, fun r hr k hk => hD.po k (.inl ⟨r, hr, .inr hk⟩), fun la ys H4 s4 hla0 hla yl hL => ?_⟩
  have w4 := s3.trans s4
  have hT4 := hD2.wt.keep w4
  have wd := hD.wd
  have wn := hD.wn
  refine ⟨_, rfl, _, rfl, _, rfl, wv, wc, poolK gs vals, rfl, hT4, wd, by omega, by omega, by rw [poolK_len]; omega, fun k hk => hD.po k (.inr hk), fun cv H5 s5 hC => ?_⟩
  have hPr : ∀ H6, Same H4 H6 → Paired (RowI T H6) ys rows := fun H6 s6 => paired_of yl fun i y hi => by
    obtain ⟨r, hr0, hl⟩ := hL i y hi
    exact ⟨r, hr0, (hl.keep s6).row⟩
  have hw : ∀ r ∈ rows, r.1.length = cs.length := fun r hr => (hD.ro r hr).1
  refine fun b dx hb hdx ne => bi_use hb hdx (s5 _ _ (s4 _ _ h3)) hD.cn hD.cl (s5 _ _ hla) (hPr H5 s5) hw hD.rl (.inr hC) hD.gl hD.vl hD.po (fun k h => h) fun H6 s6 hB => ?_
  have s46 := s5.trans s6
  have fin : ∀ (b' : Addr) (H' : Hp), Same H4 H' → IsB T BC H' b' cs rows wc → tt { nx := fun _ H' => Q .non H', rt := Q } [some (.ref sa), some (.ref ca), some (.ref ga), some (.ref ra), some wv, some (.ref fa), some (.ref ha'), some (.ref la), some (.ref b'), none, none, none] H' := fun b' H' s' hB' =>
    q3 Q H2 H' _ _ ca ga ra fa ha' la b' wv cs gs vals xs fxs ys rows wc B (w4.trans s') hha0 (same_back s3 hla0) (s' _ _ (s4 _ _ h3)) (s' _ _ hla) yl (fun i y hi => by
      obtain ⟨r, hr0, hl⟩ := hL i y hi
      exact ⟨r, hr0, (hl.out fun a ha => same_back s3 ha).keep s'⟩) hB' q
  refine ⟨_, rfl, small (by simp), fun t ht0 => ?_⟩
  have s7 := same_new ht0 (.tup [.str "truth", .bl true])
  have h7 := upd_same (H := H6) (a := t) (o := .tup [.str "truth", .bl true])
  generalize upd H6 t (.tup [.str "truth", .bl true]) = H7 at s7 h7 ⊢
  have s47 := s46.trans s7
  refine isT_eq (hT4.keep s47) h7 (fun e => ?_) ?_
  · subst e
    refine ⟨_, rfl, iteT ⟨_, rfl, _, rfl, fun b' dx' hb' hdx' ne' => bi_use hb' hdx' (s47 _ _ (s4 _ _ h3)) hD.cn hD.cl (s47 _ _ hla) (hPr H7 s47) hw hD.rl (.inl ⟨rfl, rfl⟩) hD.gl hD.vl hD.po (fun k h => h) fun H8 s8 hB8 => ?_⟩⟩
    exact fin b' H8 (s47.trans s8) hB8
  · exact ⟨_, rfl, iteF (fin b H7 s47 (hB.kp (.of s7)))⟩
end
end K31
set_option maxHeartbeats 4000000
namespace K31
open PySem L2 CD
/-- what the text says of one of the five classes -/
structure CF (K : PySem.W.Frag) (C fT fH : Addr) : Prop where
  pg : PySem.W.plainGet K C Str.empty = true
  hd : PySem.W.hasDictIn K C = true
  po : PySem.W.plainOver K C = true
  sa : PySem.W.findIn K (.ref C) "__setattr__" = some (some (.builtin "object.__setattr__"))
  ng : PySem.W.findIn K (.ref C) "kept_gaps" = some none
  nv : PySem.W.findIn K (.ref C) "kept_values" = some none
  na : PySem.W.findIn K (.ref C) "kept_atoms" = some none
  ns : PySem.W.findIn K (.ref C) "settled" = some none
  mt : PySem.W.findIn K (.ref C) "truth" = some (some (.ref fT))
  mh : PySem.W.findIn K (.ref C) "holds" = some (some (.ref fH))
  mks : PySem.W.makesIn K C = true
  kp : PySem.W.keepIn K (.ref C) = true
  cls : PySem.W.findIn K (.ref C) "__class__" = some (some (.builtin "object.__class__"))
  mro : PySem.W.mroIn K C (.type "object") = some true
theorem per {T : Cl} {P : Addr → Prop} (h1 : P T.t) (h2 : P T.s) (h3 : P T.a) (h4 : P T.o) (h5 : P T.p) : ∀ c : Cd, P (T.of c)
  | .truth _ => h1
  | .same _ _ => h2
  | .all _ => h3
  | .one _ => h4
  | .opp _ => h5
theorem CF.c {K : PySem.W.Frag} {C fT fH : Addr} (h : CF K C fT fH) : Cls K C := ⟨h.pg, h.hd, h.po, h.sa⟩
theorem all_mk {l : PySem.W.OpenLaw} {w : World} {K : PySem.W.Frag} {h : Heap} {mg : Str → Option Value} {fa DT CC Tt Ts Ta To Tp BC f_d0 f_d1 f_d2 f_d3 f_d4 f_d5 f_d6 f_d7 f_d8 f_d9 f_d10 f_d11 f_d12 f_d13 f_d14 f_d15 f_d16 f_d17 f_d18 f_d19 f_d20 f_d21 f_d22 f_d23 f_d24 f_i0 f_t0 f_h0 f_i1 f_w1 f_i2 f_w2 f_i3 f_w3 f_i4 f_w4 f_i5 f_w5 f_i6 f_c6 f_r6 f_h6 f_g6 f_s6 : Addr} {oDT : Option Addr} {cDT : Value} {sDT : Array (Option Value)} {nDT : Nat} (X : K.In h) (G : h.Ns mainGlobals mg) (hfa : mg "law" = some (.ref fa))
    {od_d0 an_d0 od_d1 an_d1 od_d2 an_d2 od_d3 an_d3 od_d4 an_d4 od_d5 an_d5 od_d6 an_d6 od_d7 an_d7 od_d8 an_d8 od_d9 an_d9 od_d10 an_d10 od_d11 an_d11 od_d12 an_d12 od_d13 an_d13 od_d14 an_d14 od_d15 an_d15 od_d16 an_d16 od_d17 an_d17 od_d18 an_d18 od_d19 an_d19 od_d20 an_d20 od_d21 an_d21 od_d22 an_d22 od_d23 an_d23 od_d24 an_d24 od_i0 an_i0 od_t0 an_t0 od_h0 an_h0 od_i1 an_i1 od_w1 an_w1 od_i2 an_i2 od_w2 an_w2 od_i3 an_i3 od_w3 an_w3 od_i4 an_i4 od_w4 an_w4 od_i5 an_i5 od_w5 an_w5 od_i6 an_i6 od_c6 an_c6 od_r6 an_r6 od_h6 an_h6 od_g6 an_g6 od_s6 an_s6 : Option Addr} {sl_d0 sl_d1 sl_d2 sl_d3 sl_d4 sl_d5 sl_d6 sl_d7 sl_d8 sl_d9 sl_d10 sl_d11 sl_d12 sl_d13 sl_d14 sl_d15 sl_d16 sl_d17 sl_d18 sl_d19 sl_d20 sl_d21 sl_d22 sl_d23 sl_d24 sl_i0 sl_t0 sl_h0 sl_i1 sl_w1 sl_i2 sl_w2 sl_i3 sl_w3 sl_i4 sl_w4 sl_i5 sl_w5 sl_i6 sl_c6 sl_r6 sl_h6 sl_g6 sl_s6 : Array (Option Value)} {oc_d0 kV_d0 dc_d0 pm_d0 cd_d0 ct_d0 oc_d1 kV_d1 dc_d1 pm_d1 cd_d1 ct_d1 oc_d2 kV_d2 dc_d2 pm_d2 cd_d2 ct_d2 oc_d3 kV_d3 dc_d3 pm_d3 cd_d3 ct_d3 oc_d4 kV_d4 dc_d4 pm_d4 cd_d4 ct_d4 oc_d5 kV_d5 dc_d5 pm_d5 cd_d5 ct_d5 oc_d6 kV_d6 dc_d6 pm_d6 cd_d6 ct_d6 oc_d7 kV_d7 dc_d7 pm_d7 cd_d7 ct_d7 oc_d8 kV_d8 dc_d8 pm_d8 cd_d8 ct_d8 oc_d9 kV_d9 dc_d9 pm_d9 cd_d9 ct_d9 oc_d10 kV_d10 dc_d10 pm_d10 cd_d10 ct_d10 oc_d11 kV_d11 dc_d11 pm_d11 cd_d11 ct_d11 oc_d12 kV_d12 dc_d12 pm_d12 cd_d12 ct_d12 oc_d13 kV_d13 dc_d13 pm_d13 cd_d13 ct_d13 oc_d14 kV_d14 dc_d14 pm_d14 cd_d14 ct_d14 oc_d15 kV_d15 dc_d15 pm_d15 cd_d15 ct_d15 oc_d16 kV_d16 dc_d16 pm_d16 cd_d16 ct_d16 oc_d17 kV_d17 dc_d17 pm_d17 cd_d17 ct_d17 oc_d18 kV_d18 dc_d18 pm_d18 cd_d18 ct_d18 oc_d19 kV_d19 dc_d19 pm_d19 cd_d19 ct_d19 oc_d20 kV_d20 dc_d20 pm_d20 cd_d20 ct_d20 oc_d21 kV_d21 dc_d21 pm_d21 cd_d21 ct_d21 oc_d22 kV_d22 dc_d22 pm_d22 cd_d22 ct_d22 oc_d23 kV_d23 dc_d23 pm_d23 cd_d23 ct_d23 oc_d24 kV_d24 dc_d24 pm_d24 cd_d24 ct_d24 oc_i0 kV_i0 dc_i0 pm_i0 cd_i0 ct_i0 oc_t0 kV_t0 dc_t0 pm_t0 cd_t0 ct_t0 oc_h0 kV_h0 dc_h0 pm_h0 cd_h0 ct_h0 oc_i1 kV_i1 dc_i1 pm_i1 cd_i1 ct_i1 oc_w1 kV_w1 dc_w1 pm_w1 cd_w1 ct_w1 oc_i2 kV_i2 dc_i2 pm_i2 cd_i2 ct_i2 oc_w2 kV_w2 dc_w2 pm_w2 cd_w2 ct_w2 oc_i3 kV_i3 dc_i3 pm_i3 cd_i3 ct_i3 oc_w3 kV_w3 dc_w3 pm_w3 cd_w3 ct_w3 oc_i4 kV_i4 dc_i4 pm_i4 cd_i4 ct_i4 oc_w4 kV_w4 dc_w4 pm_w4 cd_w4 ct_w4 oc_i5 kV_i5 dc_i5 pm_i5 cd_i5 ct_i5 oc_w5 kV_w5 dc_w5 pm_w5 cd_w5 ct_w5 oc_i6 kV_i6 dc_i6 pm_i6 cd_i6 ct_i6 oc_c6 kV_c6 dc_c6 pm_c6 cd_c6 ct_c6 oc_r6 kV_r6 dc_r6 pm_r6 cd_r6 ct_r6 oc_h6 kV_h6 dc_h6 pm_h6 cd_h6 ct_h6 oc_g6 kV_g6 dc_g6 pm_g6 cd_g6 ct_g6 oc_s6 kV_s6 dc_s6 pm_s6 cd_s6 ct_s6 : Value}
    (n_CC : PySem.W.nsIn K mainGlobals "Cond" = some (some (.ref CC)))
    (n_Tt : PySem.W.nsIn K mainGlobals "Truth" = some (some (.ref Tt)))
    (n_Ts : PySem.W.nsIn K mainGlobals "Same" = some (some (.ref Ts)))
    (n_Ta : PySem.W.nsIn K mainGlobals "AllOf" = some (some (.ref Ta)))
    (n_To : PySem.W.nsIn K mainGlobals "OneOf" = some (some (.ref To)))
    (n_Tp : PySem.W.nsIn K mainGlobals "Opposite" = some (some (.ref Tp)))
    (n_BC : PySem.W.nsIn K mainGlobals "Table" = some (some (.ref BC)))
    (dj : [Tt, Ts, Ta, To, Tp].Nodup)
    (a_d0 : PySem.W.nsIn K mainGlobals "cell_value" = some (some (.ref f_d0)))
    (l_d0 : K.lookup f_d0 = some ⟨oc_d0, od_d0, .func (PySem.W.fnOf "cell_value" "cell_value" (defArgs sCellV) (defBody sCellV) (defScope sCellV) .none kV_d0 dc_d0 pm_d0 an_d0 cd_d0 ct_d0), sl_d0⟩)
    (c_d0 : PySem.W.codeIn K cd_d0 "cell_value" = true)
    (k_d0 : PySem.W.keepIn K (.ref f_d0) = true)
    (a_d1 : PySem.W.nsIn K mainGlobals "gaps_among" = some (some (.ref f_d1)))
    (l_d1 : K.lookup f_d1 = some ⟨oc_d1, od_d1, .func (PySem.W.fnOf "gaps_among" "gaps_among" (defArgs sGapsA) (defBody sGapsA) (defScope sGapsA) .none kV_d1 dc_d1 pm_d1 an_d1 cd_d1 ct_d1), sl_d1⟩)
    (c_d1 : PySem.W.codeIn K cd_d1 "gaps_among" = true)
    (k_d1 : PySem.W.keepIn K (.ref f_d1) = true)
    (a_d2 : PySem.W.nsIn K mainGlobals "values_among" = some (some (.ref f_d2)))
    (l_d2 : K.lookup f_d2 = some ⟨oc_d2, od_d2, .func (PySem.W.fnOf "values_among" "values_among" (defArgs sValsA) (defBody sValsA) (defScope sValsA) .none kV_d2 dc_d2 pm_d2 an_d2 cd_d2 ct_d2), sl_d2⟩)
    (c_d2 : PySem.W.codeIn K cd_d2 "values_among" = true)
    (k_d2 : PySem.W.keepIn K (.ref f_d2) = true)
    (a_d3 : PySem.W.nsIn K mainGlobals "cells_within" = some (some (.ref f_d3)))
    (l_d3 : K.lookup f_d3 = some ⟨oc_d3, od_d3, .func (PySem.W.fnOf "cells_within" "cells_within" (defArgs sCellsW) (defBody sCellsW) (defScope sCellsW) .none kV_d3 dc_d3 pm_d3 an_d3 cd_d3 ct_d3), sl_d3⟩)
    (c_d3 : PySem.W.codeIn K cd_d3 "cells_within" = true)
    (k_d3 : PySem.W.keepIn K (.ref f_d3) = true)
    (a_d4 : PySem.W.nsIn K mainGlobals "check_filling" = some (some (.ref f_d4)))
    (l_d4 : K.lookup f_d4 = some ⟨oc_d4, od_d4, .func (PySem.W.fnOf "check_filling" "check_filling" (defArgs sCheck) (defBody sCheck) (defScope sCheck) .none kV_d4 dc_d4 pm_d4 an_d4 cd_d4 ct_d4), sl_d4⟩)
    (c_d4 : PySem.W.codeIn K cd_d4 "check_filling" = true)
    (k_d4 : PySem.W.keepIn K (.ref f_d4) = true)
    (a_d5 : PySem.W.nsIn K mainGlobals "check_columns" = some (some (.ref f_d5)))
    (l_d5 : K.lookup f_d5 = some ⟨oc_d5, od_d5, .func (PySem.W.fnOf "check_columns" "check_columns" (defArgs sCheckC) (defBody sCheckC) (defScope sCheckC) .none kV_d5 dc_d5 pm_d5 an_d5 cd_d5 ct_d5), sl_d5⟩)
    (c_d5 : PySem.W.codeIn K cd_d5 "check_columns" = true)
    (k_d5 : PySem.W.keepIn K (.ref f_d5) = true)
    (a_d6 : PySem.W.nsIn K mainGlobals "check_rows" = some (some (.ref f_d6)))
    (l_d6 : K.lookup f_d6 = some ⟨oc_d6, od_d6, .func (PySem.W.fnOf "check_rows" "check_rows" (defArgs sCheckR) (defBody sCheckR) (defScope sCheckR) .none kV_d6 dc_d6 pm_d6 an_d6 cd_d6 ct_d6), sl_d6⟩)
    (c_d6 : PySem.W.codeIn K cd_d6 "check_rows" = true)
    (k_d6 : PySem.W.keepIn K (.ref f_d6) = true)
    (a_d7 : PySem.W.nsIn K mainGlobals "_law_seed" = some (some (.ref f_d7)))
    (l_d7 : K.lookup f_d7 = some ⟨oc_d7, od_d7, .func (PySem.W.fnOf "_law_seed" "_law_seed" (defArgs sSeed) (defBody sSeed) (defScope sSeed) .none kV_d7 dc_d7 pm_d7 an_d7 cd_d7 ct_d7), sl_d7⟩)
    (c_d7 : PySem.W.codeIn K cd_d7 "_law_seed" = true)
    (k_d7 : PySem.W.keepIn K (.ref f_d7) = true)
    (a_d8 : PySem.W.nsIn K mainGlobals "_law_draw" = some (some (.ref f_d8)))
    (l_d8 : K.lookup f_d8 = some ⟨oc_d8, od_d8, .func (PySem.W.fnOf "_law_draw" "_law_draw" (defArgs sDraw) (defBody sDraw) (defScope sDraw) .none kV_d8 dc_d8 pm_d8 an_d8 cd_d8 ct_d8), sl_d8⟩)
    (c_d8 : PySem.W.codeIn K cd_d8 "_law_draw" = true)
    (k_d8 : PySem.W.keepIn K (.ref f_d8) = true)
    (a_d9 : PySem.W.nsIn K mainGlobals "_law_word" = some (some (.ref f_d9)))
    (l_d9 : K.lookup f_d9 = some ⟨oc_d9, od_d9, .func (PySem.W.fnOf "_law_word" "_law_word" (defArgs sWord) (defBody sWord) (defScope sWord) .none kV_d9 dc_d9 pm_d9 an_d9 cd_d9 ct_d9), sl_d9⟩)
    (c_d9 : PySem.W.codeIn K cd_d9 "_law_word" = true)
    (k_d9 : PySem.W.keepIn K (.ref f_d9) = true)
    (a_d10 : PySem.W.nsIn K mainGlobals "_law_words" = some (some (.ref f_d10)))
    (l_d10 : K.lookup f_d10 = some ⟨oc_d10, od_d10, .func (PySem.W.fnOf "_law_words" "_law_words" (defArgs sWords) (defBody sWords) (defScope sWords) .none kV_d10 dc_d10 pm_d10 an_d10 cd_d10 ct_d10), sl_d10⟩)
    (c_d10 : PySem.W.codeIn K cd_d10 "_law_words" = true)
    (k_d10 : PySem.W.keepIn K (.ref f_d10) = true)
    (a_d11 : PySem.W.nsIn K mainGlobals "_law_values" = some (some (.ref f_d11)))
    (l_d11 : K.lookup f_d11 = some ⟨oc_d11, od_d11, .func (PySem.W.fnOf "_law_values" "_law_values" (defArgs sValues) (defBody sValues) (defScope sValues) .none kV_d11 dc_d11 pm_d11 an_d11 cd_d11 ct_d11), sl_d11⟩)
    (c_d11 : PySem.W.codeIn K cd_d11 "_law_values" = true)
    (k_d11 : PySem.W.keepIn K (.ref f_d11) = true)
    (a_d12 : PySem.W.nsIn K mainGlobals "_law_cell" = some (some (.ref f_d12)))
    (l_d12 : K.lookup f_d12 = some ⟨oc_d12, od_d12, .func (PySem.W.fnOf "_law_cell" "_law_cell" (defArgs sCell) (defBody sCell) (defScope sCell) .none kV_d12 dc_d12 pm_d12 an_d12 cd_d12 ct_d12), sl_d12⟩)
    (c_d12 : PySem.W.codeIn K cd_d12 "_law_cell" = true)
    (k_d12 : PySem.W.keepIn K (.ref f_d12) = true)
    (a_d13 : PySem.W.nsIn K mainGlobals "_law_cond" = some (some (.ref f_d13)))
    (l_d13 : K.lookup f_d13 = some ⟨oc_d13, od_d13, .func (PySem.W.fnOf "_law_cond" "_law_cond" (defArgs sCondL) (defBody sCondL) (defScope sCondL) .none kV_d13 dc_d13 pm_d13 an_d13 cd_d13 ct_d13), sl_d13⟩)
    (c_d13 : PySem.W.codeIn K cd_d13 "_law_cond" = true)
    (k_d13 : PySem.W.keepIn K (.ref f_d13) = true)
    (a_d14 : PySem.W.nsIn K mainGlobals "_law_made" = some (some (.ref f_d14)))
    (l_d14 : K.lookup f_d14 = some ⟨oc_d14, od_d14, .func (PySem.W.fnOf "_law_made" "_law_made" (defArgs sMade) (defBody sMade) (defScope sMade) .none kV_d14 dc_d14 pm_d14 an_d14 cd_d14 ct_d14), sl_d14⟩)
    (c_d14 : PySem.W.codeIn K cd_d14 "_law_made" = true)
    (k_d14 : PySem.W.keepIn K (.ref f_d14) = true)
    (a_d15 : PySem.W.nsIn K mainGlobals "_law_at" = some (some (.ref f_d15)))
    (l_d15 : K.lookup f_d15 = some ⟨oc_d15, od_d15, .func (PySem.W.fnOf "_law_at" "_law_at" (defArgs sAt) (defBody sAt) (defScope sAt) .none kV_d15 dc_d15 pm_d15 an_d15 cd_d15 ct_d15), sl_d15⟩)
    (c_d15 : PySem.W.codeIn K cd_d15 "_law_at" = true)
    (k_d15 : PySem.W.keepIn K (.ref f_d15) = true)
    (a_d16 : PySem.W.nsIn K mainGlobals "_law_holds" = some (some (.ref f_d16)))
    (l_d16 : K.lookup f_d16 = some ⟨oc_d16, od_d16, .func (PySem.W.fnOf "_law_holds" "_law_holds" (defArgs sHolds) (defBody sHolds) (defScope sHolds) .none kV_d16 dc_d16 pm_d16 an_d16 cd_d16 ct_d16), sl_d16⟩)
    (c_d16 : PySem.W.codeIn K cd_d16 "_law_holds" = true)
    (k_d16 : PySem.W.keepIn K (.ref f_d16) = true)
    (a_d17 : PySem.W.nsIn K mainGlobals "_law_cells" = some (some (.ref f_d17)))
    (l_d17 : K.lookup f_d17 = some ⟨oc_d17, od_d17, .func (PySem.W.fnOf "_law_cells" "_law_cells" (defArgs sCells) (defBody sCells) (defScope sCells) .none kV_d17 dc_d17 pm_d17 an_d17 cd_d17 ct_d17), sl_d17⟩)
    (c_d17 : PySem.W.codeIn K cd_d17 "_law_cells" = true)
    (k_d17 : PySem.W.keepIn K (.ref f_d17) = true)
    (a_d18 : PySem.W.nsIn K mainGlobals "_law_drawn" = some (some (.ref f_d18)))
    (l_d18 : K.lookup f_d18 = some ⟨oc_d18, od_d18, .func (PySem.W.fnOf "_law_drawn" "_law_drawn" (defArgs sDrawn) (defBody sDrawn) (defScope sDrawn) .none kV_d18 dc_d18 pm_d18 an_d18 cd_d18 ct_d18), sl_d18⟩)
    (c_d18 : PySem.W.codeIn K cd_d18 "_law_drawn" = true)
    (k_d18 : PySem.W.keepIn K (.ref f_d18) = true)
    (a_d19 : PySem.W.nsIn K mainGlobals "_law_fillings" = some (some (.ref f_d19)))
    (l_d19 : K.lookup f_d19 = some ⟨oc_d19, od_d19, .func (PySem.W.fnOf "_law_fillings" "_law_fillings" (defArgs sFillings) (defBody sFillings) (defScope sFillings) .none kV_d19 dc_d19 pm_d19 an_d19 cd_d19 ct_d19), sl_d19⟩)
    (c_d19 : PySem.W.codeIn K cd_d19 "_law_fillings" = true)
    (k_d19 : PySem.W.keepIn K (.ref f_d19) = true)
    (a_d20 : PySem.W.nsIn K mainGlobals "_law_alike" = some (some (.ref f_d20)))
    (l_d20 : K.lookup f_d20 = some ⟨oc_d20, od_d20, .func (PySem.W.fnOf "_law_alike" "_law_alike" (defArgs sAlike) (defBody sAlike) (defScope sAlike) .none kV_d20 dc_d20 pm_d20 an_d20 cd_d20 ct_d20), sl_d20⟩)
    (c_d20 : PySem.W.codeIn K cd_d20 "_law_alike" = true)
    (k_d20 : PySem.W.keepIn K (.ref f_d20) = true)
    (a_d21 : PySem.W.nsIn K mainGlobals "_law_standing" = some (some (.ref f_d21)))
    (l_d21 : K.lookup f_d21 = some ⟨oc_d21, od_d21, .func (PySem.W.fnOf "_law_standing" "_law_standing" (defArgs sStanding) (defBody sStanding) (defScope sStanding) .none kV_d21 dc_d21 pm_d21 an_d21 cd_d21 ct_d21), sl_d21⟩)
    (c_d21 : PySem.W.codeIn K cd_d21 "_law_standing" = true)
    (k_d21 : PySem.W.keepIn K (.ref f_d21) = true)
    (a_d22 : PySem.W.nsIn K mainGlobals "_law_right" = some (some (.ref f_d22)))
    (l_d22 : K.lookup f_d22 = some ⟨oc_d22, od_d22, .func (PySem.W.fnOf "_law_right" "_law_right" (defArgs sRight) (defBody sRight) (defScope sRight) .none kV_d22 dc_d22 pm_d22 an_d22 cd_d22 ct_d22), sl_d22⟩)
    (c_d22 : PySem.W.codeIn K cd_d22 "_law_right" = true)
    (k_d22 : PySem.W.keepIn K (.ref f_d22) = true)
    (a_d23 : PySem.W.nsIn K mainGlobals "_law_lines" = some (some (.ref f_d23)))
    (l_d23 : K.lookup f_d23 = some ⟨oc_d23, od_d23, .func (PySem.W.fnOf "_law_lines" "_law_lines" (defArgs sLines) (defBody sLines) (defScope sLines) .none kV_d23 dc_d23 pm_d23 an_d23 cd_d23 ct_d23), sl_d23⟩)
    (c_d23 : PySem.W.codeIn K cd_d23 "_law_lines" = true)
    (k_d23 : PySem.W.keepIn K (.ref f_d23) = true)
    (a_d24 : PySem.W.nsIn K mainGlobals "law" = some (some (.ref f_d24)))
    (l_d24 : K.lookup f_d24 = some ⟨oc_d24, od_d24, .func (PySem.W.fnOf "law" "law" (defArgs sLaw) (defBody sLaw) (defScope sLaw) .none kV_d24 dc_d24 pm_d24 an_d24 cd_d24 ct_d24), sl_d24⟩)
    (c_d24 : PySem.W.codeIn K cd_d24 "law" = true)
    (k_d24 : PySem.W.keepIn K (.ref f_d24) = true)
    (a_i0 : PySem.W.findCls K (.ref CC) (.type "type") "__init__" = some (.val (.ref f_i0)))
    (l_i0 : K.lookup f_i0 = some ⟨oc_i0, od_i0, .func (PySem.W.fnOf "__init__" "Cond.__init__" (defArgs sCInit) (defBody sCInit) (defScope sCInit) .none kV_i0 dc_i0 pm_i0 an_i0 cd_i0 ct_i0), sl_i0⟩)
    (c_i0 : PySem.W.codeIn K cd_i0 "Cond.__init__" = true)
    (k_i0 : PySem.W.keepIn K (.ref f_i0) = true)
    (q_i0 : PySem.W.isFn K (.ref f_i0) = true)
    (a_t0 : PySem.W.findIn K (.ref CC) "truth" = some (some (.ref f_t0)))
    (l_t0 : K.lookup f_t0 = some ⟨oc_t0, od_t0, .func (PySem.W.fnOf "truth" "Cond.truth" (defArgs sCTruth) (defBody sCTruth) (defScope sCTruth) .none kV_t0 dc_t0 pm_t0 an_t0 cd_t0 ct_t0), sl_t0⟩)
    (c_t0 : PySem.W.codeIn K cd_t0 "Cond.truth" = true)
    (k_t0 : PySem.W.keepIn K (.ref f_t0) = true)
    (q_t0 : PySem.W.isFn K (.ref f_t0) = true)
    (a_h0 : PySem.W.findIn K (.ref CC) "holds" = some (some (.ref f_h0)))
    (l_h0 : K.lookup f_h0 = some ⟨oc_h0, od_h0, .func (PySem.W.fnOf "holds" "Cond.holds" (defArgs sCHolds) (defBody sCHolds) (defScope sCHolds) .none kV_h0 dc_h0 pm_h0 an_h0 cd_h0 ct_h0), sl_h0⟩)
    (c_h0 : PySem.W.codeIn K cd_h0 "Cond.holds" = true)
    (k_h0 : PySem.W.keepIn K (.ref f_h0) = true)
    (q_h0 : PySem.W.isFn K (.ref f_h0) = true)
    (a_i1 : PySem.W.findIn K (.ref Tt) "__init__" = some (some (.ref f_i1)))
    (l_i1 : K.lookup f_i1 = some ⟨oc_i1, od_i1, .func (PySem.W.fnOf "__init__" "Truth.__init__" (defArgs sTInit) (defBody sTInit) (defScope sTInit) .none kV_i1 dc_i1 pm_i1 an_i1 cd_i1 ct_i1), sl_i1⟩)
    (c_i1 : PySem.W.codeIn K cd_i1 "Truth.__init__" = true)
    (k_i1 : PySem.W.keepIn K (.ref f_i1) = true)
    (q_i1 : PySem.W.isFn K (.ref f_i1) = true)
    (a_w1 : PySem.W.findIn K (.ref Tt) "worked" = some (some (.ref f_w1)))
    (l_w1 : K.lookup f_w1 = some ⟨oc_w1, od_w1, .func (PySem.W.fnOf "worked" "Truth.worked" (defArgs sTWork) (defBody sTWork) (defScope sTWork) .none kV_w1 dc_w1 pm_w1 an_w1 cd_w1 ct_w1), sl_w1⟩)
    (c_w1 : PySem.W.codeIn K cd_w1 "Truth.worked" = true)
    (k_w1 : PySem.W.keepIn K (.ref f_w1) = true)
    (q_w1 : PySem.W.isFn K (.ref f_w1) = true)
    (a_i2 : PySem.W.findIn K (.ref Ts) "__init__" = some (some (.ref f_i2)))
    (l_i2 : K.lookup f_i2 = some ⟨oc_i2, od_i2, .func (PySem.W.fnOf "__init__" "Same.__init__" (defArgs sSInit) (defBody sSInit) (defScope sSInit) .none kV_i2 dc_i2 pm_i2 an_i2 cd_i2 ct_i2), sl_i2⟩)
    (c_i2 : PySem.W.codeIn K cd_i2 "Same.__init__" = true)
    (k_i2 : PySem.W.keepIn K (.ref f_i2) = true)
    (q_i2 : PySem.W.isFn K (.ref f_i2) = true)
    (a_w2 : PySem.W.findIn K (.ref Ts) "worked" = some (some (.ref f_w2)))
    (l_w2 : K.lookup f_w2 = some ⟨oc_w2, od_w2, .func (PySem.W.fnOf "worked" "Same.worked" (defArgs sSWork) (defBody sSWork) (defScope sSWork) .none kV_w2 dc_w2 pm_w2 an_w2 cd_w2 ct_w2), sl_w2⟩)
    (c_w2 : PySem.W.codeIn K cd_w2 "Same.worked" = true)
    (k_w2 : PySem.W.keepIn K (.ref f_w2) = true)
    (q_w2 : PySem.W.isFn K (.ref f_w2) = true)
    (a_i3 : PySem.W.findIn K (.ref Ta) "__init__" = some (some (.ref f_i3)))
    (l_i3 : K.lookup f_i3 = some ⟨oc_i3, od_i3, .func (PySem.W.fnOf "__init__" "AllOf.__init__" (defArgs sAInit) (defBody sAInit) (defScope sAInit) .none kV_i3 dc_i3 pm_i3 an_i3 cd_i3 ct_i3), sl_i3⟩)
    (c_i3 : PySem.W.codeIn K cd_i3 "AllOf.__init__" = true)
    (k_i3 : PySem.W.keepIn K (.ref f_i3) = true)
    (q_i3 : PySem.W.isFn K (.ref f_i3) = true)
    (a_w3 : PySem.W.findIn K (.ref Ta) "worked" = some (some (.ref f_w3)))
    (l_w3 : K.lookup f_w3 = some ⟨oc_w3, od_w3, .func (PySem.W.fnOf "worked" "AllOf.worked" (defArgs sAWork) (defBody sAWork) (defScope sAWork) .none kV_w3 dc_w3 pm_w3 an_w3 cd_w3 ct_w3), sl_w3⟩)
    (c_w3 : PySem.W.codeIn K cd_w3 "AllOf.worked" = true)
    (k_w3 : PySem.W.keepIn K (.ref f_w3) = true)
    (q_w3 : PySem.W.isFn K (.ref f_w3) = true)
    (a_i4 : PySem.W.findIn K (.ref To) "__init__" = some (some (.ref f_i4)))
    (l_i4 : K.lookup f_i4 = some ⟨oc_i4, od_i4, .func (PySem.W.fnOf "__init__" "OneOf.__init__" (defArgs sOInit) (defBody sOInit) (defScope sOInit) .none kV_i4 dc_i4 pm_i4 an_i4 cd_i4 ct_i4), sl_i4⟩)
    (c_i4 : PySem.W.codeIn K cd_i4 "OneOf.__init__" = true)
    (k_i4 : PySem.W.keepIn K (.ref f_i4) = true)
    (q_i4 : PySem.W.isFn K (.ref f_i4) = true)
    (a_w4 : PySem.W.findIn K (.ref To) "worked" = some (some (.ref f_w4)))
    (l_w4 : K.lookup f_w4 = some ⟨oc_w4, od_w4, .func (PySem.W.fnOf "worked" "OneOf.worked" (defArgs sOWork) (defBody sOWork) (defScope sOWork) .none kV_w4 dc_w4 pm_w4 an_w4 cd_w4 ct_w4), sl_w4⟩)
    (c_w4 : PySem.W.codeIn K cd_w4 "OneOf.worked" = true)
    (k_w4 : PySem.W.keepIn K (.ref f_w4) = true)
    (q_w4 : PySem.W.isFn K (.ref f_w4) = true)
    (a_i5 : PySem.W.findIn K (.ref Tp) "__init__" = some (some (.ref f_i5)))
    (l_i5 : K.lookup f_i5 = some ⟨oc_i5, od_i5, .func (PySem.W.fnOf "__init__" "Opposite.__init__" (defArgs sPInit) (defBody sPInit) (defScope sPInit) .none kV_i5 dc_i5 pm_i5 an_i5 cd_i5 ct_i5), sl_i5⟩)
    (c_i5 : PySem.W.codeIn K cd_i5 "Opposite.__init__" = true)
    (k_i5 : PySem.W.keepIn K (.ref f_i5) = true)
    (q_i5 : PySem.W.isFn K (.ref f_i5) = true)
    (a_w5 : PySem.W.findIn K (.ref Tp) "worked" = some (some (.ref f_w5)))
    (l_w5 : K.lookup f_w5 = some ⟨oc_w5, od_w5, .func (PySem.W.fnOf "worked" "Opposite.worked" (defArgs sPWork) (defBody sPWork) (defScope sPWork) .none kV_w5 dc_w5 pm_w5 an_w5 cd_w5 ct_w5), sl_w5⟩)
    (c_w5 : PySem.W.codeIn K cd_w5 "Opposite.worked" = true)
    (k_w5 : PySem.W.keepIn K (.ref f_w5) = true)
    (q_w5 : PySem.W.isFn K (.ref f_w5) = true)
    (a_i6 : PySem.W.findIn K (.ref BC) "__init__" = some (some (.ref f_i6)))
    (l_i6 : K.lookup f_i6 = some ⟨oc_i6, od_i6, .func (PySem.W.fnOf "__init__" "Table.__init__" (defArgs sBInit) (defBody sBInit) (defScope sBInit) (.ref DT) kV_i6 dc_i6 pm_i6 an_i6 cd_i6 ct_i6), sl_i6⟩)
    (l_DT : K.lookup DT = some ⟨cDT, oDT, .seq #[.none] nDT, sDT⟩)
    (c_i6 : PySem.W.codeIn K cd_i6 "Table.__init__" = true)
    (k_i6 : PySem.W.keepIn K (.ref f_i6) = true)
    (q_i6 : PySem.W.isFn K (.ref f_i6) = true)
    (a_c6 : PySem.W.findIn K (.ref BC) "columns" = some (some (.ref f_c6)))
    (l_c6 : K.lookup f_c6 = some ⟨oc_c6, od_c6, .func (PySem.W.fnOf "columns" "Table.columns" (defArgs sBCols) (defBody sBCols) (defScope sBCols) .none kV_c6 dc_c6 pm_c6 an_c6 cd_c6 ct_c6), sl_c6⟩)
    (c_c6 : PySem.W.codeIn K cd_c6 "Table.columns" = true)
    (k_c6 : PySem.W.keepIn K (.ref f_c6) = true)
    (q_c6 : PySem.W.isFn K (.ref f_c6) = true)
    (a_r6 : PySem.W.findIn K (.ref BC) "rows" = some (some (.ref f_r6)))
    (l_r6 : K.lookup f_r6 = some ⟨oc_r6, od_r6, .func (PySem.W.fnOf "rows" "Table.rows" (defArgs sBRows) (defBody sBRows) (defScope sBRows) .none kV_r6 dc_r6 pm_r6 an_r6 cd_r6 ct_r6), sl_r6⟩)
    (c_r6 : PySem.W.codeIn K cd_r6 "Table.rows" = true)
    (k_r6 : PySem.W.keepIn K (.ref f_r6) = true)
    (q_r6 : PySem.W.isFn K (.ref f_r6) = true)
    (a_h6 : PySem.W.findIn K (.ref BC) "whole" = some (some (.ref f_h6)))
    (l_h6 : K.lookup f_h6 = some ⟨oc_h6, od_h6, .func (PySem.W.fnOf "whole" "Table.whole" (defArgs sBWhole) (defBody sBWhole) (defScope sBWhole) .none kV_h6 dc_h6 pm_h6 an_h6 cd_h6 ct_h6), sl_h6⟩)
    (c_h6 : PySem.W.codeIn K cd_h6 "Table.whole" = true)
    (k_h6 : PySem.W.keepIn K (.ref f_h6) = true)
    (q_h6 : PySem.W.isFn K (.ref f_h6) = true)
    (a_g6 : PySem.W.findIn K (.ref BC) "gaps" = some (some (.ref f_g6)))
    (l_g6 : K.lookup f_g6 = some ⟨oc_g6, od_g6, .func (PySem.W.fnOf "gaps" "Table.gaps" (defArgs sBGaps) (defBody sBGaps) (defScope sBGaps) .none kV_g6 dc_g6 pm_g6 an_g6 cd_g6 ct_g6), sl_g6⟩)
    (c_g6 : PySem.W.codeIn K cd_g6 "Table.gaps" = true)
    (k_g6 : PySem.W.keepIn K (.ref f_g6) = true)
    (q_g6 : PySem.W.isFn K (.ref f_g6) = true)
    (a_s6 : PySem.W.findIn K (.ref BC) "standing" = some (some (.ref f_s6)))
    (l_s6 : K.lookup f_s6 = some ⟨oc_s6, od_s6, .func (PySem.W.fnOf "standing" "Table.standing" (defArgs sBStand) (defBody sBStand) (defScope sBStand) .none kV_s6 dc_s6 pm_s6 an_s6 cd_s6 ct_s6), sl_s6⟩)
    (c_s6 : PySem.W.codeIn K cd_s6 "Table.standing" = true)
    (k_s6 : PySem.W.keepIn K (.ref f_s6) = true)
    (q_s6 : PySem.W.isFn K (.ref f_s6) = true)
    (ga : PySem.W.specialIn K (.ref CC) "__getattribute__" = some (some (.builtin "type.__getattribute__")))
    (rd : PySem.W.readsIn K CC (.type "type") = true)
    (gt : PySem.W.specialIn K (.builtin "object.__class__") "__get__" = some (some (.builtin "getset_descriptor.__get__")))
    (tk : PySem.W.takesIn K (.builtin "object.__class__") = some true)
    (x_Tt : CF K Tt f_t0 f_h0)
    (x_Ts : CF K Ts f_t0 f_h0)
    (x_Ta : CF K Ta f_t0 f_h0)
    (x_To : CF K To f_t0 f_h0)
    (x_Tp : CF K Tp f_t0 f_h0)
    (e1 : PySem.W.findIn K (.ref Tt) "said" = some none)
    (e2 : PySem.W.findIn K (.ref Ts) "one" = some none)
    (e3 : PySem.W.findIn K (.ref Ts) "other" = some none)
    (e4 : PySem.W.findIn K (.ref Ta) "parts" = some none)
    (e5 : PySem.W.findIn K (.ref To) "parts" = some none)
    (e6 : PySem.W.findIn K (.ref Tp) "part" = some none)
    (e7 : PySem.W.findIn K (.ref BC) "kept_columns" = some none)
    (e8 : PySem.W.findIn K (.ref BC) "kept_rows" = some none)
    (e9 : PySem.W.findIn K (.ref BC) "kept_whole" = some none)
    (e10 : PySem.W.findIn K (.ref BC) "kept_gaps" = some none)
    (e11 : PySem.W.findIn K (.ref BC) "kept_values" = some none)
    (kc_Tt : PySem.W.kitOne K (.ref Tt) (.ref CC) = some true)
    (kc_Ts : PySem.W.kitOne K (.ref Ts) (.ref CC) = some true)
    (kc_Ta : PySem.W.kitOne K (.ref Ta) (.ref CC) = some true)
    (kc_To : PySem.W.kitOne K (.ref To) (.ref CC) = some true)
    (kc_Tp : PySem.W.kitOne K (.ref Tp) (.ref CC) = some true)
    (nb : Tt ≠ BC)
    (y1 : PySem.W.plainGet K BC Str.empty = true)
    (y2 : PySem.W.hasDictIn K BC = true)
    (y3 : PySem.W.plainOver K BC = true)
    (y4 : PySem.W.findIn K (.ref BC) "__setattr__" = some (some (.builtin "object.__setattr__")))
    (y5 : PySem.W.makesIn K BC = true)
    (y6 : PySem.W.keepIn K (.ref BC) = true)
    (z0 : PySem.W.nsIn K mainGlobals "range" = some none)
    (z1 : PySem.W.nsIn K mainGlobals "len" = some none)
    (z2 : PySem.W.nsIn K mainGlobals "sorted" = some none)
    (z3 : PySem.W.nsIn K mainGlobals "list" = some none)
    (z4 : PySem.W.nsIn K mainGlobals "dict" = some none)
    (z5 : PySem.W.nsIn K mainGlobals "isinstance" = some none)
    (z6 : PySem.W.nsIn K mainGlobals "bool" = some none)
    (z7 : PySem.W.nsIn K mainGlobals "str" = some none)
    (z8 : PySem.W.nsIn K mainGlobals "set" = some none)
    (z9 : PySem.W.nsIn K mainGlobals "tuple" = some none)
    (z10 : PySem.W.nsIn K mainGlobals "sum" = some none)
    (z11 : PySem.W.nsIn K mainGlobals "max" = some none)
    (z12 : PySem.W.nsIn K mainGlobals "enumerate" = some none) :
    ∃ fd : FuncData, (∀ (s : Shared) (v : Value), BindsTo s fd ⟨[v], []⟩ [("_law_script", v)]) ∧ ∀ base : Heap, K.In base → base.Ns mainGlobals mg → FnOk l.prog w K mg base CX0 49 fa fd ["_law_script"] (spLaw K) := by
  have e := hfa.symm.trans (PySem.W.mg_of X G a_d24)
  cases e
  have TX : Txt mg := ⟨PySem.W.mg_none_of X G z0, PySem.W.mg_none_of X G z1, PySem.W.mg_none_of X G z2, PySem.W.mg_none_of X G z3, PySem.W.mg_none_of X G z4, PySem.W.mg_none_of X G z5, PySem.W.mg_none_of X G z6, PySem.W.mg_none_of X G z7, PySem.W.mg_none_of X G z8, PySem.W.mg_none_of X G z9, PySem.W.mg_none_of X G z10, PySem.W.mg_none_of X G z11, PySem.W.mg_none_of X G z12⟩
  have F_d0 := fun_mk (st := sCellV) l_d0 c_d0 k_d0
  have b_d0 := F_d0.binds (ps := ["cell", "filling"]) fun _ _ _ _ _ _ us hl => match us, hl with | [_, _], _ => rfl
  have F_d1 := fun_mk (st := sGapsA) l_d1 c_d1 k_d1
  have b_d1 := F_d1.binds (ps := ["cells"]) fun _ _ _ _ _ _ us hl => match us, hl with | [_], _ => rfl
  have F_d2 := fun_mk (st := sValsA) l_d2 c_d2 k_d2
  have b_d2 := F_d2.binds (ps := ["cells"]) fun _ _ _ _ _ _ us hl => match us, hl with | [_], _ => rfl
  have F_d3 := fun_mk (st := sCellsW) l_d3 c_d3 k_d3
  have b_d3 := F_d3.binds (ps := ["parts"]) fun _ _ _ _ _ _ us hl => match us, hl with | [_], _ => rfl
  have F_d4 := fun_mk (st := sCheck) l_d4 c_d4 k_d4
  have b_d4 := F_d4.binds (ps := ["gaps", "filling"]) fun _ _ _ _ _ _ us hl => match us, hl with | [_, _], _ => rfl
  have F_d5 := fun_mk (st := sCheckC) l_d5 c_d5 k_d5
  have b_d5 := F_d5.binds (ps := ["columns"]) fun _ _ _ _ _ _ us hl => match us, hl with | [_], _ => rfl
  have F_d6 := fun_mk (st := sCheckR) l_d6 c_d6 k_d6
  have b_d6 := F_d6.binds (ps := ["rows", "width"]) fun _ _ _ _ _ _ us hl => match us, hl with | [_, _], _ => rfl
  have F_d7 := fun_mk (st := sSeed) l_d7 c_d7 k_d7
  have b_d7 := F_d7.binds (ps := ["_law_script", "_law_k"]) fun _ _ _ _ _ _ us hl => match us, hl with | [_, _], _ => rfl
  have F_d8 := fun_mk (st := sDraw) l_d8 c_d8 k_d8
  have b_d8 := F_d8.binds (ps := ["_law_state", "_law_many"]) fun _ _ _ _ _ _ us hl => match us, hl with | [_, _], _ => rfl
  have F_d9 := fun_mk (st := sWord) l_d9 c_d9 k_d9
  have b_d9 := F_d9.binds (ps := ["_law_state", "_law_others"]) fun _ _ _ _ _ _ us hl => match us, hl with | [_, _], _ => rfl
  have F_d10 := fun_mk (st := sWords) l_d10 c_d10 k_d10
  have b_d10 := F_d10.binds (ps := ["_law_state", "_law_many"]) fun _ _ _ _ _ _ us hl => match us, hl with | [_, _], _ => rfl
  have F_d11 := fun_mk (st := sValues) l_d11 c_d11 k_d11
  have b_d11 := F_d11.binds (ps := ["_law_cell_here"]) fun _ _ _ _ _ _ us hl => match us, hl with | [_], _ => rfl
  have F_d12 := fun_mk (st := sCell) l_d12 c_d12 k_d12
  have b_d12 := F_d12.binds (ps := ["_law_state", "_law_gaps", "_law_values_here"]) fun _ _ _ _ _ _ us hl => match us, hl with | [_, _, _], _ => rfl
  have F_d13 := fun_mk (st := sCondL) l_d13 c_d13 k_d13
  have b_d13 := F_d13.binds (ps := ["_law_state", "_law_gaps", "_law_values_here", "_law_deep"]) fun _ _ _ _ _ _ us hl => match us, hl with | [_, _, _, _], _ => rfl
  have F_d14 := fun_mk (st := sMade) l_d14 c_d14 k_d14
  have b_d14 := F_d14.binds (ps := ["_law_cond_here"]) fun _ _ _ _ _ _ us hl => match us, hl with | [_], _ => rfl
  have F_d15 := fun_mk (st := sAt) l_d15 c_d15 k_d15
  have b_d15 := F_d15.binds (ps := ["_law_cell_here", "_law_filling"]) fun _ _ _ _ _ _ us hl => match us, hl with | [_, _], _ => rfl
  have F_d16 := fun_mk (st := sHolds) l_d16 c_d16 k_d16
  have b_d16 := F_d16.binds (ps := ["_law_cond_here", "_law_filling"]) fun _ _ _ _ _ _ us hl => match us, hl with | [_, _], _ => rfl
  have F_d17 := fun_mk (st := sCells) l_d17 c_d17 k_d17
  have b_d17 := F_d17.binds (ps := ["_law_cond_here"]) fun _ _ _ _ _ _ us hl => match us, hl with | [_], _ => rfl
  have F_d18 := fun_mk (st := sDrawn) l_d18 c_d18 k_d18
  have b_d18 := F_d18.binds (ps := ["_law_script"]) fun _ _ _ _ _ _ us hl => match us, hl with | [_], _ => rfl
  have F_d19 := fun_mk (st := sFillings) l_d19 c_d19 k_d19
  have b_d19 := F_d19.binds (ps := ["_law_script", "_law_gaps"]) fun _ _ _ _ _ _ us hl => match us, hl with | [_, _], _ => rfl
  have F_d20 := fun_mk (st := sAlike) l_d20 c_d20 k_d20
  have b_d20 := F_d20.binds (ps := ["_law_told", "_law_cond_here", "_law_fillings_here"]) fun _ _ _ _ _ _ us hl => match us, hl with | [_, _, _], _ => rfl
  have F_d21 := fun_mk (st := sStanding) l_d21 c_d21 k_d21
  have b_d21 := F_d21.binds (ps := ["_law_rows", "_law_whole"]) fun _ _ _ _ _ _ us hl => match us, hl with | [_, _], _ => rfl
  have F_d22 := fun_mk (st := sRight) l_d22 c_d22 k_d22
  have b_d22 := F_d22.binds (ps := ["_law_table", "_law_columns", "_law_rows", "_law_whole", "_law_fillings_here"]) fun _ _ _ _ _ _ us hl => match us, hl with | [_, _, _, _, _], _ => rfl
  have F_d23 := fun_mk (st := sLines) l_d23 c_d23 k_d23
  have b_d23 := F_d23.binds (ps := ["_law_rows"]) fun _ _ _ _ _ _ us hl => match us, hl with | [_], _ => rfl
  have F_d24 := fun_mk (st := sLaw) l_d24 c_d24 k_d24
  have b_d24 := F_d24.binds (ps := ["_law_script"]) fun _ _ _ _ _ _ us hl => match us, hl with | [_], _ => rfl
  have F_i0 := fun_mk (st := sCInit) l_i0 c_i0 k_i0
  have b_i0 := F_i0.binds (ps := ["self", "cells", "atoms"]) fun _ _ _ _ _ _ us hl => match us, hl with | [_, _, _], _ => rfl
  have F_t0 := fun_mk (st := sCTruth) l_t0 c_t0 k_t0
  have b_t0 := F_t0.binds (ps := ["self", "filling"]) fun _ _ _ _ _ _ us hl => match us, hl with | [_, _], _ => rfl
  have F_h0 := fun_mk (st := sCHolds) l_h0 c_h0 k_h0
  have b_h0 := F_h0.binds (ps := ["self", "filling"]) fun _ _ _ _ _ _ us hl => match us, hl with | [_, _], _ => rfl
  have F_i1 := fun_mk (st := sTInit) l_i1 c_i1 k_i1
  have b_i1 := F_i1.binds (ps := ["self", "said"]) fun _ _ _ _ _ _ us hl => match us, hl with | [_, _], _ => rfl
  have F_w1 := fun_mk (st := sTWork) l_w1 c_w1 k_w1
  have b_w1 := F_w1.binds (ps := ["self", "filling"]) fun _ _ _ _ _ _ us hl => match us, hl with | [_, _], _ => rfl
  have F_i2 := fun_mk (st := sSInit) l_i2 c_i2 k_i2
  have b_i2 := F_i2.binds (ps := ["self", "one", "other"]) fun _ _ _ _ _ _ us hl => match us, hl with | [_, _, _], _ => rfl
  have F_w2 := fun_mk (st := sSWork) l_w2 c_w2 k_w2
  have b_w2 := F_w2.binds (ps := ["self", "filling"]) fun _ _ _ _ _ _ us hl => match us, hl with | [_, _], _ => rfl
  have F_i3 := fun_mk (st := sAInit) l_i3 c_i3 k_i3
  have b_i3 := F_i3.binds (ps := ["self", "parts"]) fun _ _ _ _ _ _ us hl => match us, hl with | [_, _], _ => rfl
  have F_w3 := fun_mk (st := sAWork) l_w3 c_w3 k_w3
  have b_w3 := F_w3.binds (ps := ["self", "filling"]) fun _ _ _ _ _ _ us hl => match us, hl with | [_, _], _ => rfl
  have F_i4 := fun_mk (st := sOInit) l_i4 c_i4 k_i4
  have b_i4 := F_i4.binds (ps := ["self", "parts"]) fun _ _ _ _ _ _ us hl => match us, hl with | [_, _], _ => rfl
  have F_w4 := fun_mk (st := sOWork) l_w4 c_w4 k_w4
  have b_w4 := F_w4.binds (ps := ["self", "filling"]) fun _ _ _ _ _ _ us hl => match us, hl with | [_, _], _ => rfl
  have F_i5 := fun_mk (st := sPInit) l_i5 c_i5 k_i5
  have b_i5 := F_i5.binds (ps := ["self", "part"]) fun _ _ _ _ _ _ us hl => match us, hl with | [_, _], _ => rfl
  have F_w5 := fun_mk (st := sPWork) l_w5 c_w5 k_w5
  have b_w5 := F_w5.binds (ps := ["self", "filling"]) fun _ _ _ _ _ _ us hl => match us, hl with | [_, _], _ => rfl
  have F_i6 : FunD K "__init__" "Table.__init__" sBInit f_i6 _ := ⟨⟨_, _, _, _, _, _, _, _, _, _, rfl, l_i6, c_i6⟩, k_i6⟩
  have b_i6 : Binds K (PySem.W.fnOf "__init__" "Table.__init__" (defArgs sBInit) (defBody sBInit) (defScope sBInit) (.ref DT) kV_i6 dc_i6 pm_i6 an_i6 cd_i6 ct_i6) ["self", "columns", "rows", "whole"] [] := fun s us hK hl => match us, hl with | [_, _, _, _], _ => .of_defaults rfl (hK _ _ l_DT) rfl rfl rfl
  have b0_i6 : Binds K (PySem.W.fnOf "__init__" "Table.__init__" (defArgs sBInit) (defBody sBInit) (defScope sBInit) (.ref DT) kV_i6 dc_i6 pm_i6 an_i6 cd_i6 ct_i6) ["self", "columns", "rows", "whole"] [.none] := fun s us hK hl => match us, (show us.length = 3 by simpa using hl) with | [_, _, _], _ => .of_defaults rfl (hK _ _ l_DT) rfl rfl rfl
  have F_c6 := fun_mk (st := sBCols) l_c6 c_c6 k_c6
  have b_c6 := F_c6.binds (ps := ["self"]) fun _ _ _ _ _ _ us hl => match us, hl with | [_], _ => rfl
  have F_r6 := fun_mk (st := sBRows) l_r6 c_r6 k_r6
  have b_r6 := F_r6.binds (ps := ["self"]) fun _ _ _ _ _ _ us hl => match us, hl with | [_], _ => rfl
  have F_h6 := fun_mk (st := sBWhole) l_h6 c_h6 k_h6
  have b_h6 := F_h6.binds (ps := ["self"]) fun _ _ _ _ _ _ us hl => match us, hl with | [_], _ => rfl
  have F_g6 := fun_mk (st := sBGaps) l_g6 c_g6 k_g6
  have b_g6 := F_g6.binds (ps := ["self"]) fun _ _ _ _ _ _ us hl => match us, hl with | [_], _ => rfl
  have F_s6 := fun_mk (st := sBStand) l_s6 c_s6 k_s6
  have b_s6 := F_s6.binds (ps := ["self"]) fun _ _ _ _ _ _ us hl => match us, hl with | [_], _ => rfl
  refine ⟨PySem.W.fnOf "law" "law" (defArgs sLaw) (defBody sLaw) (defScope sLaw) .none kV_d24 dc_d24 pm_d24 an_d24 cd_d24 ct_d24, fun s v => .of_eq rfl, fun base BX BG => ?_⟩
  let T : Cl := ⟨Tt, Ts, Ta, To, Tp⟩
  have Z : Tc K mg T CC := {
    z := { cl := per x_Tt.c x_Ts.c x_Ta.c x_To.c x_Tp.c
           ng := per (P := fun C => NoAttr K C "kept_gaps") x_Tt.ng x_Ts.ng x_Ta.ng x_To.ng x_Tp.ng
           nv := per (P := fun C => NoAttr K C "kept_values") x_Tt.nv x_Ts.nv x_Ta.nv x_To.nv x_Tp.nv
           na := per (P := fun C => NoAttr K C "kept_atoms") x_Tt.na x_Ts.na x_Ta.na x_To.na x_Tp.na
           ns := per (P := fun C => NoAttr K C "settled") x_Tt.ns x_Ts.ns x_Ta.ns x_To.ns x_Tp.ns
           nsd := e1, no1 := e2, no2 := e3, npa := e4, npo := e5, npp := e6 }
    x := TX
    dj := dj
    hH := per (P := fun C => MethFn K C "holds" "Cond.holds" sCHolds ["self", "filling"]) ⟨_, _, ⟨x_Tt.mh, q_h0, k_h0⟩, F_h0, b_h0⟩ ⟨_, _, ⟨x_Ts.mh, q_h0, k_h0⟩, F_h0, b_h0⟩ ⟨_, _, ⟨x_Ta.mh, q_h0, k_h0⟩, F_h0, b_h0⟩ ⟨_, _, ⟨x_To.mh, q_h0, k_h0⟩, F_h0, b_h0⟩ ⟨_, _, ⟨x_Tp.mh, q_h0, k_h0⟩, F_h0, b_h0⟩
    hT := per (P := fun C => MethFn K C "truth" "Cond.truth" sCTruth ["self", "filling"]) ⟨_, _, ⟨x_Tt.mt, q_t0, k_t0⟩, F_t0, b_t0⟩ ⟨_, _, ⟨x_Ts.mt, q_t0, k_t0⟩, F_t0, b_t0⟩ ⟨_, _, ⟨x_Ta.mt, q_t0, k_t0⟩, F_t0, b_t0⟩ ⟨_, _, ⟨x_To.mt, q_t0, k_t0⟩, F_t0, b_t0⟩ ⟨_, _, ⟨x_Tp.mt, q_t0, k_t0⟩, F_t0, b_t0⟩
    wT := ⟨_, _, ⟨a_w1, q_w1, k_w1⟩, F_w1, b_w1⟩
    wS := ⟨_, _, ⟨a_w2, q_w2, k_w2⟩, F_w2, b_w2⟩
    wA := ⟨_, _, ⟨a_w3, q_w3, k_w3⟩, F_w3, b_w3⟩
    wO := ⟨_, _, ⟨a_w4, q_w4, k_w4⟩, F_w4, b_w4⟩
    wP := ⟨_, _, ⟨a_w5, q_w5, k_w5⟩, F_w5, b_w5⟩ }
  have Y : Isa K T CC := {
    isc := per (P := fun C => PySem.W.kitOne K (.ref C) (.ref CC) = some true) kc_Tt kc_Ts kc_Ta kc_To kc_Tp
    cls := per (P := fun C => PySem.W.findIn K (.ref C) "__class__" = some (some (.builtin "object.__class__"))) x_Tt.cls x_Ts.cls x_Ta.cls x_To.cls x_Tp.cls
    get := gt
    tks := tk
    mro := per (P := fun C => PySem.W.mroIn K C (.type "object") = some true) x_Tt.mro x_Ts.mro x_Ta.mro x_To.mro x_Tp.mro }
  have ZB : Bz K T BC := ⟨⟨y1, y2, y3, y4⟩, e7, e8, e9, e10, e11, nb⟩
  have mC := PySem.W.mg_of X G n_CC
  have D0 : Cal l.prog w K mg base "cell_value" 1 ["cell", "filling"] spCellV := ⟨_, _, ok_cellv F_d0 TX, b_d0, k_d0, PySem.W.mg_of X G a_d0⟩
  have D1 : Cal l.prog w K mg base "gaps_among" 1 ["cells"] (spGapsA K) := ⟨_, _, ok_gapsa F_d1 TX, b_d1, k_d1, PySem.W.mg_of X G a_d1⟩
  have D2 : Cal l.prog w K mg base "values_among" 1 ["cells"] (spValsA K) := ⟨_, _, ok_valsa F_d2 TX, b_d2, k_d2, PySem.W.mg_of X G a_d2⟩
  have D3 : Cal l.prog w K mg base "cells_within" 1 ["parts"] (spCellsW T K) := ⟨_, _, ok_cellsw F_d3 Z.z, b_d3, k_d3, PySem.W.mg_of X G a_d3⟩
  have FH := fam_H (P := l.prog) (w := w) (base := base) Z D0 19
  have FW := fam_W Z D0 FH
  have DC : Cal l.prog w K mg base "check_filling" 1 ["gaps", "filling"] (spCheck K) := ⟨_, _, ok_check F_d4, b_d4, k_d4, PySem.W.mg_of X G a_d4⟩
  have D4 : Cal l.prog w K mg base "check_columns" 1 ["columns"] spCheckC := ⟨_, _, ok_checkc F_d5, b_d5, k_d5, PySem.W.mg_of X G a_d5⟩
  have D5 : Cal l.prog w K mg base "check_rows" 1 ["rows", "width"] spCheckR := ⟨_, _, ok_checkr F_d6 TX, b_d6, k_d6, PySem.W.mg_of X G a_d6⟩
  have FT := fam_T Z DC FH
  have CB : CBase l.prog w K mg base T CC 19 := ⟨_, _, .type "type", ⟨ga, rd, a_i0, k_i0⟩, ok_cinit F_i0 Z D1 D2 FW, b_i0, mC⟩
  have M1 : MkC l.prog w K mg base "Truth" T.t 42 ["self", "said"] (spTI T) := ⟨_, _, ⟨x_Tt.mks, a_i1, q_i1, x_Tt.kp⟩, ok_tinit (n := 19) F_i1 Z CB, b_i1, PySem.W.mg_of X G n_Tt⟩
  have M2 : MkC l.prog w K mg base "Same" T.s 42 ["self", "one", "other"] (spSI T) := ⟨_, _, ⟨x_Ts.mks, a_i2, q_i2, x_Ts.kp⟩, ok_sinit (n := 19) F_i2 Z CB, b_i2, PySem.W.mg_of X G n_Ts⟩
  have M3 : MkC l.prog w K mg base "Opposite" T.p 42 ["self", "part"] (spPI T 19) := ⟨_, _, ⟨x_Tp.mks, a_i5, q_i5, x_Tp.kp⟩, ok_pinit (n := 19) F_i5 Z CB D3, b_i5, PySem.W.mg_of X G n_Tp⟩
  have M4 : MkC l.prog w K mg base "AllOf" T.a 42 ["self", "parts"] (spLI T K 19 T.a .all) := ⟨_, _, ⟨x_Ta.mks, a_i3, q_i3, x_Ta.kp⟩, ok_ainit (n := 19) F_i3 Z CB D3, b_i3, PySem.W.mg_of X G n_Ta⟩
  have M5 : MkC l.prog w K mg base "OneOf" T.o 42 ["self", "parts"] (spLI T K 19 T.o .one) := ⟨_, _, ⟨x_To.mks, a_i4, q_i4, x_To.kp⟩, ok_oinit (n := 19) F_i4 Z CB D3, b_i4, PySem.W.mg_of X G n_To⟩
  have OB := ok_binit F_i6 TX ZB D1 D2 D3 D4 D5 M1
  have MB : MkC l.prog w K mg base "Table" BC 44 ["self", "columns", "rows", "whole"] (spBI T BC) := ⟨_, _, ⟨y5, a_i6, q_i6, y6⟩, OB, b_i6, PySem.W.mg_of X G n_BC⟩
  have FC : Fam l.prog w K mg base CX0 1 (fun C => C = BC) "columns" ["self"] (fun _ => spBCols T BC) := by
    intro C hC
    subst hC
    exact ⟨_, _, ZB.cl, ⟨a_c6, q_c6, k_c6⟩, ok_bcols F_c6 TX ZB, b_c6⟩
  have FR : Fam l.prog w K mg base CX0 1 (fun C => C = BC) "rows" ["self"] (fun _ => spBRows T BC) := by
    intro C hC
    subst hC
    exact ⟨_, _, ZB.cl, ⟨a_r6, q_r6, k_r6⟩, ok_brows F_r6 TX ZB, b_r6⟩
  have FWh : Fam l.prog w K mg base CX0 1 (fun C => C = BC) "whole" ["self"] (fun _ => spBWhole T BC) := by
    intro C hC
    subst hC
    exact ⟨_, _, ZB.cl, ⟨a_h6, q_h6, k_h6⟩, ok_bwhole F_h6 ZB, b_h6⟩
  have FG : Fam l.prog w K mg base CX0 1 (fun C => C = BC) "gaps" ["self"] (fun _ => spBGaps T BC) := by
    intro C hC
    subst hC
    exact ⟨_, _, ZB.cl, ⟨a_g6, q_g6, k_g6⟩, ok_bgaps F_g6 TX ZB, b_g6⟩
  have FS : Fam l.prog w K mg base CX0 1 (fun C => C = BC) "standing" ["self"] (fun _ => spBStand T BC) := by
    intro C hC
    subst hC
    exact ⟨_, _, ZB.cl, ⟨a_s6, q_s6, k_s6⟩, ok_bstand F_s6 TX ZB, b_s6⟩
  have L0 : Cal l.prog w K mg base "_law_seed" 1 ["_law_script", "_law_k"] (spSeed K) := ⟨_, _, ok_seed F_d7 TX, b_d7, k_d7, PySem.W.mg_of X G a_d7⟩
  have L1 : Cal l.prog w K mg base "_law_draw" 1 ["_law_state", "_law_many"] spDraw := ⟨_, _, ok_draw F_d8, b_d8, k_d8, PySem.W.mg_of X G a_d8⟩
  have L2 : Cal l.prog w K mg base "_law_word" 2 ["_law_state", "_law_others"] spWord := ⟨_, _, ok_word F_d9 TX L1, b_d9, k_d9, PySem.W.mg_of X G a_d9⟩
  have L3 : Cal l.prog w K mg base "_law_words" 3 ["_law_state", "_law_many"] spWords := ⟨_, _, ok_words F_d10 TX L2, b_d10, k_d10, PySem.W.mg_of X G a_d10⟩
  have L4 : Cal l.prog w K mg base "_law_values" 1 ["_law_cell_here"] spValues := ⟨_, _, ok_values F_d11, b_d11, k_d11, PySem.W.mg_of X G a_d11⟩
  have L5 : Cal l.prog w K mg base "_law_cell" 2 ["_law_state", "_law_gaps", "_law_values_here"] spCell := ⟨_, _, ok_cell F_d12 TX L1, b_d12, k_d12, PySem.W.mg_of X G a_d12⟩
  have L6 : Cal l.prog w K mg base "_law_cond" 6 ["_law_state", "_law_gaps", "_law_values_here", "_law_deep"] (spCond 2) := ⟨_, _, ok_cond F_d13 b_d13 k_d13 (PySem.W.mg_of X G a_d13) TX L1 L5 3, b_d13, k_d13, PySem.W.mg_of X G a_d13⟩
  have L7 : Cal l.prog w K mg base "_law_made" 47 ["_law_cond_here"] (spMade T 3) := ⟨_, _, ok_made F_d14 b_d14 k_d14 (PySem.W.mg_of X G a_d14) M1 M2 M3 M4 M5 3, b_d14, k_d14, PySem.W.mg_of X G a_d14⟩
  have L8 : Cal l.prog w K mg base "_law_at" 1 ["_law_cell_here", "_law_filling"] spCellV := ⟨_, _, ok_at F_d15 TX, b_d15, k_d15, PySem.W.mg_of X G a_d15⟩
  have L9 : Cal l.prog w K mg base "_law_holds" 21 ["_law_cond_here", "_law_filling"] (spLHolds 19) := ⟨_, _, ok_lholds F_d16 b_d16 k_d16 (PySem.W.mg_of X G a_d16) L8 19, b_d16, k_d16, PySem.W.mg_of X G a_d16⟩
  have LA : Cal l.prog w K mg base "_law_cells" 5 ["_law_cond_here"] (spLCells 4) := ⟨_, _, ok_lcells F_d17 b_d17 k_d17 (PySem.W.mg_of X G a_d17) 4, b_d17, k_d17, PySem.W.mg_of X G a_d17⟩
  have LB : Cal l.prog w K mg base "_law_drawn" 7 ["_law_script"] (spDrawn K) := ⟨_, _, ok_drawn F_d18 L1 L0 L4 L5 L6 L3, b_d18, k_d18, PySem.W.mg_of X G a_d18⟩
  have LC : Cal l.prog w K mg base "_law_fillings" 2 ["_law_script", "_law_gaps"] (spFillings K) := ⟨_, _, ok_fillings F_d19 TX L1 L0 L4, b_d19, k_d19, PySem.W.mg_of X G a_d19⟩
  have LD : Cal l.prog w K mg base "_law_alike" 41 ["_law_told", "_law_cond_here", "_law_fillings_here"] (spAlike T) := ⟨_, _, ok_alike F_d20 Z Y mC FT L9, b_d20, k_d20, PySem.W.mg_of X G a_d20⟩
  have LE : Cal l.prog w K mg base "_law_standing" 6 ["_law_rows", "_law_whole"] spStanding := ⟨_, _, ok_standing F_d21 LA, b_d21, k_d21, PySem.W.mg_of X G a_d21⟩
  have LF : Cal l.prog w K mg base "_law_right" 42 ["_law_table", "_law_columns", "_law_rows", "_law_whole", "_law_fillings_here"] (spRight T BC) := ⟨_, _, ok_right F_d22 TX FC FR FWh FG FS LD LE, b_d22, k_d22, PySem.W.mg_of X G a_d22⟩
  have LG : Cal l.prog w K mg base "_law_lines" 48 ["_law_rows"] (spLines T) := ⟨_, _, ok_lines F_d23 TX L7, b_d23, k_d23, PySem.W.mg_of X G a_d23⟩
  exact ok_law F_d24 TX FC FR FWh LF M1 MB ⟨_, _, ⟨y5, a_i6, q_i6, y6⟩, OB, b0_i6, PySem.W.mg_of X G n_BC⟩ LB LC LG L7
theorem walk {l : PySem.W.OpenLaw} {q : Program} {loose : List Str} {XP : (Str → Option Value) → Heap → Prop} {YP : World → Heap → Prop} {d : DefRec} {K : Params → PySem.W.Frag} (hn : l.most = some 63) (hdf : d.params.defaults = [])
    (hY : ∀ (w : World) (h : Heap), YP w h → (K w.params).In h)
    (F : ∀ (w : World) (mg : Str → Option Value) (fa : Addr) (h : Heap), (K w.params).In h → h.Ns mainGlobals mg → mg d.name = some (.ref fa) →
      ∃ fd : FuncData, (∀ (s : Shared) (u : Value), BindsTo s fd ⟨[u], []⟩ [("_law_script", u)]) ∧ ∀ base : Heap, (K w.params).In base → base.Ns mainGlobals mg → FnOk l.prog w (K w.params) mg base CX0 49 fa fd ["_law_script"] (spLaw (K w.params))) :
    PySem.W.WalkO q loose XP YP l.row.toRowW d [] (fun f vs => PySem.call f vs) :=
  L2.walk_of (n := 63) (k := 49) (x := "_law_script") (CX := fun _ => CX0) (sp := fun w => spLaw (K w.params)) hn (by decide) hdf ⟨rfl, by decide, by decide⟩ hY F (fun _ _ a ns hl _ hS => ⟨a, ns, rfl, hS, hl, fun _ => rfl⟩) fun _ _ _ _ _ z => z
end K31
namespace HD
open PySem PySem.W PyProof.Rows
abbrev pr : Program := PySem.Challenge.rw_maybetables_k31_tables_told_back.row.toRowW.prog
def vw : Program := { pr with main := { pr.main with body := pr.main.body.drop 41 } }
def lo : List Str := "_wall" :: "__name__" :: "MaybeError" :: "NoFilling" :: "Twice" :: "Short" :: "cell_value" :: "gaps_among" :: "values_among" :: "cells_within" :: "check_filling" :: "Cond" :: "Truth" :: "Same" :: "AllOf" :: "OneOf" :: "Opposite" :: "check_columns" :: "check_rows" :: "cells_put" :: "Table" :: "_law_seed" :: "_law_draw" :: "_law_word" :: "_law_words" :: "_law_values" :: "_law_cell" :: "_law_cond" :: "_law_made" :: "_law_at" :: "_law_holds" :: "_law_cells" :: "_law_drawn" :: "_law_fillings" :: "_law_alike" :: "_law_standing" :: "_law_right" :: "_law_lines" :: []
end HD
open PySem PySem.W PyProof.Rows
local macro_rules
  | `(tactic| o_head $H) => `(tactic|
      refine holds_open (q := HD.vw) (loose := HD.lo) (Xt := fun s => xlAt HD.vw [] s && recOk (RowW.records (PySem.Challenge.rw_maybetables_k31_tables_told_back.row.toRowW)) s)
        (XP := XL HD.vw []) (Yf := Hook.obs $H) (Ya := Hook.val $H) (YP := Hook.says $H) (N := 20000)
        ?$(Lean.mkIdent `hl) (Hook.of $H) (Hook.keeps $H) (fun s e => xl_of s (Bool.and_eq_true_iff.mp e).1) XL.keeps (by rfl) (by rfl) (by rfl)
        (fun s e => recFacts_of (Bool.and_eq_true_iff.mp e).2) (by rfl) (by first | assumption | decide +kernel) (by decide +kernel)
        ⟨rfl, rfl, rfl, rfl, rfl, by decide +kernel⟩ ?$(Lean.mkIdent `hw) ?$(Lean.mkIdent `hc))
set_option maxRecDepth 100000 in
set_option maxHeartbeats 0 in
theorem PySem.Challenge.cw_maybetables_k31_tables_told_back_holds : PySem.Challenge.rw_maybetables_k31_tables_told_back.Holds := by
  w_on; o_law; k_head
  (case hw => w_witness2)
  (case hl => exact HD.left_quick (boot_open (by kernel_rfl) (by decide +kernel) (fun s => by kernel_rfl)) (fun w os => by kernel_rfl))
  k_fill
  refine K31.walk (l := PySem.Challenge.rw_maybetables_k31_tables_told_back) rfl rfl (fun w h Y => PySem.W.kIn_of Y) ?F
  case F =>
    intro w mg fa h KX G hmg
    refine' K31.all_mk KX G hmg ?n_CC ?n_Tt ?n_Ts ?n_Ta ?n_To ?n_Tp ?n_BC ?dj ?a_d0 ?l_d0 ?c_d0 ?k_d0 ?a_d1 ?l_d1 ?c_d1 ?k_d1 ?a_d2 ?l_d2 ?c_d2 ?k_d2 ?a_d3 ?l_d3 ?c_d3 ?k_d3 ?a_d4 ?l_d4 ?c_d4 ?k_d4 ?a_d5 ?l_d5 ?c_d5 ?k_d5 ?a_d6 ?l_d6 ?c_d6 ?k_d6 ?a_d7 ?l_d7 ?c_d7 ?k_d7 ?a_d8 ?l_d8 ?c_d8 ?k_d8 ?a_d9 ?l_d9 ?c_d9 ?k_d9 ?a_d10 ?l_d10 ?c_d10 ?k_d10 ?a_d11 ?l_d11 ?c_d11 ?k_d11 ?a_d12 ?l_d12 ?c_d12 ?k_d12 ?a_d13 ?l_d13 ?c_d13 ?k_d13 ?a_d14 ?l_d14 ?c_d14 ?k_d14 ?a_d15 ?l_d15 ?c_d15 ?k_d15 ?a_d16 ?l_d16 ?c_d16 ?k_d16 ?a_d17 ?l_d17 ?c_d17 ?k_d17 ?a_d18 ?l_d18 ?c_d18 ?k_d18 ?a_d19 ?l_d19 ?c_d19 ?k_d19 ?a_d20 ?l_d20 ?c_d20 ?k_d20 ?a_d21 ?l_d21 ?c_d21 ?k_d21 ?a_d22 ?l_d22 ?c_d22 ?k_d22 ?a_d23 ?l_d23 ?c_d23 ?k_d23 ?a_d24 ?l_d24 ?c_d24 ?k_d24 ?a_i0 ?l_i0 ?c_i0 ?k_i0 ?q_i0 ?a_t0 ?l_t0 ?c_t0 ?k_t0 ?q_t0 ?a_h0 ?l_h0 ?c_h0 ?k_h0 ?q_h0 ?a_i1 ?l_i1 ?c_i1 ?k_i1 ?q_i1 ?a_w1 ?l_w1 ?c_w1 ?k_w1 ?q_w1 ?a_i2 ?l_i2 ?c_i2 ?k_i2 ?q_i2 ?a_w2 ?l_w2 ?c_w2 ?k_w2 ?q_w2 ?a_i3 ?l_i3 ?c_i3 ?k_i3 ?q_i3 ?a_w3 ?l_w3 ?c_w3 ?k_w3 ?q_w3 ?a_i4 ?l_i4 ?c_i4 ?k_i4 ?q_i4 ?a_w4 ?l_w4 ?c_w4 ?k_w4 ?q_w4 ?a_i5 ?l_i5 ?c_i5 ?k_i5 ?q_i5 ?a_w5 ?l_w5 ?c_w5 ?k_w5 ?q_w5 ?a_i6 ?l_i6 ?l_DT ?c_i6 ?k_i6 ?q_i6 ?a_c6 ?l_c6 ?c_c6 ?k_c6 ?q_c6 ?a_r6 ?l_r6 ?c_r6 ?k_r6 ?q_r6 ?a_h6 ?l_h6 ?c_h6 ?k_h6 ?q_h6 ?a_g6 ?l_g6 ?c_g6 ?k_g6 ?q_g6 ?a_s6 ?l_s6 ?c_s6 ?k_s6 ?q_s6 ?ga ?rd ?gt ?tk ?x_Tt ?x_Ts ?x_Ta ?x_To ?x_Tp ?e1 ?e2 ?e3 ?e4 ?e5 ?e6 ?e7 ?e8 ?e9 ?e10 ?e11 ?kc_Tt ?kc_Ts ?kc_Ta ?kc_To ?kc_Tp ?nb ?y1 ?y2 ?y3 ?y4 ?y5 ?y6 ?z0 ?z1 ?z2 ?z3 ?z4 ?z5 ?z6 ?z7 ?z8 ?z9 ?z10 ?z11 ?z12
    (case n_CC => k_is)
    (case n_Tt => k_is)
    (case n_Ts => k_is)
    (case n_Ta => k_is)
    (case n_To => k_is)
    (case n_Tp => k_is)
    (case n_BC => k_is)
    (case dj => decide)
    (case a_d0 => k_is)
    (case l_d0 => k_is)
    (case c_d0 => k_is)
    (case k_d0 => k_is)
    (case a_d1 => k_is)
    (case l_d1 => k_is)
    (case c_d1 => k_is)
    (case k_d1 => k_is)
    (case a_d2 => k_is)
    (case l_d2 => k_is)
    (case c_d2 => k_is)
    (case k_d2 => k_is)
    (case a_d3 => k_is)
    (case l_d3 => k_is)
    (case c_d3 => k_is)
    (case k_d3 => k_is)
    (case a_d4 => k_is)
    (case l_d4 => k_is)
    (case c_d4 => k_is)
    (case k_d4 => k_is)
    (case a_d5 => k_is)
    (case l_d5 => k_is)
    (case c_d5 => k_is)
    (case k_d5 => k_is)
    (case a_d6 => k_is)
    (case l_d6 => k_is)
    (case c_d6 => k_is)
    (case k_d6 => k_is)
    (case a_d7 => k_is)
    (case l_d7 => k_is)
    (case c_d7 => k_is)
    (case k_d7 => k_is)
    (case a_d8 => k_is)
    (case l_d8 => k_is)
    (case c_d8 => k_is)
    (case k_d8 => k_is)
    (case a_d9 => k_is)
    (case l_d9 => k_is)
    (case c_d9 => k_is)
    (case k_d9 => k_is)
    (case a_d10 => k_is)
    (case l_d10 => k_is)
    (case c_d10 => k_is)
    (case k_d10 => k_is)
    (case a_d11 => k_is)
    (case l_d11 => k_is)
    (case c_d11 => k_is)
    (case k_d11 => k_is)
    (case a_d12 => k_is)
    (case l_d12 => k_is)
    (case c_d12 => k_is)
    (case k_d12 => k_is)
    (case a_d13 => k_is)
    (case l_d13 => k_is)
    (case c_d13 => k_is)
    (case k_d13 => k_is)
    (case a_d14 => k_is)
    (case l_d14 => k_is)
    (case c_d14 => k_is)
    (case k_d14 => k_is)
    (case a_d15 => k_is)
    (case l_d15 => k_is)
    (case c_d15 => k_is)
    (case k_d15 => k_is)
    (case a_d16 => k_is)
    (case l_d16 => k_is)
    (case c_d16 => k_is)
    (case k_d16 => k_is)
    (case a_d17 => k_is)
    (case l_d17 => k_is)
    (case c_d17 => k_is)
    (case k_d17 => k_is)
    (case a_d18 => k_is)
    (case l_d18 => k_is)
    (case c_d18 => k_is)
    (case k_d18 => k_is)
    (case a_d19 => k_is)
    (case l_d19 => k_is)
    (case c_d19 => k_is)
    (case k_d19 => k_is)
    (case a_d20 => k_is)
    (case l_d20 => k_is)
    (case c_d20 => k_is)
    (case k_d20 => k_is)
    (case a_d21 => k_is)
    (case l_d21 => k_is)
    (case c_d21 => k_is)
    (case k_d21 => k_is)
    (case a_d22 => k_is)
    (case l_d22 => k_is)
    (case c_d22 => k_is)
    (case k_d22 => k_is)
    (case a_d23 => k_is)
    (case l_d23 => k_is)
    (case c_d23 => k_is)
    (case k_d23 => k_is)
    (case a_d24 => k_is)
    (case l_d24 => k_is)
    (case c_d24 => k_is)
    (case k_d24 => k_is)
    (case a_i0 => k_is)
    (case l_i0 => k_is)
    (case c_i0 => k_is)
    (case k_i0 => k_is)
    (case q_i0 => k_is)
    (case a_t0 => k_is)
    (case l_t0 => k_is)
    (case c_t0 => k_is)
    (case k_t0 => k_is)
    (case q_t0 => k_is)
    (case a_h0 => k_is)
    (case l_h0 => k_is)
    (case c_h0 => k_is)
    (case k_h0 => k_is)
    (case q_h0 => k_is)
    (case a_i1 => k_is)
    (case l_i1 => k_is)
    (case c_i1 => k_is)
    (case k_i1 => k_is)
    (case q_i1 => k_is)
    (case a_w1 => k_is)
    (case l_w1 => k_is)
    (case c_w1 => k_is)
    (case k_w1 => k_is)
    (case q_w1 => k_is)
    (case a_i2 => k_is)
    (case l_i2 => k_is)
    (case c_i2 => k_is)
    (case k_i2 => k_is)
    (case q_i2 => k_is)
    (case a_w2 => k_is)
    (case l_w2 => k_is)
    (case c_w2 => k_is)
    (case k_w2 => k_is)
    (case q_w2 => k_is)
    (case a_i3 => k_is)
    (case l_i3 => k_is)
    (case c_i3 => k_is)
    (case k_i3 => k_is)
    (case q_i3 => k_is)
    (case a_w3 => k_is)
    (case l_w3 => k_is)
    (case c_w3 => k_is)
    (case k_w3 => k_is)
    (case q_w3 => k_is)
    (case a_i4 => k_is)
    (case l_i4 => k_is)
    (case c_i4 => k_is)
    (case k_i4 => k_is)
    (case q_i4 => k_is)
    (case a_w4 => k_is)
    (case l_w4 => k_is)
    (case c_w4 => k_is)
    (case k_w4 => k_is)
    (case q_w4 => k_is)
    (case a_i5 => k_is)
    (case l_i5 => k_is)
    (case c_i5 => k_is)
    (case k_i5 => k_is)
    (case q_i5 => k_is)
    (case a_w5 => k_is)
    (case l_w5 => k_is)
    (case c_w5 => k_is)
    (case k_w5 => k_is)
    (case q_w5 => k_is)
    (case a_i6 => k_is)
    (case l_i6 => k_is)
    (case l_DT => k_is)
    (case c_i6 => k_is)
    (case k_i6 => k_is)
    (case q_i6 => k_is)
    (case a_c6 => k_is)
    (case l_c6 => k_is)
    (case c_c6 => k_is)
    (case k_c6 => k_is)
    (case q_c6 => k_is)
    (case a_r6 => k_is)
    (case l_r6 => k_is)
    (case c_r6 => k_is)
    (case k_r6 => k_is)
    (case q_r6 => k_is)
    (case a_h6 => k_is)
    (case l_h6 => k_is)
    (case c_h6 => k_is)
    (case k_h6 => k_is)
    (case q_h6 => k_is)
    (case a_g6 => k_is)
    (case l_g6 => k_is)
    (case c_g6 => k_is)
    (case k_g6 => k_is)
    (case q_g6 => k_is)
    (case a_s6 => k_is)
    (case l_s6 => k_is)
    (case c_s6 => k_is)
    (case k_s6 => k_is)
    (case q_s6 => k_is)
    (case ga => k_is)
    (case rd => k_is)
    (case gt => k_is)
    (case tk => k_is)
    (case x_Tt => exact ⟨by k_is, by k_is, by k_is, by k_is, by k_is, by k_is, by k_is, by k_is, by k_is, by k_is, by k_is, by k_is, by k_is, by k_is⟩)
    (case x_Ts => exact ⟨by k_is, by k_is, by k_is, by k_is, by k_is, by k_is, by k_is, by k_is, by k_is, by k_is, by k_is, by k_is, by k_is, by k_is⟩)
    (case x_Ta => exact ⟨by k_is, by k_is, by k_is, by k_is, by k_is, by k_is, by k_is, by k_is, by k_is, by k_is, by k_is, by k_is, by k_is, by k_is⟩)
    (case x_To => exact ⟨by k_is, by k_is, by k_is, by k_is, by k_is, by k_is, by k_is, by k_is, by k_is, by k_is, by k_is, by k_is, by k_is, by k_is⟩)
    (case x_Tp => exact ⟨by k_is, by k_is, by k_is, by k_is, by k_is, by k_is, by k_is, by k_is, by k_is, by k_is, by k_is, by k_is, by k_is, by k_is⟩)
    (case e1 => k_is)
    (case e2 => k_is)
    (case e3 => k_is)
    (case e4 => k_is)
    (case e5 => k_is)
    (case e6 => k_is)
    (case e7 => k_is)
    (case e8 => k_is)
    (case e9 => k_is)
    (case e10 => k_is)
    (case e11 => k_is)
    (case kc_Tt => kit_is)
    (case kc_Ts => kit_is)
    (case kc_Ta => kit_is)
    (case kc_To => kit_is)
    (case kc_Tp => kit_is)
    (case nb => decide)
    (case y1 => k_is)
    (case y2 => k_is)
    (case y3 => k_is)
    (case y4 => k_is)
    (case y5 => k_is)
    (case y6 => k_is)
    (case z0 => k_is)
    (case z1 => k_is)
    (case z2 => k_is)
    (case z3 => k_is)
    (case z4 => k_is)
    (case z5 => k_is)
    (case z6 => k_is)
    (case z7 => k_is)
    (case z8 => k_is)
    (case z9 => k_is)
    (case z10 => k_is)
    (case z11 => k_is)
    (case z12 => k_is)
