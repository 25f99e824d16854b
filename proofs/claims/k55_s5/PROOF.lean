import PyProof.Rows.All
import Wide.All
import OpenK.KLine
import OpenK.KQuick
import OpenK.ZHead
import OpenK.XHead
import OpenK.KWalk
import OpenK.KMake
import OpenK.Peek
import OpenK.KMore
import KE.KItem
import KE.KNestM
import KE.KIsAll
import KE.RegKIsAll
import KE.RegLGe
import KE.RegLGeC
import KE.RegKSuper
import KE.RegKIsNot
import KE.RegKMod
import KE.KEqText
import Wide.FinOn
import Lean
import PyProof.EqAt
import PyProof.EqKinds
import PyProof.NeKinds
import PyProof.TupleCall
import PyProof.SetKind
import PyProof.Rows.SetFrom
import KE.KDictSum
import PyProof.Rows.SortStr
import OpenK.KCls
import PyProof.MeetsDictList
import PyProof.Rows.CallKwBuiltin
import PyProof.MinMaxWalk
import PyProof.Commute
import OpenK.KRaise
import OpenK.KOwn
import PyProof.NsDelKeeps
import PyProof.ExcArgs
import PyProof.InstStoreFacts
import PyProof.ExcClass2
import PyProof.DictWalks
import KE.KDictList
import PyProof.LayNew
import PyProof.Rows.ZipGen
import PyProof.Rows.FactsT2
import KE.KListMore
import PyProof.DictDisplay
import KE.KDictLaws
import PyProof.ConsumeWalk
import PyProof.ZipIter
import PyProof.Rows.StrJoin2
import KE.KxText
import PyProof.StrWalks
import PyProof.EnumIter
import PyProof.Draws
import PyProof.EnumFor
import PyProof.EnumMake
import PyProof.EnumStmt
import PyProof.Rows.StrMeet
import PySem.Challenge.RW_maybetables_k55_pairs_refused
set_option Elab.async false
set_option linter.all false
set_option maxRecDepth 100000
namespace HD
open PySem PySem.W PyProof.Rows
noncomputable def yc6 (tb:String->Option Builtin) (p:Program) (w:World) (n₀:Nat) (ann:Option Value):Nat->SharedT->Thread->Option SharedT
  | 0,_,_=>none
  | n + 1,s,t=>match through t with
    | true=>some s
    | false=>match stepOk n₀ ann t with
      | false=>none
      | true=>match stepT (denote tb) p w s t with
        | some r=>yc6 tb p w n₀ ann n r.1 r.2
        | none=>none
theorem yg1 {tb:String->Option Builtin} {p:Program} {w:World} {n₀:Nat} {ann:Option Value}:∀ {n:Nat} {s s':SharedT} {t:Thread},yc6 tb p w n₀ ann n s t = some s'->topRun tb p w n₀ ann n s.abs t = some s'.abs
  | 0,_,_,_,h=>by cases h
  | n + 1,s,s',t,h=>by
    unfold yc6 at h
    unfold topRun
    cases hth:through t with
    | true=>rw [hth] at h; cases h; rfl
    | false=>
      rw [hth] at h
      cases hb:stepOk n₀ ann t with
      | false=>rw [hb] at h; cases h
      | true=>
        rw [hb] at h
        cases hst:stepT (denote tb) p w s t with
        | none=>rw [hst] at h; cases h
        | some r=>
          obtain ⟨sB,tB⟩:=r
          rw [hst] at h
          rw [stepT_spec hst]
          exact yg1 h
def grow:List Obj->BT->Nat->Option BT
  | [],t,_=>some t
  | o :: r,t,n=>match ((t.ins n o).get n).isSome with
    | true=>grow r (t.ins n o) (n + 1)
    | false=>none
theorem yo4 {life:Life}:∀ {l:List Obj} {t t':BT} {n:Nat},grow l t n = some t'->absHeap t' (n + l.length) life = ⟨(absHeap t n life).objs ++ l.toArray,life⟩
  | [],t,t',n,h=>by
    cases h
    show absHeap t n life = _
    simp [absHeap]
  | o :: r,t,t',n,h=>by
    unfold grow at h
    cases e:((t.ins n o).get n).isSome with
    | false=>rw [e] at h; cases h
    | true=>
      rw [e] at h
      have ih:=yo4 (life:=life) h
      rw [absHeap_ins e] at ih
      rw [List.length_cons,show n + (r.length + 1) = n + 1 + r.length by omega,ih]
      show Heap.mk (((absHeap t n life).push o).objs ++ r.toArray) life = _
      show Heap.mk (((absHeap t n life).objs.push o) ++ r.toArray) life = _
      congr 1
      apply Array.toList_inj.mp
      simp
theorem xg2 {h:Heap} {t:BT} (e:grow h.objs.toList .nil 0 = some t):absHeap t h.objs.size h.life = h:=by
  have:=yo4 (life:=h.life) e
  rw [Nat.zero_add,Array.length_toList] at this
  rw [this]
  cases h
  simp [absHeap,BT.list]
noncomputable def xp6 (p q:Program) (loose:List Str) (Xt:Shared->Bool) (as:List Addr) (s₀ s:Shared):=
  ((staticsOk (importedModules p.main.body) s₀.heap s.heap && namesBound p s.heap && gensDone s && laidKept s₀.heap s.heap),openSeen q loose (importedModules p.main.body) Xt true s,as.map s.heap.get?)
noncomputable def bigT (p q:Program) (loose:List Str) (Xt:Shared->Bool) (as:List Addr) (N:Nat) (H₀:Params->Heap) (w:World) (os:OsState):=
  (grow (H₀ w.params).objs.toList .nil 0).bind λt=>
    (yc6 treeTable p w (H₀ w.params).objs.size ((H₀ w.params).nsMap mainGlobals "__annotations__") N ⟨t,(H₀ w.params).objs.size,(H₀ w.params).life,Array.mk [],boot_drawn,boot_toks,os⟩ (topStub p)).map λs=>
      ((H₀ w.params).isNs mainGlobals,xp6 p q loose Xt as ⟨H₀ w.params,Array.mk [],boot_drawn,boot_toks,os⟩ s.abs)
theorem xf5 {p q:Program} {loose:List Str} {Xt:Shared->Bool} {K:Params->Frag} {as:List Addr} {N:Nat}
    (o:∀ w:World,(fencedOpening treeTable p w N).map (λs=>(s.heap,s.gens,s.drawn,s.toks)) = some (boot_heap w.params,Array.mk [],boot_drawn,boot_toks))
    (h:∀ (w:World) (os:OsState),bigT p q loose Xt as N boot_heap w os = some (true,true,openGood q loose,(K w.params).map λp=>some p.2)):LeftO p q loose Xt (λs=>as.map s.heap.get?) (λw=>(K w.params).map λp=>some p.2) N:=λw=>by
  obtain ⟨⟨hh,gs,d,k,os⟩,e,e'⟩:=Option.map_eq_some_iff.mp (o w)
  obtain ⟨rfl,rfl,rfl,rfl⟩:hh = boot_heap w.params/\gs = Array.mk []/\d = boot_drawn/\k = boot_toks:=by simpa using e'
  obtain ⟨t,h1,h2⟩:=Option.bind_eq_some_iff.mp (h w os)
  obtain ⟨s,h3,h4⟩:=Option.map_eq_some_iff.mp h2
  have ha:=xg2 h1
  have h5:=yg1 h3
  have e0:(SharedT.mk t (boot_heap w.params).objs.size (boot_heap w.params).life #[] boot_drawn boot_toks os).abs = ⟨boot_heap w.params,Array.mk [],boot_drawn,boot_toks,os⟩:=by
    unfold SharedT.abs
    rw [ha]
  rw [e0] at h5
  obtain ⟨i1,i2⟩:=Prod.mk.inj h4
  unfold xp6 at i2
  obtain ⟨i3,i4⟩:=Prod.mk.inj i2
  obtain ⟨i5,i6⟩:=Prod.mk.inj i4
  have z:((boot_heap w.params).isNs mainGlobals && (Array.mk []:Array GenState).size == 0) = true:=by rw [i1]; rfl
  have t':topFrom treeTable p w N ⟨boot_heap w.params,Array.mk [],boot_drawn,boot_toks,os⟩ = some s.abs:=by
    unfold topFrom
    dsimp only
    rw [z,h5]
    show (match staticsOk (importedModules p.main.body) (boot_heap w.params) s.abs.heap && namesBound p s.abs.heap && gensDone s.abs && laidKept (boot_heap w.params) s.abs.heap with | true=>some s.abs | false=>none) = some s.abs
    rw [i3]
  unfold openEnds
  rw [e]
  show (topFrom treeTable p w N _).map _ = _
  rw [t']
  exact congrArg some (Prod.ext i5 i6)
noncomputable def goodT (q:Program) (loose:List Str):=openGood q loose
end HD
lay_quick HD.bigT
lay_quick HD.goodT
namespace HD
open PySem PySem.W PyProof.Rows
theorem left_quick {p q:Program} {loose:List Str} {Xt:Shared->Bool} {K:Params->Frag} {as:List Addr} {N:Nat}
    (o:∀ w:World,(fencedOpening treeTable p w N).map (λs=>(s.heap,s.gens,s.drawn,s.toks)) = some (boot_heap w.params,Array.mk [],boot_drawn,boot_toks))
    (h:∀ (w:World) (os:OsState),W.Fast.tw7652524407582654731 p q loose Xt as N boot_heap w os = some (true,true,W.Fast.tw17311637784456860124 q loose,(K w.params).map λp=>some p.2)):LeftO p q loose Xt (λs=>as.map s.heap.get?) (λw=>(K w.params).map λp=>some p.2) N:=
  xf5 o λw os=>by
    rw [W.Fast.te7652524407582654731]
    refine (h w os).trans ?_
    rw [<- W.Fast.te17311637784456860124]
    rfl
end HD
namespace L2
open PySem PySem.Spec PyProof.Rows
abbrev Key:=Sum Int Str
def yl1:Key->Value->Bool
  | .inl k,v=>Value.isInt k v
  | .inr x,v=>Value.isStrOf x v
def keyH (w:World):Key->Int
  | .inl k=>hashInt k
  | .inr x=>hashStr w x
theorem zd4:∀ {k:Key} {v:Value},yl1 k v = true->(∃ i t,k = Sum.inl i/\v = Value.int i t)\/(∃ x t,k = Sum.inr x/\v = Value.str x t)
  | .inl i,v,h=>by
    obtain ⟨t,e⟩:=Value.isInt_shape (k:=i) (v:=v) h
    exact .inl ⟨i,t,rfl,e⟩
  | .inr x,v,h=>by
    obtain ⟨t,e⟩:=Value.isStrOf_shape (x:=x) (v:=v) h
    exact .inr ⟨x,t,rfl,e⟩
theorem yi1 (i:Int) (t:Tok):yl1 (.inl i) (.int i t) = true:=by simp [yl1,Value.isInt]
theorem yi0 (x:Str) (t:Tok):yl1 (.inr x) (.str x t) = true:=by simp [yl1,Value.isStrOf]
theorem xs0 (a b:Int):decide ((Sum.inl a:Key) = Sum.inl b) = (a == b):=by
  by_cases e:a = b
  · subst e; simp
  · have h:¬ (Sum.inl a:Key) = Sum.inl b:=λq=>e (Sum.inl.inj q)
    rw [decide_eq_false h]
    exact (beq_eq_false_iff_ne.mpr e).symm
theorem xr7 (a b:Str):decide ((Sum.inr a:Key) = Sum.inr b) = decide (a = b):=by
  by_cases e:a = b
  · subst e; simp
  · have h:¬ (Sum.inr a:Key) = Sum.inr b:=λq=>e (Sum.inr.inj q)
    rw [decide_eq_false h,decide_eq_false e]
theorem xr9 (a:Int) (b:Str):decide ((Sum.inl a:Key) = Sum.inr b) = false:=decide_eq_false (λq=>nomatch q)
theorem xr8 (a:Str) (b:Int):decide ((Sum.inr a:Key) = Sum.inl b) = false:=decide_eq_false (λq=>nomatch q)
def zd5 (prog:Program) (w:World):PySem.KeyKind prog w Key where
  is:=yl1
  hash:=keyH w
  inj:=λv a b ha hb=>by
    rcases zd4 ha with ⟨i,t,rfl,rfl⟩ | ⟨x,t,rfl,rfl⟩
    · rcases zd4 hb with ⟨j,u,rfl,e⟩ | ⟨y,u,rfl,e⟩
      · injection e with e1 _; rw [e1]
      · exact nomatch e
    · rcases zd4 hb with ⟨j,u,rfl,e⟩ | ⟨y,u,rfl,e⟩
      · exact nomatch e
      · injection e with e1 _; rw [e1]
  byValue:=λk v h=>by
    rcases zd4 h with ⟨i,t,rfl,rfl⟩ | ⟨x,t,rfl,rfl⟩ <;> rfl
  pyHash:=λhv h=>by
    rcases zd4 hv with ⟨i,t,rfl,rfl⟩ | ⟨x,t,rfl,rfl⟩
    · exact wpAny_pyHash_int h
    · exact wpAny_pyHash_str h
  eqBool:=λhu hv h=>by
    rcases zd4 hu with ⟨i,t,rfl,rfl⟩ | ⟨x,t,rfl,rfl⟩
    · rcases zd4 hv with ⟨j,u,rfl,rfl⟩ | ⟨y,u,rfl,rfl⟩
      · rw [xs0] at h; exact wpAny_eqBool_int h
      · rw [xr9] at h; exact SeqAt.EqAt.int_str i t y u _ _ _ _ h
    · rcases zd4 hv with ⟨j,u,rfl,rfl⟩ | ⟨y,u,rfl,rfl⟩
      · rw [xr8] at h; exact SeqAt.EqAt.str_int x t j u _ _ _ _ h
      · rw [xr7] at h; exact wpAny_eqBool_str h
  «strs»:=λk x t v h=>by
    rcases zd4 h with ⟨i,u,rfl,e⟩ | ⟨y,u,rfl,e⟩
    · exact nomatch e
    · injection e with e1 _
      subst e1
      cases v <;> rfl
theorem yb8 (prog:Program) (w:World) (k:Key) (v:Value):(zd5 prog w).is k v = yl1 k v:=rfl
theorem yk7 (prog:Program) (w:World) (i:Int) (t:Tok):(zd5 prog w).is (.inl i) (.int i t) = true:=yi1 i t
theorem yk6 (prog:Program) (w:World) (x:Str) (t:Tok):(zd5 prog w).is (.inr x) (.str x t) = true:=yi0 x t
inductive V where
  | non | bl (b:Bool) | int (i:Int) | str (x:Str) | byt (b:Array UInt8) | flt (b:UInt64) | ref (a:Addr) | ty (n:String)
  deriving DecidableEq
def RelV:V->Value->Prop
  | .non,u=>u = Value.none
  | .bl b,u=>u = Value.bool b
  | .int i,u=>∃ t,u = Value.int i t
  | .str x,u=>∃ t,u = Value.str x t
  | .byt b,u=>∃ t,u = Value.bytes b t
  | .flt b,u=>∃ t,u = Value.float b t
  | .ref a,u=>u = Value.ref a
  | .ty n,u=>u = Value.type n
abbrev Vals:List V->List Value->Prop:=Paired RelV
theorem Vals.length {xs:List V} {us:List Value} (r:Vals xs us):xs.length = us.length:=Paired.length r
theorem Vals.get:∀ {xs:List V} {us:List Value} {i:Nat} {x:V},Vals xs us->xs[i]? = some x->∃ u,us[i]? = some u/\RelV x u
  | _,_,_,_,.nil,e=>by simp at e
  | _,_,0,_,.cons r _,e=>by simp at e; subst e; exact ⟨_,rfl,r⟩
  | _,_,i + 1,x,.cons _ t,e=>by
    obtain ⟨u,h1,h2⟩:=Vals.get (i:=i) (x:=x) t (by simpa using e)
    exact ⟨u,by simpa using h1,h2⟩
theorem Vals.append:∀ {xs ys:List V} {us ws:List Value},Vals xs us->Vals ys ws->Vals (xs ++ ys) (us ++ ws)
  | _,_,_,_,.nil,s=>s
  | _,_,_,_,.cons r t,s=>.cons r (Vals.append t s)
theorem Vals.take:∀ {xs:List V} {us:List Value} (n:Nat),Vals xs us->Vals (xs.take n) (us.take n)
  | _,_,0,_=>.nil
  | _,_,_ + 1,.nil=>.nil
  | _,_,n + 1,.cons r t=>.cons r (Vals.take n t)
theorem Vals.drop:∀ {xs:List V} {us:List Value} (n:Nat),Vals xs us->Vals (xs.drop n) (us.drop n)
  | _,_,0,r=>r
  | _,_,_ + 1,.nil=>.nil
  | _,_,n + 1,.cons _ t=>Vals.drop n t
def RelO:Option V->Option Value->Prop
  | some v,some u=>RelV v u
  | none,none=>True
  | _,_=>False
def KV {κ:Type}:List (κ × V)->List (κ × Value)->Prop:=Paired λ(p:κ × V) (q:κ × Value)=>p.1 = q.1/\RelV p.2 q.2
def kV:Key->V
  | .inl i=>.int i
  | .inr x=>.str x
inductive HO where
    | lst (xs:List V)
    | tup (xs:List V)
    | dK (kvs:List (Key × V)) | dT (kvs:List (List Key × V))
    | set (S:Int->Bool) (n:Nat)
    | ins (C dx:Addr) (fs:List (Str × V))
    | own (x:Addr)
    | xd (fs:List (Str × V))
    | met (f x:Addr)
    | rng (lo hi:Int)
    | frz (o:Obj) (u:HO)
    | tbl (ps:Array Value)
    | ext (φ:Heap->Prop)
abbrev Hp:=Addr->Option HO
def upd (H:Hp) (a:Addr) (o:HO):Hp:=λb=>if b = a then some o else H b
theorem upd_same {H:Hp} {a:Addr} {o:HO}:upd H a o a = some o:=by unfold upd; rw [if_pos rfl]
theorem za7 {H:Hp} {a b:Addr} {o:HO} (h:b ≠ a):upd H a o b = H b:=by unfold upd; rw [if_neg h]
theorem ze5 {H:Hp} {a b:Addr} {o:HO} (h:H a = some o) (h':H b = none):a ≠ b:=by
  intro e; subst e; rw [h] at h'; cases h'
def TupN (h:Heap) (a:Addr) (items:Array Value):Prop:=∃ o,h.get? a = some o/\o.cls = .type "tuple"/\o.dict = none/\∃ n,o.data = .seq items n
theorem TupN.tup {h:Heap} {a:Addr} {items:Array Value} (x:TupN h a items):IsTup h a items:=by
  obtain ⟨o,e,c,_,n,d⟩:=x
  exact ⟨o,e,c,n,d⟩
theorem TupN.lt {h:Heap} {a:Addr} {items:Array Value} (x:TupN h a items):a < h.objs.size:=by
  obtain ⟨o,e,_⟩:=x
  exact Heap.lt_size e
theorem TupN.new (h:Heap) (items:Array Value):TupN (h.push { cls:=.type "tuple",data:=.seq items }) h.objs.size items:=⟨_,Heap.get?_push_size _ rfl,rfl,rfl,0,rfl⟩
section
variable (P:Program) (w:World)
def zd7 (H:Hp) (h:Heap) (a:Addr):HO->Prop
  | .lst xs=>xs.length<=sizeLine/\∃ (its:List Value) (n:Nat),Vals xs its/\h.get? a = some { cls:=.type "list",data:=.seq its.toArray n }
  | .tup xs=>xs.length<=sizeLine/\∃ its:List Value,Vals xs its/\TupN h a its.toArray
  | .dK kvs=>kvs.length<=sizeLine/\(a == sysModules) = false/\∃ vs,KV kvs vs/\h.DictOf (zd5 P w) a vs
  | .dT kvs=>kvs.length<=sizeLine/\(a == sysModules) = false/\∃ xs:List (List Key × Addr × Value),
      Paired (λ(p:List Key × V) (q:List Key × Addr × Value)=>p.1 = q.1/\H q.2.1 = some (.tup (p.1.map kV))/\RelV p.2 q.2.2) kvs xs /\
      ∃ o es ep,h.get? a = some o/\o.ExactDict/\o.data = .dict es ep/\es.toList = xs.map (entryOfKey (tupleKind (zd5 P w)))/\(xs.map (·.1)).Nodup
  | .set S n=>h.SetOf (intKind P w) a S n
  | .ins C dx fs=>H dx = some (.own a)/\fs.length<=1000/\dx ≠ a/\h.get? a = some (W.instObj C dx) /\
      ∃ mA,h.Ns1 dx mA/\(∀ f,RelO (fs.lookup f) (mA f))/\PySem.Within mA (fs.map (·.1))
  | .own _=>∃ o,h.get? a = some o
  | .xd fs=>∃ mA,h.Ns1 a mA/\∀ f,RelO (fs.lookup f) (mA f)
  | .rng lo hi=>∃ t u v,h.get? a = some { cls:=.type "range",data:=.fields #[.int lo t,.int hi u,.int 1 v] }
  | .frz o u=>h.get? a = some o/\zd7 H h a u
  | .tbl ps=>h.get? a = some { cls:=.none,data:=.fields ps }
  | .met f x=>h.get? a = some (W.methodObj (.ref f) (.ref x))
  | .ext φ=>φ h/\(∃ o,h.get? a = some o)/\∀ h1 h2:Heap,φ h1->(∀ o,h1.get? a = some o->h2.get? a = some o)->φ h2
def HOk (H:Hp) (h:Heap):Prop:=∀ a o,H a = some o->zd7 P w H h a o
end
section
variable {P:Program} {w:World} {H H':Hp} {h h':Heap} {a:Addr} {o:HO}
theorem zd7.lt (x:zd7 P w H h a o):a < h.objs.size:=by
  cases o with
  | lst xs=>obtain ⟨_,_,_,_,e⟩:=x; exact Heap.lt_size e
  | tup xs=>obtain ⟨_,_,_,p⟩:=x; exact p.lt
  | dK kvs=>obtain ⟨_,_,_,_,o,_,_,e,_⟩:=x; exact Heap.lt_size e
  | dT kvs=>obtain ⟨_,_,_,_,o,_,_,e,_⟩:=x; exact Heap.lt_size e
  | set S n=>obtain ⟨o,_,_,_,e,_⟩:=x; exact Heap.lt_size e
  | ins C dx fs=>obtain ⟨_,_,_,e,_⟩:=x; exact Heap.lt_size e
  | own y=>obtain ⟨_,e⟩:=x; exact Heap.lt_size e
  | xd fs=>obtain ⟨_,⟨_,_,_,e,_⟩,_⟩:=x; exact Heap.lt_size e
  | rng lo hi=>obtain ⟨_,_,_,e⟩:=x; exact Heap.lt_size e
  | frz ob u=>obtain ⟨e,_⟩:=x; exact Heap.lt_size e
  | tbl ps=>exact Heap.lt_size (show h.get? a = some _ from x)
  | met f y=>exact Heap.lt_size (show h.get? a = some _ from x)
  | ext φ=>obtain ⟨_,⟨_,e⟩,_⟩:=x; exact Heap.lt_size e
theorem Paired.mapP {α β:Type} {F G:α->β->Prop}:∀ {l₁:List α} {l₂:List β},Paired F l₁ l₂->(∀ a b,F a b->G a b)->Paired G l₁ l₂
  | _,_,.nil,_=>.nil
  | _,_,.cons r t,f=>.cons (f _ _ r) (Paired.mapP t f)
theorem zd7.stay (x:zd7 P w H h a o) (k:∀ b u,(b = a\/H b = some (.own a))->h.get? b = some u->h'.get? b = some u)
    (ho:∀ b,H b = some (.own a)->H' b = some (.own a)) (ht:∀ b xs,H b = some (.tup xs)->H' b = some (.tup xs)):zd7 P w H' h' a o:=by
  induction o with
  | lst xs=>obtain ⟨z,its,n,r,e⟩:=x; exact ⟨z,its,n,r,k _ _ (.inl rfl) e⟩
  | tup xs=>obtain ⟨z,its,r,ob,e,c⟩:=x; exact ⟨z,its,r,ob,k _ _ (.inl rfl) e,c⟩
  | dK kvs=>obtain ⟨z,y,vs,r,ob,es,ep,e,c⟩:=x; exact ⟨z,y,vs,r,ob,es,ep,k _ _ (.inl rfl) e,c⟩
  | dT kvs=>
    obtain ⟨z,y,xs,r,ob,es,ep,e,c⟩:=x
    exact ⟨z,y,xs,Paired.mapP r λp q z=>⟨z.1,ht _ _ z.2.1,z.2.2⟩,ob,es,ep,k _ _ (.inl rfl) e,c⟩
  | set S n=>obtain ⟨ob,es,ep,t,e,c⟩:=x; exact ⟨ob,es,ep,t,k _ _ (.inl rfl) e,c⟩
  | ins C dx fs=>
    obtain ⟨d,z,ne,e,mA,⟨od,es,ep,e2,c⟩,r⟩:=x
    exact ⟨ho _ d,z,ne,k _ _ (.inl rfl) e,mA,⟨od,es,ep,k _ _ (.inr d) e2,c⟩,r⟩
  | own y=>obtain ⟨ob,e⟩:=x; exact ⟨ob,k _ _ (.inl rfl) e⟩
  | xd fs=>obtain ⟨mA,⟨od,es,ep,e,c⟩,r⟩:=x; exact ⟨mA,⟨od,es,ep,k _ _ (.inl rfl) e,c⟩,r⟩
  | rng lo hi=>obtain ⟨t,u,v,e⟩:=x; exact ⟨t,u,v,k _ _ (.inl rfl) e⟩
  | frz ob u ih=>obtain ⟨e,q⟩:=x; exact ⟨k _ _ (.inl rfl) e,ih q⟩
  | tbl ps=>
    have e:h.get? a = some { cls:=.none,data:=.fields ps }:=x
    show h'.get? a = some { cls:=.none,data:=.fields ps }
    exact k a _ (.inl rfl) e
  | met f y=>
    have e:h.get? a = some (W.methodObj (.ref f) (.ref y)):=x
    show h'.get? a = some (W.methodObj (.ref f) (.ref y))
    exact k a _ (.inl rfl) e
  | ext φ=>obtain ⟨p,⟨o,e⟩,st⟩:=x; exact ⟨st _ _ p λo q=>k _ _ (.inl rfl) q,⟨o,k _ _ (.inl rfl) e⟩,st⟩
theorem HOk.lt (x:HOk P w H h) (e:H a = some o):a < h.objs.size:=(x a o e).lt
theorem HOk.fresh (x:HOk P w H h) (e:h.objs.size<=a):H a = none:=by
  cases q:H a with
  | none=>rfl
  | some u=>exact absurd (Nat.lt_of_lt_of_le (x.lt q) e) (Nat.lt_irrefl _)
theorem HOk.kept (x:HOk P w H h) (k:∀ b u,h.get? b = some u->h'.get? b = some u):HOk P w H h':=λa o e=>
  (x a o e).stay (λb u _ q=>k b u q) (λ_ q=>q) λ_ _ q=>q
theorem HOk.laid (x:HOk P w H h) (k:∀ b u,h.get? b = some u->h'.get? b = some u) (hp:h.objs.size<=a) (new:zd7 P w (upd H a o) h' a o):HOk P w (upd H a o) h':=λb u e=>by
  have hn:=x.fresh hp
  by_cases hb:b = a
  · subst hb; rw [upd_same] at e; cases e; exact new
  · rw [za7 hb] at e
    exact (x b u e).stay (λc v _ q=>k c v q) (λc q=>by rw [za7 (ze5 q hn)]; exact q) λc xs q=>by rw [za7 (ze5 q hn)]; exact q
end
def Rd (H:Hp) (a:Addr) (u:HO):Prop:=H a = some u\/∃ o,H a = some (.frz o u)
theorem Rd.ok {P:Program} {w:World} {H:Hp} {h:Heap} {a:Addr} {u:HO} (r:Rd H a u) (x:HOk P w H h):zd7 P w H h a u:=by
  rcases r with r | ⟨o,r⟩
  · exact x a u r
  · obtain ⟨_,q⟩:=x a _ r
    exact q
def Mut:Option HO->Prop
  | some (.lst _)=>True
  | some (.dK _)=>True
  | some (.dT _)=>True
  | some (.set _ _)=>True
  | some (.ins _ _ _)=>True
  | some (.ext _)=>True
  | _=>False
section
variable {P:Program} {w:World} {H:Hp} {h h':Heap} {x e:Addr} {o':HO}
theorem HOk.write (ok:HOk P w H h) (mu:Mut (H x)) (he:e = x\/H e = some (.own x)) (k:∀ b u,b ≠ e->h.get? b = some u->h'.get? b = some u) (heo:∃ u,h'.get? e = some u)
    (new:zd7 P w (upd H x o') h' x o'):HOk P w (upd H x o') h':=λb u q=>by
  have nown:∀ c y,H c = some (.own y)->c ≠ x:=λc y r z=>by subst z; rw [r] at mu; exact mu
  have ntup:∀ c xs,H c = some (.tup xs)->c ≠ x:=λc xs r z=>by subst z; rw [r] at mu; exact mu
  by_cases hb:b = x
  · subst hb; rw [upd_same] at q; cases q; exact new
  · rw [za7 hb] at q
    by_cases hbe:b = e
    · have q':H b = some (.own x):=by
        rcases he with z | z
        · exact absurd (hbe.trans z) hb
        · rw [hbe]; exact z
      rw [q] at q'; cases q'
      obtain ⟨v,hv⟩:=heo
      exact ⟨v,by rw [hbe]; exact hv⟩
    · refine (ok b u q).stay (λc v hc r=>k c v ?_ r) (λc r=>by rw [za7 (nown c b r)]; exact r) λc xs r=>by rw [za7 (ntup c xs r)]; exact r
      rcases hc with rfl | hc
      · exact hbe
      · rintro rfl
        rcases he with z | z
        · exact nown c b hc z
        · rw [hc] at z; cases z; exact hb rfl
end
structure Un (fs ex:List Addr) (H H':Hp) (h h':Heap):Prop where
  keep:∀ b o,h.get? b = some o->H b = none->b ∉ fs->b ∉ ex->h'.get? b = some o
  slot:∀ b o,h.get? b = some o->H b = none->b ∈ fs->b ∉ ex->∃ sl,h'.get? b = some { o with slots:=sl }
  free:∀ b o,h.get? b = some o->H b = none->b ∉ ex->H' b = none
  there:∀ b o,h.get? b = some o->b ∉ ex->∃ o',h'.get? b = some o'
  tups:∀ b xs,H b = some (.tup xs)->H' b = some (.tup xs)
  frzs:∀ b o u,H b = some (.frz o u)->H' b = some (.frz o u)
  tbls:∀ b ps,H b = some (.tbl ps)->∃ more,H' b = some (.tbl (ps ++ more))
section
variable {fs fs' ex ex':List Addr} {H H1 H2:Hp} {h h1 h2 h':Heap} {a x e:Addr} {o:HO}
theorem Un.any (u:Un fs ex H H1 h h1) {b:Addr} {ob:Obj} (q:h.get? b = some ob) (n:H b = none) (hx:b ∉ ex):∃ sl,h1.get? b = some { ob with slots:=sl }:=by
  by_cases hb:b ∈ fs
  · exact u.slot b ob q n hb hx
  · exact ⟨ob.slots,u.keep b ob q n hb hx⟩
theorem Un.trans (a:Un fs ex H H1 h h1) (b:Un fs ex H1 H2 h1 h2):Un fs ex H H2 h h2 where
  keep:=λc ob q n hc hx=>b.keep c ob (a.keep c ob q n hc hx) (a.free c ob q n hx) hc hx
  slot:=λc ob q n hc hx=>by
    obtain ⟨sl,e1⟩:=a.slot c ob q n hc hx
    obtain ⟨sl',e2⟩:=b.slot c _ e1 (a.free c ob q n hx) hc hx
    exact ⟨sl',e2⟩
  free:=λc ob q n hx=>by
    obtain ⟨o',e1⟩:=a.there c ob q hx
    exact b.free c o' e1 (a.free c ob q n hx) hx
  there:=λc ob q hx=>by
    obtain ⟨o',e1⟩:=a.there c ob q hx
    exact b.there c o' e1 hx
  tups:=λc xs q=>b.tups c xs (a.tups c xs q)
  frzs:=λc ob xs q=>b.frzs c ob xs (a.frzs c ob xs q)
  tbls:=λc ps q=>by
    obtain ⟨m1,e1⟩:=a.tbls c ps q
    obtain ⟨m2,e2⟩:=b.tbls c _ e1
    exact ⟨m1 ++ m2,by rw [e2,Array.append_assoc]⟩
theorem Un.kept (k:∀ b u,h.get? b = some u->h'.get? b = some u):Un fs ex H H h h':=
  ⟨λb ob q _ _ _=>k b ob q,λb ob q _ _ _=>⟨ob.slots,k b ob q⟩,λ_ _ _ n _=>n,λb ob q _=>⟨ob,k b ob q⟩,λ_ _ q=>q,λ_ _ _ q=>q,λ_ ps q=>⟨#[],by rw [q]; simp⟩⟩
theorem Un.refl:Un fs ex H H h h:=Un.kept λ_ _ q=>q
theorem Un.laid (k:∀ b u,h.get? b = some u->h'.get? b = some u) (hp:h.objs.size<=a) (hn:H a = none):Un fs ex H (upd H a o) h h' where
  keep:=λb u q _ _ _=>k b u q
  slot:=λb u q _ _ _=>⟨u.slots,k b u q⟩
  free:=λb u q n _=>by rw [za7 (Nat.ne_of_lt (Nat.lt_of_lt_of_le (Heap.lt_size q) hp))]; exact n
  there:=λb u q _=>⟨u,k b u q⟩
  tups:=λb xs q=>by rw [za7 (ze5 q hn)]; exact q
  frzs:=λb u xs q=>by rw [za7 (ze5 q hn)]; exact q
  tbls:=λb ps q=>⟨#[],by rw [za7 (ze5 q hn),q]; simp⟩
theorem Un.write (mu:Mut (H x)) (he:e = x\/H e = some (.own x)) (k:∀ b u,b ≠ e->h.get? b = some u->h'.get? b = some u) (heo:∃ u,h'.get? e = some u):Un fs ex H (upd H x o) h h':=by
  have hx:∀ b,H b = none->b ≠ x:=λb n z=>by subst z; rw [n] at mu; exact mu
  have hb:∀ b,H b = none->b ≠ e:=λb n z=>by
    subst z
    rcases he with r | r
    · exact hx b n r
    · rw [n] at r; cases r
  have hm:∀ b u,H b = some u->¬ Mut (some u)->b ≠ x:=λb u q nm z=>by subst z; rw [q] at mu; exact nm mu
  refine ⟨λb u q n _ _=>k b u (hb b n) q,λb u q n _ _=>⟨u.slots,k b u (hb b n) q⟩,λb u q n _=>by rw [za7 (hx b n)]; exact n,λb u q _=>?_,
    λb xs q=>by rw [za7 (hm b _ q λz=>z)]; exact q,λb u xs q=>by rw [za7 (hm b _ q λz=>z)]; exact q,λb ps q=>⟨#[],by rw [za7 (hm b _ q λz=>z),q]; simp⟩⟩
  by_cases hbe:b = e
  · subst hbe; exact heo
  · exact ⟨u,k b u hbe q⟩
theorem Un.mono (u:Un fs ex H H1 h h1) (hs:∀ b ∈ fs,b ∈ fs') (hx:∀ b ∈ ex,b ∈ ex'):Un fs' ex' H H1 h h1:=
  ⟨λb ob q n hb he=>u.keep b ob q n (λz=>hb (hs b z)) λz=>he (hx b z),λ_ _ q n _ he=>u.any q n λz=>he (hx _ z),λb ob q n he=>u.free b ob q n λz=>he (hx b z),λb ob q he=>u.there b ob q λz=>he (hx b z),u.tups,u.frzs,u.tbls⟩
end
def trk (h:Heap) (H:Hp):List Addr:=(List.range h.objs.size).filter λa=>(H a).isSome
def hidT (h:Heap) (H:Hp):Heap:=W.hideAll h (trk h H)
theorem xa1 (h:Heap) (H:Hp):(hidT h H).objs.size = h.objs.size:=W.hideAll_size _ _
theorem xg1 {h:Heap} {H:Hp} {b:Addr} {o:Obj} (e:h.get? b = some o) (n:H b = none):(hidT h H).get? b = some o:=
  W.hideAll_get _ e λhm=>by
    have q:(H b).isSome = true:=(List.mem_filter.mp hm).2
    rw [n] at q; simp at q
theorem xm5 {h:Heap} {H:Hp} {b:Addr} {o:Obj} (e:(hidT h H).get? b = some o):h.get? b = some o/\H b = none:=by
  have e':h.get? b = some o:=W.of_hideAll (trk h H) e
  refine ⟨e',?_⟩
  cases q:H b with
  | none=>rfl
  | some x=>
    have hm:b ∈ trk h H:=List.mem_filter.mpr ⟨List.mem_range.mpr (Heap.lt_size e'),by simp [q]⟩
    have z:(hidT h H).get? b = none:=W.hideAll_none (trk h H) hm
    rw [z] at e; cases e
structure Mod (K:W.Frag) (mg:Str->Option Value) (base:Heap):Prop where
  kin:K.In base
  glob:base.Ns mainGlobals mg
  blt:∃ mb,base.Ns builtinsNs mb/\∀ x:Str,x ≠ "__name__"->mb x = bootBuiltins x
  nolimit:base.NoLimit
structure Cx where
  prog:Program
  w:World
  K:W.Frag
  mg:Str->Option Value
  base:Heap
  A:Around
  N:List Str
  s₀:Shared
  H₀:Hp
  env:Env
  outer:List Env
  stack:List Env
  ex:List Addr
  fn:Str->Bool
  calm:Bool
  pn:List (Addr × Obj)
  xe:Value->Shared->Prop
def frs (l:List Env):List Addr:=l.filterMap (·.frame)
abbrev Cx.fs (X:Cx):List Addr:=frs X.outer
def Vis (sc:Scope) (x:Str):Prop:=sc.names.lookup x = some .local\/sc.names.lookup x = some .cell\/sc.names.lookup x = some .free
def Loc (sc:Scope) (x:Str):Prop:=sc.names.lookup x = some .local\/sc.names.lookup x = some .cell
def Look (env:Env) (h:Heap) (m:Str->Option Value) (x:Str) (u:Value):Prop:=
  (env.kindOf x = some .local/\m x = some u)\/((env.kindOf x = some .cell\/env.kindOf x = some .free)/\∃ c,env.cells.lookup x = some c/\h.IsCell c (some u))
structure Cx.Ok (X:Cx):Prop where
  mod:Mod X.K X.mg X.base
  kind:X.env.scope.kind = .function
  glob:X.env.globals = mainGlobals
  blt:X.env.builtins = builtinsNs
  above:X.s₀.heap.objs.size<=X.env.locals
  inj:∀ x y c,X.env.cells.lookup x = some c->X.env.cells.lookup y = some c->x = y
  has:∀ x,(X.env.kindOf x = some .cell\/X.env.kindOf x = some .free)->∃ c,X.env.cells.lookup x = some c
  cab:∀ x c,X.fn x = true->X.env.cells.lookup x = some c->X.s₀.heap.objs.size<=c
  hd:X.calm = true->X.A.handled = none
  frames:X.A.frames = some X.stack
  stk:X.stack = X.outer\/(X.stack = X.env :: X.outer/\X.env.frame = some X.env.locals)
  exf:∀ b ∈ X.ex,b ≠ X.env.locals/\∀ x c,X.env.cells.lookup x = some c->c ≠ b
  bs:∀ b o,X.base.get? b = some o->X.s₀.heap.get? b = some o/\X.H₀ b = none
  bsz:X.base.objs.size<=X.s₀.heap.objs.size
  noex:∀ b o,X.base.get? b = some o->b ∉ X.ex
  exfs:∀ b ∈ X.ex,b ∉ X.fs
  funs:X.s₀.heap.FunFrames X.base X.outer
  frf:∀ b ∈ X.fs,X.H₀ b = none
structure Inv (X:Cx) (pins:List (Addr × Obj)) (σ:List (Option V)) (H:Hp) (s:Shared):Prop where
  ok:X.Ok
  os:s.os = X.s₀.os
  bare:AllBare s.gens
  base:Un X.fs X.ex X.H₀ H X.s₀.heap s.heap
  loc:∃ m,s.heap.Ns X.env.locals m/\∀ (i:Nat) (x:Str) (v:V),X.N[i]? = some x->σ[i]? = some (some v)->Vis X.env.scope x->∃ u,RelV v u/\Look X.env s.heap m x u
  cell:∀ x c,X.env.cells.lookup x = some c->∃ v,s.heap.IsCell c v
  free:H X.env.locals = none
  freeC:∀ x c,X.env.cells.lookup x = some c->H c = none
  pin:∀ p ∈ X.pn ++ pins,s.heap.get? p.1 = some p.2/\H p.1 = none/\p.1 ≠ X.env.locals/\p.1 ∉ X.fs/\∀ v,p.2.data ≠ .cell v
  hok:HOk X.prog X.w H s.heap
  len:σ.length = X.N.length
section
variable {X:Cx} {pins:List (Addr × Obj)} {σ:List (Option V)} {H H':Hp} {s:Shared} {h':Heap}
theorem Cx.Ok.nofr (ok:X.Ok) {b:Addr} {o:Obj} (e:X.base.get? b = some o):b ∉ X.fs:=λhb=>by
  have:=(ok.funs.mem hb).1
  rw [e] at this; cases this
theorem Inv.bs (I:Inv X pins σ H s):∀ b o,X.base.get? b = some o->s.heap.get? b = some o/\H b = none:=λb o e=>
  ⟨I.base.keep b o (I.ok.bs b o e).1 (I.ok.bs b o e).2 (I.ok.nofr e) (I.ok.noex b o e),I.base.free b o (I.ok.bs b o e).1 (I.ok.bs b o e).2 (I.ok.noex b o e)⟩
theorem Inv.bk (I:Inv X pins σ H s):∀ b o,X.base.get? b = some o->s.heap.get? b = some o:=λb o e=>(I.bs b o e).1
theorem Inv.mod (I:Inv X pins σ H s):Mod X.K X.mg X.base:=I.ok.mod
theorem Inv.kIn (I:Inv X pins σ H s):X.K.In s.heap:=I.ok.mod.kin.keeps I.bk
theorem Inv.lt (I:Inv X pins σ H s):X.env.locals < s.heap.objs.size:=let ⟨_,hn,_⟩:=I.loc; hn.lt
theorem Inv.sz (I:Inv X pins σ H s):X.s₀.heap.objs.size<=s.heap.objs.size:=Nat.le_trans I.ok.above (Nat.le_of_lt I.lt)
theorem Inv.nofs (I:Inv X pins σ H s) {a:Addr} (h:s.heap.objs.size<=a):a ∉ X.fs:=λhb=>by
  obtain ⟨_,o,ho,_⟩:=I.ok.funs.mem hb
  exact absurd (Nat.lt_of_lt_of_le (Heap.lt_size ho) (Nat.le_trans I.sz h)) (Nat.lt_irrefl _)
theorem Inv.cne (I:Inv X pins σ H s):∀ x c,X.env.cells.lookup x = some c->c ≠ X.env.locals:=λx c e z=>by
  obtain ⟨v,o,ho,hd⟩:=I.cell x c e
  obtain ⟨m,⟨o',es,ep,ho',hd',_⟩,_⟩:=I.loc
  rw [z,ho'] at ho; cases ho; rw [hd'] at hd; cases hd
theorem Inv.funs (I:Inv X pins σ H s):s.heap.FunFrames X.base X.outer:=by
  have all:∀ (l:List Env),(∀ b ∈ frs l,b ∈ X.fs)->X.s₀.heap.FunFrames X.base l->s.heap.FunFrames X.base l:=by
    intro l
    induction l with
    | nil=>intro _ _; trivial
    | cons env r ih=>
      intro hs hl
      obtain ⟨hk,⟨L,o,hf,hn,ho,hd⟩,hr⟩:=hl
      have hL:L ∈ X.fs:=hs L (by unfold frs; rw [List.filterMap_cons,hf]; exact List.mem_cons_self)
      obtain ⟨sl,e⟩:=I.base.slot L o ho (I.ok.frf L hL) hL λz=>I.ok.exfs L z hL
      exact ⟨hk,⟨L,_,hf,hn,e,hd⟩,ih (λb hb=>hs b (by unfold frs; rw [List.filterMap_cons,hf]; exact List.mem_cons_of_mem _ hb)) hr⟩
  exact all X.outer (λ_ hb=>hb) I.ok.funs
theorem Inv.stack (I:Inv X pins σ H s):s.heap.FunFrames X.base X.stack:=by
  rcases I.ok.stk with e | ⟨e,hf⟩
  · rw [e]; exact I.funs
  · rw [e]
    obtain ⟨m,hn,_⟩:=I.loc
    refine .cons (by rw [I.ok.kind]; decide) hf hn ?_ I.funs
    exact Heap.get?_none_of_le (Nat.le_trans I.ok.bsz I.ok.above)
theorem Inv.stkSub (I:Inv X pins σ H s):∀ b ∈ frs X.stack,b ∈ X.env.locals :: X.fs:=λb hb=>by
  rcases I.ok.stk with e | ⟨e,hf⟩
  · rw [e] at hb; exact List.mem_cons_of_mem _ hb
  · rw [e] at hb
    unfold frs at hb
    rw [List.filterMap_cons,hf] at hb
    exact hb
theorem Inv.stkFree (I:Inv X pins σ H s):∀ b ∈ frs X.stack,H b = none:=λb hb=>by
  rcases List.mem_cons.mp (I.stkSub b hb) with e | hb
  · rw [e]; exact I.free
  · obtain ⟨_,o,ho,_⟩:=I.ok.funs.mem hb
    exact I.base.free b o ho (I.ok.frf b hb) λz=>I.ok.exfs b z hb
theorem Inv.step {g':Array GenState} {t':Nat} {d':Drawn} {ch:List Addr} (I:Inv X pins σ H s)
    (hch:∀ b ∈ ch,(b ∈ X.ex\/X.s₀.heap.objs.size<=b)/\b ≠ X.env.locals/\(∀ x c,X.env.cells.lookup x = some c->c ≠ b)/\∀ p ∈ X.pn ++ pins,p.1 ≠ b)
    (keep:∀ b o,b ≠ X.env.locals->b ∉ X.fs->b ∉ ch->s.heap.get? b = some o->H b = none->h'.get? b = some o)
    (slot:∀ b o,b ≠ X.env.locals->b ∈ X.fs->b ∉ ch->s.heap.get? b = some o->H b = none->∃ sl,h'.get? b = some { o with slots:=sl }) (free:∀ b o,b ∉ ch->s.heap.get? b = some o->H b = none->H' b = none)
    (there:∀ b o,b ∉ ch->s.heap.get? b = some o->∃ o',h'.get? b = some o')
    (tups:∀ b xs,H b = some (.tup xs)->H' b = some (.tup xs)) (frzs:∀ b o u,H b = some (.frz o u)->H' b = some (.frz o u)) (tbls:∀ b ps,H b = some (.tbl ps)->∃ more,H' b = some (.tbl (ps ++ more)))
    (ns:∀ m,s.heap.Ns X.env.locals m->h'.Ns X.env.locals m) (hok:HOk X.prog X.w H' h') (hg:AllBare g') :
    Inv X pins σ H' { s with heap:=h',gens:=g',drawn:=d',toks:=t' }:=by
  have neL:∀ b o,X.s₀.heap.get? b = some o->b ≠ X.env.locals:=λb o e=>Nat.ne_of_lt (Nat.lt_of_lt_of_le (Heap.lt_size e) I.ok.above)
  have neC:∀ b o,X.s₀.heap.get? b = some o->b ∉ X.ex->b ∉ ch:=λb o e hx hb=>by
    rcases (hch b hb).1 with z | z
    · exact hx z
    · exact absurd (Nat.lt_of_lt_of_le (Heap.lt_size e) z) (Nat.lt_irrefl _)
  have cellK:∀ x c,X.env.cells.lookup x = some c->∀ v,s.heap.IsCell c v->h'.IsCell c v:=λx c e v ⟨o,ho,hd⟩=>by
    have nch:c ∉ ch:=λz=>(hch c z).2.2.1 x c e rfl
    by_cases hc:c ∈ X.fs
    · obtain ⟨sl,q⟩:=slot c o (I.cne x c e) hc nch ho (I.freeC x c e)
      exact ⟨_,q,hd⟩
    · exact ⟨o,keep c o (I.cne x c e) hc nch ho (I.freeC x c e),hd⟩
  refine ⟨I.ok,I.os,hg,⟨λb o e n hb hx=>?_,λb o e n hb hx=>?_,λb o e n hx=>?_,λb o e hx=>?_,λb xs e=>tups b xs (I.base.tups b xs e),λb o xs e=>frzs b o xs (I.base.frzs b o xs e),λb ps e=>?_⟩,?_,λx c e=>?_,?_,λx c e=>?_,λp hp=>?_,hok,I.len⟩
  · exact keep b o (neL b o e) hb (neC b o e hx) (I.base.keep b o e n hb hx) (I.base.free b o e n hx)
  · obtain ⟨sl,e1⟩:=I.base.slot b o e n hb hx
    obtain ⟨sl',e2⟩:=slot b _ (neL b o e) hb (neC b o e hx) e1 (I.base.free b o e n hx)
    exact ⟨sl',e2⟩
  · obtain ⟨o',e1⟩:=I.base.there b o e hx
    exact free b o' (neC b o e hx) e1 (I.base.free b o e n hx)
  · obtain ⟨o',e1⟩:=I.base.there b o e hx
    exact there b o' (neC b o e hx) e1
  · obtain ⟨m1,e1⟩:=I.base.tbls b ps e
    obtain ⟨m2,e2⟩:=tbls b _ e1
    exact ⟨m1 ++ m2,by rw [e2,Array.append_assoc]⟩
  · obtain ⟨m,hn,hl⟩:=I.loc
    refine ⟨m,ns m hn,λi x v e1 e2 e3=>?_⟩
    obtain ⟨u,r,l⟩:=hl i x v e1 e2 e3
    refine ⟨u,r,?_⟩
    rcases l with l | ⟨k,c,e,z⟩
    · exact .inl l
    · exact .inr ⟨k,c,e,cellK x c e _ z⟩
  · obtain ⟨v,z⟩:=I.cell x c e
    exact ⟨v,cellK x c e v z⟩
  · obtain ⟨m,⟨o,_,_,ho,_⟩,_⟩:=I.loc
    exact free _ o (λz=>(hch _ z).2.1 rfl) ho I.free
  · obtain ⟨v,o,ho,hd⟩:=I.cell x c e
    exact free c o (λz=>(hch c z).2.2.1 x c e rfl) ho (I.freeC x c e)
  · obtain ⟨e,n,ne,nf,d⟩:=I.pin p hp
    have nch:p.1 ∉ ch:=λz=>(hch p.1 z).2.2.2 p hp rfl
    exact ⟨keep p.1 p.2 ne nf nch e n,free p.1 p.2 nch e n,ne,nf,d⟩
theorem Inv.un {t':Nat} (I:Inv X pins σ H s) (u:Un X.fs [] H H' s.heap h') (hok:HOk X.prog X.w H' h'):Inv X pins σ H' { s with heap:=h',toks:=t' }:=by
  obtain ⟨m,⟨o,es,ep,ho,r⟩,_⟩:=id I.loc
  obtain ⟨sl,hL⟩:=u.any ho I.free (by simp)
  exact I.step (g':=s.gens) (d':=s.drawn) (ch:=[]) (λ_ z=>nomatch z) (λb o _ hb _ e n=>u.keep b o e n hb (by simp)) (λb o _ hb _ e n=>u.slot b o e n hb (by simp)) (λb o _ e n=>u.free b o e n (by simp)) (λb o _ e=>u.there b o e (by simp)) u.tups u.frzs u.tbls (λm' hm=>by
    obtain ⟨o',es',ep',ho',r'⟩:=hm
    rw [ho] at ho'; cases ho'
    exact ⟨_,es',ep',hL,r'⟩) hok I.bare
theorem Inv.call {g':Array GenState} {t':Nat} {d':Drawn} {ch:List Addr} (I:Inv X pins σ H s) (u:Un (frs X.stack) ch H H' s.heap h') (hok:HOk X.prog X.w H' h') (hg:AllBare g')
    (hch:∀ b ∈ ch,(b ∈ X.ex\/X.s₀.heap.objs.size<=b)/\b ≠ X.env.locals/\(∀ x c,X.env.cells.lookup x = some c->c ≠ b)/\∀ p ∈ X.pn ++ pins,p.1 ≠ b) :
    Inv X pins σ H' { s with heap:=h',gens:=g',drawn:=d',toks:=t' }:=by
  obtain ⟨m,⟨o,es,ep,ho,r⟩,_⟩:=id I.loc
  obtain ⟨sl,hL⟩:=u.any ho I.free λz=>(hch _ z).2.1 rfl
  exact I.step (ch:=ch) hch (λb o hL hb hc e n=>u.keep b o e n (λz=>(List.mem_cons.mp (I.stkSub b z)).elim hL hb) hc) (λb o _ _ hc e n=>u.any e n hc) (λb o hc e n=>u.free b o e n hc) (λb o hc e=>u.there b o e hc) u.tups u.frzs u.tbls (λm' hm=>by
    obtain ⟨o',es',ep',ho',r'⟩:=hm
    rw [ho] at ho'; cases ho'
    exact ⟨_,es',ep',hL,r'⟩) hok hg
theorem Inv.turned {t':Nat} {it:Addr} (I:Inv X pins σ H s) (k:∀ b o,b ≠ it->s.heap.get? b = some o->h'.get? b = some o) (hn:H it = none) (hL:it ≠ X.env.locals)
    (h1:it ∈ X.ex\/X.s₀.heap.objs.size<=it) (h2:∀ x c,X.env.cells.lookup x = some c->c ≠ it) (h3:∀ p ∈ X.pn ++ pins,p.1 ≠ it):Inv X pins σ H { s with heap:=h',toks:=t' }:=by
  have nit:∀ b u,H b = some u->b ≠ it:=λb u e z=>by rw [z,hn] at e; cases e
  refine I.step (g':=s.gens) (d':=s.drawn) (ch:=[it]) (λb hb=>?_) (λb o _ _ hc e _=>k b o (λz=>hc (by simp [z])) e) (λb o _ _ hc e _=>⟨o.slots,k b o (λz=>hc (by simp [z])) e⟩) (λ_ _ _ _ n=>n)
    (λb o hc e=>⟨o,k b o (λz=>hc (by simp [z])) e⟩) (λ_ _ e=>e) (λ_ _ _ e=>e) (λb ps e=>⟨#[],by rw [e]; simp⟩) (λm hm=>?_) (λb u e=>?_) I.bare
  · have e:b = it:=by simpa using hb
    subst e
    exact ⟨h1,hL,h2,h3⟩
  · obtain ⟨o,es,ep,ho,r⟩:=hm
    exact ⟨o,es,ep,k _ o (Ne.symm hL) ho,r⟩
  · refine (I.hok b u e).stay (λc v hc q=>k c v ?_ q) (λ_ q=>q) λ_ _ q=>q
    rcases hc with z | z
    · rw [z]; exact nit b u e
    · exact nit c _ z
theorem Inv.tok (I:Inv X pins σ H s) (t:Nat):Inv X pins σ H { s with toks:=t }:=I.un (h':=s.heap) (t':=t) Un.refl I.hok
theorem Inv.kept {t':Nat} (I:Inv X pins σ H s) (k:∀ b u,s.heap.get? b = some u->h'.get? b = some u):Inv X pins σ H { s with heap:=h',toks:=t' }:=I.un (Un.kept k) (I.hok.kept k)
theorem Inv.laid {a:Addr} {o:HO} {t':Nat} (I:Inv X pins σ H s) (k:∀ b u,s.heap.get? b = some u->h'.get? b = some u) (hp:s.heap.objs.size<=a) (new:zd7 X.prog X.w (upd H a o) h' a o) :
    Inv X pins σ (upd H a o) { s with heap:=h',toks:=t' }:=I.un (Un.laid k hp (I.hok.fresh hp)) (I.hok.laid k hp new)
theorem Inv.write {x e:Addr} {o:HO} {t':Nat} (I:Inv X pins σ H s) (mu:Mut (H x)) (he:e = x\/H e = some (.own x)) (k:∀ b u,b ≠ e->s.heap.get? b = some u->h'.get? b = some u) (heo:∃ u,h'.get? e = some u)
    (new:zd7 X.prog X.w (upd H x o) h' x o):Inv X pins σ (upd H x o) { s with heap:=h',toks:=t' }:=I.un (Un.write mu he k heo) (I.hok.write mu he k heo new)
theorem Inv.pins_of {pins':List (Addr × Obj)} (I:Inv X pins σ H s) (h:∀ p ∈ pins',s.heap.get? p.1 = some p.2/\H p.1 = none/\p.1 ≠ X.env.locals/\p.1 ∉ X.fs/\∀ v,p.2.data ≠ .cell v):Inv X pins' σ H s:=
  ⟨I.ok,I.os,I.bare,I.base,I.loc,I.cell,I.free,I.freeC,λp hp=>(List.mem_append.mp hp).elim (λz=>I.pin p (List.mem_append_left _ z)) (h p),I.hok,I.len⟩
theorem yn7 {N:List Str} (hN:N.Nodup) {i j:Nat} {x:Str} (a:N[i]? = some x) (b:N[j]? = some x):i = j:=by
  obtain ⟨h1,e1⟩:=List.getElem?_eq_some_iff.mp a
  obtain ⟨h2,e2⟩:=List.getElem?_eq_some_iff.mp b
  exact (List.getElem_inj hN).mp (e1.trans e2.symm)
theorem yu8 {M:Model} {A:Around} {E:Value->Shared->Prop} {i:Nat} {x:Str} {v:V} {u:Value} {Q:Unit->Shared->Prop} (I:Inv X pins σ H s) (hN:X.N.Nodup) (hi:X.N[i]? = some x) (hx:Loc X.env.scope x) (r:RelV v u)
    (h:∀ s',Inv X pins (σ.set i (some v)) H s'->(∃ a,Heap.SameBut a s.heap s'.heap/\(a = X.env.locals\/X.env.cells.lookup x = some a))->Q () s') (hf:X.fn x = true\/X.env.scope.names.lookup x = some .local:=by first | exact .inl rfl | exact .inr rfl | assumption):wpAny M A (storeName X.env x u) Q E s:=by
  obtain ⟨m,hn,hl⟩:=id I.loc
  have hcls:(X.env.scope.kind == .class || (X.env.scope.kind == .module && X.env.locals != X.env.globals)) = false:=by rw [I.ok.kind]; rfl
  have hiσ:i < σ.length:=by rw [I.len]; exact (List.getElem?_eq_some_iff.mp hi).1
  have cne:=I.cne
  have tracked:∀ {a:Addr} {h':Heap},(∃ o,s.heap.get? a = some o/\H a = none)->Heap.SameBut a s.heap h'->HOk X.prog X.w H h':=λ{a h'} ha hs b ob e=>by
    obtain ⟨_,_,hfree⟩:=ha
    refine (I.hok b ob e).stay (λc w' hc q=>(hs.2 c ?_).trans q) (λ_ q=>q) λ_ _ q=>q
    rintro rfl
    rcases hc with rfl | hc
    · rw [hfree] at e; cases e
    · rw [hfree] at hc; cases hc
  rcases hx with hk | hk
  · refine wpAny_storeName_local hk hn (λh' hn' hs=>?_) hcls
    obtain ⟨oL,_,_,hoL,_⟩:=id hn
    refine h _ ⟨I.ok,I.os,I.bare,⟨λb o e n hb hx=>?_,λb o e n hb hx=>?_,I.base.free,λb o e hx=>?_,I.base.tups,I.base.frzs,I.base.tbls⟩,⟨_,hn',λj y v' e1 e2 e3=>?_⟩,λy c e=>?_,I.free,I.freeC,λp hp=>?_,tracked ⟨oL,hoL,I.free⟩ hs,by simpa using I.len⟩ ⟨_,hs,.inl rfl⟩
    · exact (hs.2 b (Nat.ne_of_lt (Nat.lt_of_lt_of_le (Heap.lt_size e) I.ok.above))).trans (I.base.keep b o e n hb hx)
    · obtain ⟨sl,e1⟩:=I.base.slot b o e n hb hx
      exact ⟨sl,(hs.2 b (Nat.ne_of_lt (Nat.lt_of_lt_of_le (Heap.lt_size e) I.ok.above))).trans e1⟩
    · obtain ⟨o',e1⟩:=I.base.there b o e hx
      exact ⟨o',(hs.2 b (Nat.ne_of_lt (Nat.lt_of_lt_of_le (Heap.lt_size e) I.ok.above))).trans e1⟩
    · by_cases hj:j = i
      · subst hj
        rw [hi] at e1; cases e1
        rw [List.getElem?_set_self hiσ] at e2
        cases e2
        exact ⟨u,r,.inl ⟨hk,by simp⟩⟩
      · rw [List.getElem?_set_ne (Ne.symm hj)] at e2
        obtain ⟨u',r',q⟩:=hl j y v' e1 e2 e3
        refine ⟨u',r',?_⟩
        rcases q with ⟨k,e⟩ | ⟨k,c,e,z⟩
        · refine .inl ⟨k,?_⟩
          have:y ≠ x:=λe=>hj (yn7 hN e1 (e ▸ hi))
          simp [this,e]
        · exact .inr ⟨k,c,e,z.sameBut hs (cne y c e)⟩
    · obtain ⟨w',z⟩:=I.cell y c e
      exact ⟨w',z.sameBut hs (cne y c e)⟩
    · obtain ⟨e,n,ne,nf,d⟩:=I.pin p hp
      exact ⟨(hs.2 p.1 ne).trans e,n,ne,nf,d⟩
  · have hfn:X.fn x = true:=by
      rcases hf with z | z
      · exact z
      · rw [z] at hk; cases hk
    obtain ⟨c,hc⟩:=I.ok.has x (.inl hk)
    obtain ⟨w',z⟩:=I.cell x c hc
    refine wpAny_storeName_cell I.ok.kind hk hc z (λh' hc' hs=>?_)
    obtain ⟨oc,hoc,hocd⟩:=id z
    refine h { s with heap:=h' } ⟨I.ok,I.os,I.bare,⟨λb o e n hb hx=>?_,λb o e n hb hx=>?_,I.base.free,λb o e hx=>?_,I.base.tups,I.base.frzs,I.base.tbls⟩,⟨m,hn.sameBut hs (Ne.symm (cne x c hc)),λj y v' e1 e2 e3=>?_⟩,λy c' e=>?_,I.free,I.freeC,λp hp=>?_,tracked ⟨oc,hoc,I.freeC x c hc⟩ hs,by simpa using I.len⟩ ⟨c,hs,.inr hc⟩
    · exact (hs.2 b (Nat.ne_of_lt (Nat.lt_of_lt_of_le (Heap.lt_size e) (I.ok.cab x c hfn hc)))).trans (I.base.keep b o e n hb hx)
    · obtain ⟨sl,e1⟩:=I.base.slot b o e n hb hx
      exact ⟨sl,(hs.2 b (Nat.ne_of_lt (Nat.lt_of_lt_of_le (Heap.lt_size e) (I.ok.cab x c hfn hc)))).trans e1⟩
    · obtain ⟨o',e1⟩:=I.base.there b o e hx
      exact ⟨o',(hs.2 b (Nat.ne_of_lt (Nat.lt_of_lt_of_le (Heap.lt_size e) (I.ok.cab x c hfn hc)))).trans e1⟩
    · by_cases hj:j = i
      · subst hj
        rw [hi] at e1; cases e1
        rw [List.getElem?_set_self hiσ] at e2
        cases e2
        exact ⟨u,r,.inr ⟨.inl hk,c,hc,hc'⟩⟩
      · rw [List.getElem?_set_ne (Ne.symm hj)] at e2
        obtain ⟨u',r',q⟩:=hl j y v' e1 e2 e3
        refine ⟨u',r',?_⟩
        rcases q with q | ⟨k,c',e,z'⟩
        · exact .inl q
        · refine .inr ⟨k,c',e,z'.sameBut hs ?_⟩
          rintro rfl
          exact hj (yn7 hN e1 (I.ok.inj _ _ _ e hc ▸ hi))
    · by_cases hcc:c' = c
      · subst hcc; exact ⟨_,hc'⟩
      · obtain ⟨w2,z2⟩:=I.cell y c' e
        exact ⟨w2,z2.sameBut hs hcc⟩
    · obtain ⟨e,n,ne,nf,d⟩:=I.pin p hp
      refine ⟨(hs.2 p.1 ?_).trans e,n,ne,nf,d⟩
      intro q
      rw [q,hoc] at e
      have q':oc = p.2:=Option.some.inj e
      exact d w' (by rw [<- q']; exact hocd)
theorem zi4 {M:Model} {A:Around} {E:Value->Shared->Prop} {i:Nat} {x:Str} {v:V} {u:Value} {Q:Unit->Shared->Prop} (I:Inv X pins σ H s) (hN:X.N.Nodup) (hi:X.N[i]? = some x) (hx:Loc X.env.scope x) (r:RelV v u)
    (h:∀ s',Inv X pins (σ.set i (some v)) H s'->Q () s') (hf:X.fn x = true\/X.env.scope.names.lookup x = some .local:=by first | exact .inl rfl | exact .inr rfl | assumption):wpAny M A (storeName X.env x u) Q E s:=
  yu8 I hN hi hx r (λs' I' _=>h s' I') hf
theorem Inv.call' {s':Shared} {ch:List Addr} (I:Inv X pins σ H s) (ho:s'.os = s.os) (u:Un (frs X.stack) ch H H' s.heap s'.heap) (hok:HOk X.prog X.w H' s'.heap) (hg:AllBare s'.gens)
    (hch:∀ b ∈ ch,(b ∈ X.ex\/X.s₀.heap.objs.size<=b)/\b ≠ X.env.locals/\(∀ x c,X.env.cells.lookup x = some c->c ≠ b)/\∀ p ∈ X.pn ++ pins,p.1 ≠ b):Inv X pins σ H' s':=by
  obtain ⟨h',g',d',t',o'⟩:=s'
  have e:o' = s.os:=ho
  subst e
  exact I.call (g':=g') (t':=t') (d':=d') u hok hg hch
end
abbrev XK:=Value->Option Addr->Hp->Prop
abbrev St:=List (Option V)
abbrev VK:=V->Hp->Prop
abbrev TE:=St->Hp->VK->Prop
abbrev TT:=St->Hp->(Bool->Hp->Prop)->Prop
abbrev TA:=St->Hp->(List V->Hp->Prop)->Prop
structure Ends where
  nx:St->Hp->Prop
  rt:VK
  bk:St->Hp->Prop:=λ_ _=>False
  ct:St->Hp->Prop:=λ_ _=>False
abbrev TS:=Ends->St->Hp->Prop
def EP (X:Cx) (pins:List (Addr × Obj)) (σ:St) (Q:VK) (u:Value) (s':Shared):Prop:=∃ v H',Inv X pins σ H' s'/\RelV v u/\Q v H'
def TP (X:Cx) (pins:List (Addr × Obj)) (σ:St) (Q:Bool->Hp->Prop) (b:Bool) (s':Shared):Prop:=∃ H',Inv X pins σ H' s'/\Q b H'
def AP (X:Cx) (pins:List (Addr × Obj)) (σ:St) (Q:List V->Hp->Prop) (us:List Value) (s':Shared):Prop:=∃ vs H',Inv X pins σ H' s'/\Vals vs us/\Q vs H'
def SP (X:Cx) (pins:List (Addr × Obj)) (D:Ends) (f:Flow) (s':Shared):Prop:=
  match f with
  | .next=>∃ σ' H',Inv X pins σ' H' s'/\D.nx σ' H'
  | .brk=>∃ σ' H',Inv X pins σ' H' s'/\D.bk σ' H'
  | .cont=>∃ σ' H',Inv X pins σ' H' s'/\D.ct σ' H'
  | .ret u=>∃ v σ' H',Inv X pins σ' H' s'/\RelV v u/\D.rt v H'
def PE (X:Cx) (e:Expr) (t:TE):Prop:=
  ∀ (pins:List (Addr × Obj)) (s:Shared) (σ:St) (H:Hp) (Q:VK),Inv X pins σ H s->t σ H Q->wpAny (model X.prog X.w) X.A (eval e X.env) (EP X pins σ Q) X.xe s
def PT (X:Cx) (e:Expr) (t:TT):Prop:=
  ∀ (pins:List (Addr × Obj)) (s:Shared) (σ:St) (H:Hp) (Q:Bool->Hp->Prop),Inv X pins σ H s->t σ H Q->wpAny (model X.prog X.w) X.A (isTrue e X.env (eval e X.env)) (TP X pins σ Q) X.xe s
def PW (X:Cx) (e:Expr) (t:TT):Prop:=
  ∀ (whole:Sem Value) (pins:List (Addr × Obj)) (s:Shared) (σ:St) (H:Hp) (Q:Bool->Hp->Prop),Inv X pins σ H s->t σ H Q->wpAny (model X.prog X.w) X.A (isTrue e X.env whole) (TP X pins σ Q) X.xe s
theorem PW.pt {X:Cx} {e:Expr} {t:TT} (h:PW X e t):PT X e t:=h _
def PA (X:Cx) (es:List Expr) (t:TA):Prop:=
  ∀ (pos:Pos) (pins:List (Addr × Obj)) (s:Shared) (σ:St) (H:Hp) (Q:List V->Hp->Prop),Inv X pins σ H s->t σ H Q->wpAny (model X.prog X.w) X.A (spliced (backTo pos (starEach es X.env))) (AP X pins σ Q) X.xe s
def PS (X:Cx) (st:Stmt) (t:TS):Prop:=
  ∀ (pins:List (Addr × Obj)) (s:Shared) (σ:St) (H:Hp) (D:Ends),Inv X pins σ H s->t D σ H->wpAny (model X.prog X.w) X.A (exec st X.env) (SP X pins D) X.xe s
def PSs (X:Cx) (st:List Stmt) (t:TS):Prop:=
  ∀ (pins:List (Addr × Obj)) (s:Shared) (σ:St) (H:Hp) (D:Ends),Inv X pins σ H s->t D σ H->wpAny (model X.prog X.w) X.A (execs st X.env) (SP X pins D) X.xe s
theorem thn {α:Type} {t:Sem α} {Q Q':α->Shared->Prop} {M:Model} {A:Around} {E:Value->Shared->Prop} {s:Shared} (h:wpAny M A t Q E s) (hQ:∀ a s,Q a s->Q' a s):wpAny M A t Q' E s:=wpAny_mono h hQ λ_ _ x=>x
section
variable {X:Cx}
theorem bin {a b:Expr} {ta tb:TE} (ha:PE X a ta) (hb:PE X b tb) {pins:List (Addr × Obj)} {s:Shared} {σ:St} {H:Hp} {R:V->V->Hp->Prop} (I:Inv X pins σ H s) (h:ta σ H λx H1=>tb σ H1 λy H2=>R x y H2)
    {α:Type} {Q:α->Shared->Prop} {f:Value->Value->Sem α}
    (hf:∀ v u s2 x y H2,Inv X pins σ H2 s2->RelV x v->RelV y u->R x y H2->wpAny (model X.prog X.w) X.A (f v u) Q X.xe s2) :
    wpAny (model X.prog X.w) X.A (eval a X.env) (λv s₁=>wpAny (model X.prog X.w) X.A (eval b X.env) (λu s₂=>wpAny (model X.prog X.w) X.A (f v u) Q X.xe s₂) X.xe s₁) X.xe s:=by
  refine thn (ha pins s σ H _ I h) λv s1 ⟨x,H1,I1,r1,q1⟩=>?_
  refine thn (hb pins s1 σ H1 _ I1 q1) λu s2 ⟨y,H2,I2,r2,q2⟩=>?_
  exact hf v u s2 x y H2 I2 r1 r2 q2
def tVar (i:Nat):TE:=λσ H Q=>∃ v,σ[i]? = some (some v)/\Q v H
def tC (v:V):TE:=λ_ H Q=>Q v H
theorem pe_var {i:Nat} {x:Str} {pos:Pos} (hN:X.N[i]? = some x) (hv:Vis X.env.scope x) (hd:(x == ("__debug__" : Str)) = false:=by decide) (hcd:(x == ("__classdict__" : Str)) = false:=by decide):PE X (.Name x pos) (tVar i):=by
  intro pins s σ H Q I h
  obtain ⟨v,e,h⟩:=h
  obtain ⟨m,hn,hl⟩:=I.loc
  obtain ⟨u,r,l⟩:=hl i x v hN e hv
  have fin:EP X pins σ Q u s:=⟨v,H,I,r,h⟩
  rcases l with ⟨hk,hm⟩ | ⟨hk,c,hc,hcell⟩
  · exact wpAny_Name (wpAny_loadName_local I.ok.kind hk hn hm fin) hd
  · rcases hk with hk | hk
    · exact wpAny_Name (wpAny_loadName_cell I.ok.kind hk hc hcell fin) hd
    · exact wpAny_Name (wpAny_loadName_free I.ok.kind hk hc hcell fin hcd) hd
theorem zb1 {i j pos}:PE X (.Constant (.int i) j pos) (tC (.int i)):=λ_ _ _ H _ I h=>wpAny_Constant_int ⟨.int i,H,I.tok _,⟨_,rfl⟩,h⟩
theorem zj5 {b j pos}:PE X (.Constant (.bool b) j pos) (tC (.bl b)):=λ_ _ _ H _ I h=>Constant_bool ⟨.bl b,H,I,rfl,h⟩
theorem yh3 {j pos}:PE X (.Constant .none j pos) (tC .non):=λ_ _ _ H _ I h=>Constant_none ⟨.non,H,I,rfl,h⟩
theorem zg7 {x j pos}:PE X (.Constant (.str x) j pos) (tC (.str x)):=λ_ _ _ H _ I h=>Calls.Constant_str ⟨.str x,H,I.tok _,⟨_,rfl⟩,h⟩
def Gl (X:Cx) (x:Str):Prop:=X.env.kindOf x = some .globalImplicit
theorem zk2 {E:Value->Shared->Prop} {pins:List (Addr × Obj)} {s:Shared} {σ:St} {H:Hp} {x:Str} {u:Value} {pos:Pos} {Q:Value->Shared->Prop} (I:Inv X pins σ H s) (hg:Gl X x) (hm:X.mg x = some u) (h:Q u s)
    (hd:(x == ("__debug__" : Str)) = false:=by decide):wpAny (model X.prog X.w) X.A (eval (.Name x pos) X.env) Q E s:=
  Calls.Name_function_global I.ok.kind hg (Calls.loadGlobal_global (by rw [I.ok.glob]; exact I.mod.glob.keeps I.bk) hm h) hd
theorem zx6 {E:Value->Shared->Prop} {pins:List (Addr × Obj)} {s:Shared} {σ:St} {H:Hp} {x:Str} {u:Value} {pos:Pos} {Q:Value->Shared->Prop} (I:Inv X pins σ H s) (hg:Gl X x) (hm:X.mg x = none) (hv:bootBuiltins x = some u) (h:Q u s)
    (hn:x ≠ "__name__":=by decide) (hd:(x == ("__debug__" : Str)) = false:=by decide):wpAny (model X.prog X.w) X.A (eval (.Name x pos) X.env) Q E s:=by
  obtain ⟨mb,h1,h2⟩:=I.mod.blt
  exact Calls.Name_function_global I.ok.kind hg (Calls.loadGlobal_builtin (by rw [I.ok.glob]; exact I.mod.glob.keeps I.bk) hm (by rw [I.ok.blt]; exact h1.keeps I.bk) ((h2 x hn).trans hv) h) hd
theorem zj3 {x:Str} {v:V} {u:Value} {pos:Pos} (hg:Gl X x) (hm:X.mg x = some u) (r:RelV v u) (hd:(x == ("__debug__" : Str)) = false:=by decide):PE X (.Name x pos) (tC v):=
  λ_ _ _ H _ I h=>zk2 I hg hm ⟨v,H,I,r,h⟩ hd
theorem zw9 {x:Str} {v:V} {u:Value} {pos:Pos} (hg:Gl X x) (hm:X.mg x = none) (hv:bootBuiltins x = some u) (r:RelV v u) (hn:x ≠ "__name__":=by decide) (hd:(x == ("__debug__" : Str)) = false:=by decide):PE X (.Name x pos) (tC v):=
  λ_ _ _ H _ I h=>zx6 I hg hm hv ⟨v,H,I,r,h⟩ hn hd
variable {a b:Expr} {ta tb:TE} {pos:Pos}
def PC (X:Cx) (op:CmpOp) (a b:Expr) (t:TE):Prop:=
  ∀ (pins:List (Addr × Obj)) (s:Shared) (σ:St) (H:Hp) (Q:VK),Inv X pins σ H s->t σ H Q ->
    wpAny (model X.prog X.w) X.A (eval a X.env) (λv s₁=>wpAny (model X.prog X.w) X.A (eval b X.env) (λu s₂=>wpAny (model X.prog X.w) X.A (compareOp op v u) (EP X pins σ Q) X.xe s₂) X.xe s₁) X.xe s
def tB (t:TE):TT:=λσ H Q=>t σ H λx H1=>∃ c,x = .bl c/\Q c H1
theorem xw8 {op:CmpOp} {t:TE} (h:PC X op a b t) (h1:behindInMarks op b = false:=by first | exact nobehind _ (by decide) (by decide) | rfl):PT X (.Compare a [op] [b] pos) (tB t):=by
  intro pins s σ H Q I hw
  refine wpAny_isTrue_Compare1 (thn (h pins s σ H _ I hw) λv s1 h1=>thn h1 λu s2 h2=>thn h2 λc s3 ⟨x,H1,I1,r1,q1⟩=>?_) h1
  obtain ⟨d,rfl,q⟩:=q1
  cases r1
  exact wpAny_truthy_bool ⟨H1,I1,q⟩
theorem zt2 {e:Expr} {t:TE} (h:PE X e t) (he:∀ whole,isTrue e X.env whole = (do let v <- whole; standAt e.pos; holding [v] (truthy v)):=by intro _; rfl):PT X e (tB t):=by
  intro pins s σ H Q I hw
  refine isTrue_plain (thn (h pins s σ H _ I hw) λv s1 ⟨x,H1,I1,r1,q1⟩=>?_) (he _)
  obtain ⟨d,rfl,q⟩:=q1
  cases r1
  exact wpAny_truthy_bool ⟨H1,I1,q⟩
variable {tA tB':TT} {rest:List Expr}
def tAnd (t u:TT):TT:=λσ H Q=>t σ H λc H1=>if c = true then u σ H1 Q else Q false H1
def tOr (t u:TT):TT:=λσ H Q=>t σ H λc H1=>if c = true then Q true H1 else u σ H1 Q
def tNot (t:TT):TT:=λσ H Q=>t σ H λc H1=>Q (!c) H1
theorem yk0 (ha:PT X a tA):PW X (.BoolOp .And [a] pos) tA:=by
  intro wh pins s σ H Q I h
  refine isTrue_and (thn (ha pins s σ H Q I h) λc s1 e=>?_)
  cases c with
  | true=>exact isTrue_and_nil e
  | false=>exact e
theorem xq1 (ha:PT X a tA):PW X (.BoolOp .Or [a] pos) tA:=by
  intro wh pins s σ H Q I h
  refine isTrue_or (thn (ha pins s σ H Q I h) λc s1 e=>?_)
  cases c with
  | false=>exact isTrue_or_nil e
  | true=>exact e
theorem yv7 (ha:PT X a tA) (hb:PW X (.BoolOp .And (b :: rest) pos) tB'):PW X (.BoolOp .And (a :: b :: rest) pos) (tAnd tA tB'):=by
  intro wh pins s σ H Q I h
  refine isTrue_and (thn (ha pins s σ H _ I h) λc s1 ⟨H1,I1,q1⟩=>?_)
  cases c with
  | true=>exact hb wh pins s1 σ H1 Q I1 q1
  | false=>exact ⟨H1,I1,q1⟩
theorem xv1 (ha:PT X a tA) (hb:PW X (.BoolOp .Or (b :: rest) pos) tB'):PW X (.BoolOp .Or (a :: b :: rest) pos) (tOr tA tB'):=by
  intro wh pins s σ H Q I h
  refine isTrue_or (thn (ha pins s σ H _ I h) λc s1 ⟨H1,I1,q1⟩=>?_)
  cases c with
  | true=>exact ⟨H1,I1,q1⟩
  | false=>exact hb wh pins s1 σ H1 Q I1 q1
theorem yn2 (ha:PT X a tA):PT X (.UnaryOp .Not a pos) (tNot tA):=by
  intro pins s σ H Q I h
  exact isTrue_not (ha pins s σ H (λc H1=>Q (!c) H1) I h)
def xu6 (ta tb:TE):TE:=λσ H Q=>ta σ H λx H1=>∃ c,x = .bl c/\if c = true then tb σ H1 Q else Q (.bl false) H1
def xu1 (ta:TE):TE:=λσ H Q=>ta σ H λx H1=>∃ c,x = .bl c/\Q (.bl (!c)) H1
theorem xq5 {op} {t:TE} (h:PE X a t):PE X (.BoolOp op [a] pos) t:=λpins s σ H Q I hw=>BoolOp_one (h pins s σ H Q I hw)
theorem xq8 (ha:PE X a ta) (hb:PE X (.BoolOp .And (b :: rest) pos) tb):PE X (.BoolOp .And (a :: b :: rest) pos) (xu6 ta tb):=by
  intro pins s σ H Q I h
  refine BoolOp_and (thn (ha pins s σ H _ I h) λv s1 ⟨x,H1,I1,r1,q1⟩=>?_)
  obtain ⟨c,rfl,q1⟩:=q1
  cases r1
  refine wpAny_truthy_bool ?_
  cases c with
  | true=>exact hb pins s1 σ H1 Q I1 q1
  | false=>exact ⟨.bl false,H1,I1,rfl,q1⟩
theorem xq6 (ha:PE X a ta):PE X (.UnaryOp .Not a pos) (xu1 ta):=by
  intro pins s σ H Q I h
  refine UnaryOp_ (thn (ha pins s σ H _ I h) λv s1 ⟨x,H1,I1,r1,q1⟩=>?_)
  obtain ⟨c,rfl,q1⟩:=q1
  cases r1
  exact not_of (wpAny_truthy_bool ⟨.bl (!c),H1,I1,rfl,q1⟩)
def tIf (t:TT) (ta tb:TE):TE:=λσ H Q=>t σ H λc H1=>if c = true then ta σ H1 Q else tb σ H1 Q
theorem ye1 {c:Expr} (hc:PT X c tA) (ha:PE X a ta) (hb:PE X b tb):PE X (.IfExp c a b pos) (tIf tA ta tb):=by
  intro pins s σ H Q I h
  refine wpAny_IfExp (thn (hc pins s σ H _ I h) λd s1 ⟨H1,I1,q1⟩=>?_)
  cases d with
  | true=>exact ha pins s1 σ H1 Q I1 q1
  | false=>exact hb pins s1 σ H1 Q I1 q1
end
def SqL (K:W.Frag) (H:Hp) (a:Addr) (xs:List V):Prop:=
  Rd H a (.lst xs) \/
    ∃ (o:Obj) (its:Array Value) (n:Nat),K.lookup a = some o/\o.cls = .type "list"/\o.dict = none/\o.data = .seq its n/\its.size<=sizeLine/\Vals xs its.toList
def SqT (K:W.Frag) (H:Hp) (a:Addr) (xs:List V):Prop:=
  Rd H a (.tup xs) \/
    ∃ (o:Obj) (its:Array Value) (n:Nat),K.lookup a = some o/\o.cls = .type "tuple"/\o.data = .seq its n/\its.size<=sizeLine/\Vals xs its.toList
def absV:Value->Option V
  | .none=>some .non
  | .bool b=>some (.bl b)
  | .int i _=>some (.int i)
  | .str x _=>some (.str x)
  | .bytes b _=>some (.byt b)
  | .float b _=>some (.flt b)
  | .ref a=>some (.ref a)
  | .type n=>some (.ty n)
  | _=>none
theorem RelV.abs {x:V} {u:Value} (r:RelV x u):absV u = some x:=by
  cases x with
  | non=>cases r; rfl
  | bl _=>cases r; rfl
  | int _=>obtain ⟨t,rfl⟩:=r; rfl
  | str _=>obtain ⟨t,rfl⟩:=r; rfl
  | byt _=>obtain ⟨t,rfl⟩:=r; rfl
  | flt _=>obtain ⟨t,rfl⟩:=r; rfl
  | ref _=>cases r; rfl
  | ty _=>cases r; rfl
theorem RelV.inj {x y:V} {u:Value} (r:RelV x u) (q:RelV y u):x = y:=Option.some.inj (r.abs.symm.trans q.abs)
theorem Vals.inj:∀ {xs ys:List V} {us:List Value},Vals xs us->Vals ys us->xs = ys
  | _,_,_,.nil,.nil=>rfl
  | _,_,_,.cons r t,.cons r' t'=>by rw [r.inj r',Vals.inj t t']
section
variable {X:Cx} {pins:List (Addr × Obj)} {σ:St} {H:Hp} {s:Shared} {a:Addr} {xs ys:List V}
theorem SqL.of {K:W.Frag} (h:H a = some (.lst xs)):SqL K H a xs:=.inl (.inl h)
theorem SqT.of {K:W.Frag} (h:H a = some (.tup xs)):SqT K H a xs:=.inl (.inl h)
theorem Inv.list (I:Inv X pins σ H s) (h:SqL X.K H a xs):∃ its:List Value,Vals xs its/\PlainL s.heap a its.toArray/\xs.length<=sizeLine:=by
  rcases h with h | ⟨o,its,n,hk,hc,hd,hs,hz,r⟩
  · obtain ⟨z,its,n,r,e⟩:=h.ok I.hok
    exact ⟨its,r,⟨_,n,e,rfl,rfl,rfl⟩,z⟩
  · refine ⟨its.toList,r,⟨o,n,I.kIn a o hk,hc,hd,by simpa using hs⟩,?_⟩
    have e:=r.length
    simp only [Array.length_toList] at e
    omega
theorem Inv.tuple (I:Inv X pins σ H s) (h:SqT X.K H a xs):∃ its:List Value,Vals xs its/\IsTup s.heap a its.toArray/\xs.length<=sizeLine:=by
  rcases h with h | ⟨o,its,n,hk,hc,hs,hz,r⟩
  · obtain ⟨z,its,r,p⟩:=h.ok I.hok
    exact ⟨its,r,p.tup,z⟩
  · refine ⟨its.toList,r,⟨o,I.kIn a o hk,hc,n,by simpa using hs⟩,?_⟩
    have e:=r.length
    simp only [Array.length_toList] at e
    omega
theorem Inv.list_inj (I:Inv X pins σ H s) (h:SqL X.K H a xs) (h':SqL X.K H a ys):xs = ys:=by
  obtain ⟨its,r,⟨o,n,e,_,_,d⟩,_⟩:=I.list h
  obtain ⟨its',r',⟨o',n',e',_,_,d'⟩,_⟩:=I.list h'
  rw [e] at e'; cases e'
  rw [d] at d'
  injection d' with d1 _
  have:its = its':=by simpa using congrArg Array.toList d1
  subst this
  exact r.inj r'
theorem Inv.tuple_inj (I:Inv X pins σ H s) (h:SqT X.K H a xs) (h':SqT X.K H a ys):xs = ys:=by
  obtain ⟨its,r,⟨o,e,_,n,d⟩,_⟩:=I.tuple h
  obtain ⟨its',r',⟨o',e',_,n',d'⟩,_⟩:=I.tuple h'
  rw [e] at e'; cases e'
  rw [d] at d'
  injection d' with d1 _
  have:its = its':=by simpa using congrArg Array.toList d1
  subst this
  exact r.inj r'
end
abbrev Cx.wish (X:Cx) (E:Value->Shared->Prop):Cx:={ X with xe:=E }
abbrev Cx.nox (X:Cx):Cx:=X.wish λ_ _=>False
theorem Cx.Ok.wish {X:Cx} (ok:X.Ok) (E:Value->Shared->Prop):(X.wish E).Ok:=
  ⟨ok.mod,ok.kind,ok.glob,ok.blt,ok.above,ok.inj,ok.has,ok.cab,ok.hd,ok.frames,ok.stk,ok.exf,ok.bs,ok.bsz,ok.noex,ok.exfs,ok.funs,ok.frf⟩
theorem Cx.Ok.unwish {X:Cx} {E:Value->Shared->Prop} (ok:(X.wish E).Ok):X.Ok:=
  ⟨ok.mod,ok.kind,ok.glob,ok.blt,ok.above,ok.inj,ok.has,ok.cab,ok.hd,ok.frames,ok.stk,ok.exf,ok.bs,ok.bsz,ok.noex,ok.exfs,ok.funs,ok.frf⟩
section
variable {X:Cx} {pins:List (Addr × Obj)} {σ:St} {H:Hp} {s:Shared} {E:Value->Shared->Prop}
theorem Inv.wish (I:Inv X pins σ H s) (E:Value->Shared->Prop):Inv (X.wish E) pins σ H s:=⟨I.ok.wish E,I.os,I.bare,I.base,I.loc,I.cell,I.free,I.freeC,I.pin,I.hok,I.len⟩
theorem Inv.unwish (I:Inv (X.wish E) pins σ H s):Inv X pins σ H s:=⟨I.ok.unwish,I.os,I.bare,I.base,I.loc,I.cell,I.free,I.freeC,I.pin,I.hok,I.len⟩
theorem SP.unwish {D:Ends} {f:Flow} {s':Shared} (h:SP (X.wish E) pins D f s'):SP X pins D f s':=by
  cases f with
  | next=>obtain ⟨σ',H',I,q⟩:=h; exact ⟨σ',H',I.unwish,q⟩
  | brk=>obtain ⟨σ',H',I,q⟩:=h; exact ⟨σ',H',I.unwish,q⟩
  | cont=>obtain ⟨σ',H',I,q⟩:=h; exact ⟨σ',H',I.unwish,q⟩
  | ret u=>obtain ⟨v,σ',H',I,r,q⟩:=h; exact ⟨v,σ',H',I.unwish,r,q⟩
theorem PSs.nox {st:List Stmt} {t:TS} (h:PSs X.nox st t):PSs X st t:=λpins s σ H D I hw=>
  wpAny_mono (h pins s σ H D (I.wish _) hw) (λ_ _ q=>q.unwish) λ_ _ z=>False.elim z
end
section
variable {X:Cx} {st:Stmt} {rest:List Stmt} {t u:TS} {e:Expr} {te:TE} {pos:Pos}
def yc7:TS:=λD σ H=>D.nx σ H
def tSeq (t u:TS):TS:=λD σ H=>t { D with nx:=u D } σ H
theorem zb8:PSs X [] yc7:=λ_ _ σ H _ I h=>wpAny_execs_nil ⟨σ,H,I,h⟩
theorem za3 (h1:PS X st t) (h2:PSs X rest u):PSs X (st :: rest) (tSeq t u):=by
  intro pins s σ H D I h
  refine wpAny_execs_cons (thn (h1 pins s σ H { D with nx:=u D } I h) λf s1 q=>?_)
  cases f with
  | next=>
    obtain ⟨σ',H',I',q⟩:=q
    exact h2 pins s1 σ' H' D I' q
  | ret v=>exact q
  | brk=>exact q
  | cont=>exact q
theorem za4 (h1:PS X st t):PSs X [st] t:=by
  intro pins s σ H D I h
  refine wpAny_execs_cons (thn (h1 pins s σ H D I h) λf s1 q=>?_)
  cases f with
  | next=>exact wpAny_execs_nil q
  | ret v=>exact q
  | brk=>exact q
  | cont=>exact q
theorem Inv.quiet {pins:List (Addr × Obj)} {σ:St} {H:Hp} {s:Shared} (I:Inv X pins σ H s):interactive X.env = false:=by simp [interactive,I.ok.kind]
def xu4 (te:TE):TS:=λD σ H=>te σ H λ_ H1=>D.nx σ H1
theorem zd3 (he:PE X e te) (hs:swapsWith e none pos.line X.env = pure false:=by rfl):PS X (.Expr e pos) (xu4 te):=by
  intro pins s σ H D I h
  exact wpAny_Expr_any (thn (he pins s σ H _ I h) λv s1 ⟨x,H1,I1,r1,q1⟩=>⟨σ,H1,I1,q1⟩) I.quiet hs
def tRet (te:TE):TS:=λD σ H=>te σ H D.rt
theorem zb9 (he:PE X e te):PS X (.Return (some e) pos) (tRet te):=by
  intro pins s σ H D I h
  exact wpAny_Return_some (thn (he pins s σ H _ I h) λv s1 ⟨x,H1,I1,r1,q1⟩=>⟨x,σ,H1,I1,r1,q1⟩)
def tIfS (c:TT) (t u:TS):TS:=λD σ H=>c σ H λb H1=>if b = true then t D σ H1 else u D σ H1
theorem zg5 {c:Expr} {a b:List Stmt} {tc:TT} (hc:PT X c tc) (ha:PSs X a t) (hb:PSs X b u):PS X (.If c a b pos) (tIfS tc t u):=by
  intro pins s σ H D I h
  refine wpAny_If (thn (hc pins s σ H _ I h) λd s1 ⟨H1,I1,q1⟩=>?_)
  cases d with
  | true=>exact ha pins s1 σ H1 D I1 q1
  | false=>exact hb pins s1 σ H1 D I1 q1
def xp3:TS:=λ_ _ _=>False
theorem zi0 {sts:List Stmt}:PSs X sts xp3:=λ_ _ _ _ _ _ h=>h.elim
end
abbrev TG:=V->St->Hp->(St->Hp->Prop)->Prop
abbrev TGs:=List V->St->Hp->(St->Hp->Prop)->Prop
def PG (X:Cx) (target:Expr) (t:TG):Prop:=
  ∀ (pins:List (Addr × Obj)) (s:Shared) (σ:St) (H:Hp) (v:V) (u:Value) (Q:St->Hp->Prop),Inv X pins σ H s->RelV v u->t v σ H Q ->
    wpAny (model X.prog X.w) X.A (assign target X.env u) (λ_ s'=>∃ σ' H',Inv X pins σ' H' s'/\Q σ' H') X.xe s
def PGs (X:Cx) (ts:List Expr) (t:TGs):Prop:=
  ∀ (pins:List (Addr × Obj)) (s:Shared) (σ:St) (H:Hp) (vs:List V) (us:List Value) (Q:St->Hp->Prop),Inv X pins σ H s->Vals vs us->t vs σ H Q ->
    wpAny (model X.prog X.w) X.A (assignInOrder ((assignEach ts X.env).map (·.2)) us) (λ_ s'=>∃ σ' H',Inv X pins σ' H' s'/\Q σ' H') X.xe s
section
variable {X:Cx} {pos:Pos}
def ye9 (i:Nat):TG:=λv σ H Q=>Q (σ.set i (some v)) H
theorem zb2 {i:Nat} {x:Str} (hN:X.N.Nodup) (hi:X.N[i]? = some x) (hx:Loc X.env.scope x) (hf:X.fn x = true\/X.env.scope.names.lookup x = some .local:=by first | exact .inl rfl | exact .inr rfl | assumption):PG X (.Name x pos) (ye9 i):=by
  intro pins s σ H v u Q I r h
  exact wpAny_assign_Name (zi4 I hN hi hx r (λs' I'=>⟨_,H,I',h⟩) hf)
def gNil:TGs:=λvs σ H Q=>vs = []/\Q σ H
def xw5 (t:TG) (u:TGs):TGs:=λvs σ H Q=>∃ v r,vs = v :: r/\t v σ H λσ' H'=>u r σ' H' Q
theorem zg8:PGs X [] gNil:=by
  intro pins s σ H vs us Q I r h
  obtain ⟨e,h⟩:=h
  subst e
  cases r
  exact assignInOrder_nil ⟨σ,H,I,h⟩
theorem zc1 {e:Expr} {es:List Expr} {t:TG} {u:TGs} (h1:PG X e t) (h2:PGs X es u)
    (hs:(assignEach (e :: es) X.env).map (·.2) = assign e X.env :: (assignEach es X.env).map (·.2):=by rfl):PGs X (e :: es) (xw5 t u):=by
  intro pins s σ H vs us Q I r h
  obtain ⟨v,vr,e1,h⟩:=h
  subst e1
  cases r with
  | cons r rr=>
    rw [hs]
    refine assignInOrder_cons (thn (h1 pins s σ H _ _ _ I r h) λ_ s1 ⟨σ1,H1,I1,q1⟩=>?_)
    exact h2 pins s1 σ1 H1 _ _ Q I1 rr q1
def gTup (K:W.Frag) (n:Nat) (t:TGs):TG:=λv σ H Q=>∃ a xs,v = .ref a/\SqT K H a xs/\xs.length = n/\t xs σ H Q
theorem zo9 {es:List Expr} {k:Nat} {t:TGs} {n:Nat} (hc:X.calm = true) (h:PGs X es t)
    (hn:(assignEach es X.env).length = n:=by rfl) (hst:(assignEach es X.env).findIdx? (·.1) = none:=by rfl):PG X (.Tuple es k pos) (gTup X.K n t):=by
  intro pins s σ H v u Q I r hw
  obtain ⟨a,xs,e1,hq,hl,hw⟩:=hw
  subst e1
  cases r
  obtain ⟨its,rv,ht,hz⟩:=I.tuple hq
  refine assign_Tuple_tuple (I.ok.hd hc) ht (by simp [hn,<- hl,rv.length]) hst λh' hx=>?_
  have I1:Inv X pins σ H { s with heap:=h' }:=I.kept (t':=s.toks) λb o e=>hx b o (Nat.ne_of_lt (Heap.lt_size e)) e
  exact h pins _ σ H xs _ Q I1 (by simpa using rv) hw
def tAsg (te:TE) (g:TG):TS:=λD σ H=>te σ H λx H1=>g x σ H1 D.nx
theorem xh7 {tg e:Expr} {te:TE} {g:TG} (he:PE X e te) (hg:PG X tg g) (hs:swapsWithSole [tg] e pos.line X.env = pure false:=by rfl) (hw:swappedStores [tg] e X.env = pure none:=by rfl)
    (h1:(assignEach [tg] X.env).map (·.2) = [assign tg X.env]:=by rfl):PS X (.Assign [tg] e pos) (tAsg te g):=by
  intro pins s σ H D I h
  refine wpAny_Assign_stores (thn (he pins s σ H _ I h) λv s1 ⟨x,H1,I1,r1,q1⟩=>?_) hs hw
  rw [h1]
  exact thn (hg pins s1 σ H1 x v _ I1 r1 q1) λ_ s2 q=>q
theorem zc7 {i:Nat} {x:Str} {e:Expr} {te:TE} {pos':Pos} (hN:X.N.Nodup) (hi:X.N[i]? = some x) (hx:Loc X.env.scope x) (he:PE X e te) (hs:swapsWith e (some (.Name x pos')) pos.line X.env = pure false:=by rfl) (hf:X.fn x = true\/X.env.scope.names.lookup x = some .local:=by first | exact .inl rfl | exact .inr rfl | assumption) :
    PS X (.Assign [.Name x pos'] e pos) (tAsg te (ye9 i)):=by
  intro pins s σ H D I h
  refine wpAny_Assign_Name (thn (he pins s σ H _ I h) λv s1 ⟨y,H1,I1,r1,q1⟩=>?_) hs
  exact zi4 I1 hN hi hx r1 (λs2 I2=>⟨_,H1,I2,q1⟩) hf
def tPar (i j:Nat) (ta:TA):TS:=λD σ H=>ta σ H λvs H1=>∃ v w,vs = [v,w]/\D.nx ((σ.set i (some v)).set j (some w)) H1
theorem xq2 {i j:Nat} {x y:Str} {a b:Expr} {ta:TA} {px py pt:Pos} {kt k2 pt2} (hc:X.calm = true) (hN:X.N.Nodup) (hi:X.N[i]? = some x) (hj:X.N[j]? = some y) (hij:i ≠ j)
    (hx:X.env.scope.names.lookup x = some .local) (hy:X.env.scope.names.lookup y = some .local) (ha:PA X [a,b] ta)
    (hw:swappedStores [.Tuple [.Name x px,.Name y py] kt pt] (.Tuple [a,b] k2 pt2) X.env = pure (some [x,y]))
    (hs:swapsWithSole [.Tuple [.Name x px,.Name y py] kt pt] (.Tuple [a,b] k2 pt2) pos.line X.env = pure false:=by rfl) :
    PS X (.Assign [.Tuple [.Name x px,.Name y py] kt pt] (.Tuple [a,b] k2 pt2) pos) (tPar i j ta):=by
  intro pins s σ H D I h
  rw [exec_Assign_arm]
  refine wpAny_bind (wpAny_standAt ?_)
  rw [hs]
  refine wpAny_bind (wpAny_pure ?_)
  rw [if_neg (by decide)]
  refine wpAny_bind (Tuple_ (thn (ha _ pins s σ H _ I h) λus s1 ⟨vs,H1,I1,r1,q1⟩=>?_))
  obtain ⟨v,w,e1,q1⟩:=q1
  subst e1
  obtain ⟨u1,u2,rfl,rv,rw'⟩:∃ u1 u2,us = [u1,u2]/\RelV v u1/\RelV w u2:=by
    cases r1 with
    | cons p q=>
      cases q with
      | cons p' q'=>
        cases q'
        exact ⟨_,_,rfl,p,p'⟩
  refine wpAny_newObj_type ?_ (by show 2<=sizeLine; decide)
  have I2:Inv X pins σ H1 { s1 with heap:=s1.heap.push { cls:=.type "tuple",data:=.seq [u1,u2].toArray } }:=I1.kept (t':=s1.toks) λb o e=>Heap.get?_push_of_some _ e
  rw [hw]
  refine wpAny_bind (wpAny_pure ?_)
  show wpAny (model X.prog X.w) X.A (do rule "assign.swapped-stores"; let items <- unpackItems (.ref s1.heap.objs.size) 2 none; assignInOrder [λv=>bindName X.env y v,λv=>bindName X.env x v] items.reverse; pure Flow.next) _ _ _
  refine wpAny_bind (wpAny_rule (wpAny_bind (unpackItems_tuple (items:=#[u1,u2]) (I.ok.hd hc) (IsTup.new s1.heap _) λh' hx'=>?_)))
  have I3:=I2.kept (h':=h') (t':=s1.toks) λb o e=>hx' b o (Nat.ne_of_lt (Heap.lt_size e)) e
  show wpAny _ _ (assignInOrder [λv=>bindName X.env y v,λv=>bindName X.env x v] [u2,u1] >>= λ_=>pure Flow.next) _ _ _
  refine wpAny_bind (assignInOrder_cons (wpAny_bindName (zi4 I3 hN hj (.inl hy) rw' (λs2 I4=>?_) (.inr hy))))
  refine assignInOrder_cons (wpAny_bindName (zi4 I4 hN hi (.inl hx) rv (λs3 I5=>assignInOrder_nil (wpAny_pure ?_)) (.inr hx)))
  rw [List.set_comm _ _ (Ne.symm hij)] at I5
  exact ⟨_,H1,I5,q1⟩
end
section
variable {X:Cx} {pos:Pos}
def xp1 (c:TT) (tb:TS):TS:=λD σ H=>∃ W:Nat->St->Hp->Prop,(∃ m,W m σ H)/\∀ m σ H,W m σ H ->
  c σ H λb H1=>if b = true then ∃ N:St->Hp->Prop,(∀ σ' H',N σ' H'->∃ m',m' < m/\W m' σ' H')/\tb { D with nx:=N,ct:=N,bk:=D.nx } σ H1 else D.nx σ H1
theorem xc9 {c:Expr} {body:List Stmt} {tc:TT} {tb:TS} (hp:PassesOwn (model X.prog X.w) X.A X.env X.xe) (hc:PT X c tc) (hb:PSs X body tb):PS X (.While c body [] pos) (xp1 tc tb):=by
  intro pins s σ H D I h
  obtain ⟨W,⟨m0,w0⟩,turn⟩:=h
  refine wpAny_While (codeAny_whileLoop (λn s'=>∃ σ' H',Inv X pins σ' H' s'/\W n σ' H') ?_ m0 ⟨σ,H,I,w0⟩)
  rintro n s1 ⟨σ1,H1,I1,w1⟩
  refine wpAny_passesOwn hp (thn (hc pins s1 σ1 H1 _ I1 (turn n σ1 H1 w1)) λb s2 ⟨H2,I2,q2⟩=>?_)
  cases b with
  | true=>
    obtain ⟨N,hN,q2⟩:=q2
    rw [if_pos rfl]
    refine wpAny_passesOwn hp (thn (hb pins s2 σ1 H2 _ I2 q2) λf s3 q3=>?_)
    cases f with
    | next=>
      obtain ⟨σ3,H3,I3,n3⟩:=q3
      obtain ⟨m',hm,w3⟩:=hN σ3 H3 n3
      exact ⟨m',hm,σ3,H3,I3,w3⟩
    | cont=>
      obtain ⟨σ3,H3,I3,n3⟩:=q3
      obtain ⟨m',hm,w3⟩:=hN σ3 H3 n3
      exact ⟨m',hm,σ3,H3,I3,w3⟩
    | brk=>exact q3
    | ret v=>exact q3
  | false=>
    rw [if_neg Bool.false_ne_true]
    exact wpAny_execs_nil ⟨σ1,H2,I2,q2⟩
end
structure It where
  go:Nat->Hp->Prop
  yld:Nat->Hp->V->Hp->Prop
  stop:Nat->Hp->Prop
def FpOk (X:Cx) (pins:List (Addr × Obj)) (H:Hp) (b:Addr):Prop:=
  H b = none/\b ≠ X.env.locals/\b ∉ X.fs/\(b ∈ X.ex\/X.s₀.heap.objs.size<=b)/\(∀ x c,X.env.cells.lookup x = some c->c ≠ b)/\∀ p ∈ X.pn ++ pins,p.1 ≠ b
theorem Inv.fpOk {X:Cx} {pins:List (Addr × Obj)} {σ:St} {H H':Hp} {s:Shared} {b:Addr} (I:Inv X pins σ H s) (hb:s.heap.objs.size<=b) (hn:H' b = none):FpOk X pins H' b:=by
  refine ⟨hn,Nat.ne_of_gt (Nat.lt_of_lt_of_le I.lt hb),I.nofs hb,.inr (Nat.le_trans I.sz hb),λx c e z=>?_,λp hp z=>?_⟩
  · obtain ⟨v,q⟩:=I.cell x c e
    exact absurd (Nat.lt_of_lt_of_le q.lt (by rw [z]; exact hb)) (Nat.lt_irrefl _)
  · exact absurd (Nat.lt_of_lt_of_le (Heap.lt_size (I.pin p hp).1) (by rw [z]; exact hb)) (Nat.lt_irrefl _)
structure Turn (P:Program) (w:World) (K:W.Frag) (tg:Expr) (J:It) (fp:List Addr) (it:Addr) (tn:Nat->Heap->Prop):Prop where
  mem:it ∈ fp
  obj:∀ i h,tn i h->∀ b ∈ fp,∃ o,h.get? b = some o/\∀ v,o.data ≠ .cell v
  keep:∀ i h h',tn i h->(∀ b ∈ fp,∀ o,h.get? b = some o->h'.get? b = some o)->tn i h'
  item:∀ (X:Cx),X.prog = P->X.w = w->X.K = K->X.calm = true->∀ (i:Nat) (pins:List (Addr × Obj)) (s:Shared) (σ:St) (H:Hp) (E:Value->Shared->Prop),Inv X pins σ H s->(∀ b ∈ fp,FpOk X pins H b)->tn i s.heap->J.go i H ->
    wpAny (model P w) X.A (pyNext (.ref it)) (λr s1=>∃ u,r = some u /\
      wpAny (model P w) X.A (letOwnedTupleGo tg (.ref it) u) (λ_ s2=>∃ x H',Inv X pins σ H' s2/\RelV x u/\J.yld i H x H'/\tn (i + 1) s2.heap/\∀ b ∈ fp,H' b = none) E s1) E s
  done:∀ (X:Cx),X.prog = P->X.w = w->X.K = K->X.calm = true->∀ (i:Nat) (pins:List (Addr × Obj)) (s:Shared) (σ:St) (H:Hp) (E:Value->Shared->Prop),Inv X pins σ H s->(∀ b ∈ fp,FpOk X pins H b)->tn i s.heap->J.stop i H ->
    wpAny (model P w) X.A (pyNext (.ref it)) (λr s1=>r = none/\Inv X pins σ H s1) E s
  self:∀ (A:Around) (i:Nat) (s:Shared) (Q:Value->Shared->Prop) (E:Value->Shared->Prop),tn i s.heap->Q (.ref it) s->wpAny (model P w) A (pyIter (.ref it)) Q E s
abbrev TI:=St->Hp->(It->Hp->Prop)->Prop
def PIE (X:Cx) (pins:List (Addr × Obj)) (σ:St) (tg:Expr) (R:It->Hp->Prop) (itv:Value) (s2:Shared):Prop:=
  ∃ (it:Addr) (fp:List Addr) (tn:Nat->Heap->Prop) (J:It) (H':Hp),itv = .ref it/\Inv X pins σ H' s2/\Turn X.prog X.w X.K tg J fp it tn/\tn 0 s2.heap/\(∀ b ∈ fp,FpOk X pins H' b)/\R J H'
def PI (X:Cx) (tg iter:Expr) (wi:TI):Prop:=
  ∀ (pins:List (Addr × Obj)) (s:Shared) (σ:St) (H:Hp) (R:It->Hp->Prop),Inv X pins σ H s->wi σ H R ->
    wpAny (model X.prog X.w) X.A (eval iter X.env) (λv s1=>wpAny (model X.prog X.w) X.A (pyIter v) (PIE X pins σ tg R) X.xe s1) X.xe s
theorem xn7 {M : Model} {A : Around} {E : Value -> Shared -> Prop} {s : Shared} {tg : Expr} {it : Addr} {u : Value} {o : Obj} {n : String} {vs : Array Value} {Q : Unit -> Shared -> Prop} (ho : s.heap.get? it = some o) (hc : o.cls = .type n) (hd : o.data = .fields vs)
    (hn : ["enumerate", "zip", "dict_itemiterator", "dict_reverseitemiterator", "odict_iterator", "itertools.zip_longest", "itertools.pairwise"].contains n = false) (hQ : Q () s) : wpAny M A (letOwnedTupleGo tg (.ref it) u) Q E s := by
  unfold letOwnedTupleGo
  cases tg <;> first
    | exact wpAny_pure hQ
    | (cases u <;> first
        | exact wpAny_pure hQ
        | (refine wpAny_bind (wpAny_load ho ?_)
           rw [hc, hd]
           show wpAny M A (if (["enumerate", "zip", "dict_itemiterator", "dict_reverseitemiterator", "odict_iterator", "itertools.zip_longest", "itertools.pairwise"].contains n && vs[0]? == some (rawInt _)) = true then _ else _) Q E s
           rw [if_neg (by intro h; rw [hn, Bool.false_and] at h; cases h)]
           exact wpAny_pure hQ))
def Itl (K:W.Frag) (a:Addr):It:=
  ⟨λi H=>∃ xs x,SqL K H a xs/\xs[i]? = some x,λi H x H'=>H' = H/\∀ xs,SqL K H a xs->xs[i]? = some x,λi H=>∃ xs,SqL K H a xs/\xs.length<=i⟩
def Itt (K:W.Frag) (a:Addr):It:=
  ⟨λi H=>∃ xs x,SqT K H a xs/\xs[i]? = some x,λi H x H'=>H' = H/\∀ xs,SqT K H a xs->xs[i]? = some x,λi H=>∃ xs,SqT K H a xs/\xs.length<=i⟩
def Itr (lo:Int) (n:Nat):It:=⟨λi _=>i < n,λi H x H'=>H' = H/\x = .int (lo + i),λi _=>n<=i⟩
theorem yu3 {P:Program} {w:World} {K:W.Frag} {tg:Expr} (a it:Addr):Turn P w K tg (Itl K a) [it] it (λi h=>h.IsListIter it a i) where
  mem:=by simp
  obj:=λi h st b hb=>by
    have e:b = it:=by simpa using hb
    subst e
    obtain ⟨o,e,c,d⟩:=st
    exact ⟨o,e,λv z=>by rw [d] at z; cases z⟩
  keep:=λi h h' st k=>st.at λo e=>k it (by simp) o e
  item:=by
    intro X hP hw hK hc i pins s σ H E I hf st hg
    subst hP hw hK
    obtain ⟨xs,x,hq,hx⟩:=hg
    obtain ⟨its,rv,p,hz⟩:=I.list hq
    obtain ⟨u,hu,ru⟩:=rv.get hx
    obtain ⟨f0,f1,f2,f3,f4,f5⟩:=hf it (by simp)
    refine wpAny_pyNext_list_item st p.isList (x:=u) (by simpa using hu) λh' st' sb=>?_
    have I1:Inv X pins σ H { s with heap:=h' }:=I.turned (t':=s.toks) (λb o hb e=>(sb.2 b hb).trans e) f0 f1 f3 f4 f5
    obtain ⟨o,e,c,d⟩:=id st'
    exact ⟨u,rfl,xn7 (s:={ s with heap:=h' }) e c d (by decide) ⟨x,H,I1,ru,⟨rfl,λys hy=>by rw [I.list_inj hy hq]; exact hx⟩,st',λb hb=>(hf b hb).1⟩⟩
  done:=by
    intro X hP hw hK hc i pins s σ H E I hf st hg
    subst hP hw hK
    obtain ⟨xs,hq,hx⟩:=hg
    obtain ⟨its,rv,p,hz⟩:=I.list hq
    obtain ⟨f0,f1,f2,f3,f4,f5⟩:=hf it (by simp)
    have hl:=rv.length
    exact wpAny_pyNext_list_end (I.ok.hd hc) st p.isList (by simp; omega) λh' eb=>⟨rfl,I.turned (t':=s.toks) (λb o hb e=>eb b o hb e) f0 f1 f3 f4 f5⟩
  self:=λ_ _ _ _ _ st h=>wpAny_pyIter_listiter st h
theorem yp2 {P:Program} {w:World} {K:W.Frag} {tg:Expr} (a it:Addr):Turn P w K tg (Itt K a) [it] it (λi h=>h.IsTupleIter it a i) where
  mem:=by simp
  obj:=λi h st b hb=>by
    have e:b = it:=by simpa using hb
    subst e
    obtain ⟨o,e,c,d⟩:=st
    exact ⟨o,e,λv z=>by rw [d] at z; cases z⟩
  keep:=λi h h' st k=>st.at λo e=>k it (by simp) o e
  item:=by
    intro X hP hw hK hc i pins s σ H E I hf st hg
    subst hP hw hK
    obtain ⟨xs,x,hq,hx⟩:=hg
    obtain ⟨its,rv,p,hz⟩:=I.tuple hq
    obtain ⟨u,hu,ru⟩:=rv.get hx
    obtain ⟨f0,f1,f2,f3,f4,f5⟩:=hf it (by simp)
    refine wpAny_pyNext_tuple_item st (show s.heap.IsTuple a its.toArray from p) (x:=u) (by simpa using hu) λh' st' sb=>?_
    have I1:Inv X pins σ H { s with heap:=h' }:=I.turned (t':=s.toks) (λb o hb e=>(sb.2 b hb).trans e) f0 f1 f3 f4 f5
    obtain ⟨o,e,c,d⟩:=id st'
    exact ⟨u,rfl,xn7 (s:={ s with heap:=h' }) e c d (by decide) ⟨x,H,I1,ru,⟨rfl,λys hy=>by rw [I.tuple_inj hy hq]; exact hx⟩,st',λb hb=>(hf b hb).1⟩⟩
  done:=by
    intro X hP hw hK hc i pins s σ H E I hf st hg
    subst hP hw hK
    obtain ⟨xs,hq,hx⟩:=hg
    obtain ⟨its,rv,p,hz⟩:=I.tuple hq
    obtain ⟨f0,f1,f2,f3,f4,f5⟩:=hf it (by simp)
    have hl:=rv.length
    exact wpAny_pyNext_tuple_end (I.ok.hd hc) st (show s.heap.IsTuple a its.toArray from p) (by simp; omega) λh' eb=>⟨rfl,I.turned (t':=s.toks) (λb o hb e=>eb b o hb e) f0 f1 f3 f4 f5⟩
  self:=λ_ _ _ _ _ st h=>wpAny_pyIter_tupleiter st h
theorem yp3 {P:Program} {w:World} {K:PySem.W.Frag} {tg:Expr} (it:Addr) (lo:Int) (n:Nat):Turn P w K tg (Itr lo n) [it] it (λi h=>IsRangeIter h it (lo + (i:Nat) * 1) ((n:Int) - (i:Nat)) 1) where
  mem:=by simp
  obj:=λi h st b hb=>by
    have e:b = it:=by simpa using hb
    subst e
    exact ⟨_,st,λv z=>by
      have z':Data.fields _ = Data.cell v:=z
      cases z'⟩
  keep:=λi h h' st k=>k it (by simp) _ st
  item:=by
    intro X hP hw hK hc i pins s σ H E I hf st hg
    subst hP hw hK
    obtain ⟨f0,f1,f2,f3,f4,f5⟩:=hf it (by simp)
    have W:=Walks.range (prog:=X.prog) (w:=X.w) (I.ok.hd hc) it lo 1 n
    refine W.item i s _ _ hg st λv h' tk hv st' kk=>?_
    obtain ⟨t,rfl⟩:=hv
    have I1:Inv X pins σ H { s with heap:=h',toks:=tk }:=I.turned (λb o hb e=>kk b o (by simpa using hb) e) f0 f1 f3 f4 f5
    refine ⟨_,rfl,xn7 (s:={ s with heap:=h',toks:=tk }) (n:="range_iterator") st' rfl rfl (by decide) ⟨.int (lo + i),H,I1,⟨t,?_⟩,⟨rfl,rfl⟩,st',λb hb=>(hf b hb).1⟩⟩
    rw [Int.mul_one]
  done:=by
    intro X hP hw hK hc i pins s σ H E I hf st hg
    subst hP hw hK
    obtain ⟨f0,f1,f2,f3,f4,f5⟩:=hf it (by simp)
    exact wpAny_pyNext_range_end (I.ok.hd hc) st (by have:n<=i:=hg; omega) λh' eb=>⟨rfl,I.turned (t':=s.toks) (λb o hb e=>eb b o hb e) f0 f1 f3 f4 f5⟩
  self:=λ_ _ _ _ _ st h=>wpAny_pyIter_rangeiter st h
section
variable {X:Cx} {tg:Expr}
def xw2 (K:W.Frag) (tl:TE):TI:=λσ H R=>tl σ H λx H1=>∃ a,x = .ref a/\(∃ xs,SqL K H1 a xs)/\R (Itl K a) H1
def iTup (K:W.Frag) (tl:TE):TI:=λσ H R=>tl σ H λx H1=>∃ a,x = .ref a/\(∃ xs,SqT K H1 a xs)/\R (Itt K a) H1
theorem ze1 {l:Expr} {tl:TE} (hl:PE X l tl):PI X tg l (xw2 X.K tl):=by
  intro pins s σ H R I h
  refine thn (hl pins s σ H _ I h) λv s1 ⟨x,H1,I1,r1,q1⟩=>?_
  obtain ⟨a,e,⟨xs,hq⟩,q⟩:=q1
  subst e
  cases r1
  obtain ⟨its,rv,p,hz⟩:=I1.list hq
  refine wpAny_pyIter_list p.isList ?_
  refine ⟨s1.heap.objs.size,[s1.heap.objs.size],_,_,H1,rfl,I1.kept (t':=s1.toks) λb o e=>Heap.get?_push_of_some _ e,yu3 a _,⟨_,Heap.get?_push_size _ rfl,rfl,rfl⟩,λb hb=>?_,q⟩
  have e:b = s1.heap.objs.size:=by simpa using hb
  subst e
  exact I1.fpOk (Nat.le_refl _) (I1.hok.fresh (Nat.le_refl _))
theorem zt3 {l:Expr} {tl:TE} (hl:PE X l tl):PI X tg l (iTup X.K tl):=by
  intro pins s σ H R I h
  refine thn (hl pins s σ H _ I h) λv s1 ⟨x,H1,I1,r1,q1⟩=>?_
  obtain ⟨a,e,⟨xs,hq⟩,q⟩:=q1
  subst e
  cases r1
  obtain ⟨its,rv,p,hz⟩:=I1.tuple hq
  refine wpAny_pyIter_tuple (show s1.heap.IsTuple a its.toArray from p) ?_
  refine ⟨s1.heap.objs.size,[s1.heap.objs.size],_,_,H1,rfl,I1.kept (t':=s1.toks) λb o e=>Heap.get?_push_of_some _ e,yp2 a _,⟨_,Heap.get?_push_size _ rfl,rfl,rfl⟩,λb hb=>?_,q⟩
  have e:b = s1.heap.objs.size:=by simpa using hb
  subst e
  exact I1.fpOk (Nat.le_refl _) (I1.hok.fresh (Nat.le_refl _))
theorem xc7 {pins:List (Addr × Obj)} {σ:St} {H:Hp} {s:Shared} {R:It->Hp->Prop} {E:Value->Shared->Prop} {lo hi:Int} {t u v:Tok} {tk:Nat} (I:Inv X pins σ H s) (h1:-(2 ^ 62)<=lo) (h2:lo < 2 ^ 62) (h3:-(2 ^ 62)<=hi) (h4:hi < 2 ^ 62)
    (q:R (Itr lo (hi - lo).toNat) H):wpAny (model X.prog X.w) X.A (pyIter (.ref s.heap.objs.size)) (PIE X pins σ tg R) E { s with heap:=s.heap.push { cls:=.type "range",data:=.fields #[.int lo t,.int hi u,.int 1 v] },toks:=tk }:=by
  refine wpAny_pyIter_range (IsRange.new ..) (small_one h1 h2 h3 h4) ?_
  have I1:Inv X pins σ H { s with heap:=s.heap.push { cls:=.type "range",data:=.fields #[.int lo t,.int hi u,.int 1 v] },toks:=tk }:=I.kept λb o e=>Heap.get?_push_of_some _ e
  refine ⟨(s.heap.push { cls:=.type "range",data:=.fields #[.int lo t,.int hi u,.int 1 v] }).objs.size,[(s.heap.push { cls:=.type "range",data:=.fields #[.int lo t,.int hi u,.int 1 v] }).objs.size],_,_,H,rfl,
    I1.kept (t':=tk) λb o e=>Heap.get?_push_of_some _ e,yp3 _ lo (hi - lo).toNat,?_,λb hb=>?_,q⟩
  · have e1:lo + ((0:Nat):Int) * 1 = lo:=by simp
    have e2:(((hi - lo).toNat:Nat):Int) - ((0:Nat):Int) = Builtin.Range.rangeSize lo hi 1:=by rw [rangeSize_one]; split <;> omega
    show IsRangeIter _ _ (lo + ((0:Nat):Int) * 1) ((((hi - lo).toNat:Nat):Int) - ((0:Nat):Int)) 1
    rw [e1,e2]
    exact Heap.get?_push_size _ rfl
  · have e:b = (s.heap.push { cls:=.type "range",data:=.fields #[.int lo t,.int hi u,.int 1 v] }).objs.size:=by simpa using hb
    subst e
    exact I1.fpOk (Nat.le_refl _) (I1.hok.fresh (Nat.le_refl _))
def xw1 (ta:TA):TI:=λσ H R=>ta σ H λvs H1=>∃ j:Int,vs = [.int j]/\-(2 ^ 62)<=j/\j < 2 ^ 62/\R (Itr 0 j.toNat) H1
theorem zo8 {a:Expr} {ta:TA} {p pos:Pos} (hg:Gl X "range") (hm:X.mg "range" = none) (ha:PA X [a] ta) (hs:starEach [a] X.env = [(false,eval a X.env)]:=by rfl):PI X tg (.Call (.Name "range" p) [a] [] pos) (xw1 ta):=by
  intro pins s σ H R I h
  refine Call_ (zx6 I hg hm boot_range (PyProof.Rows.callWith_type1 (thn (ha pos pins s σ H _ I h) λus s1 ⟨vs,H1,I1,r1,q1⟩=>?_) hs rfl))
  obtain ⟨j,e,q1,q2,q⟩:=q1
  subst e
  cases r1 with
  | cons r rr=>
    cases rr
    obtain ⟨t,rfl⟩:=r
    exact call_range_1 (xc7 I1 (by omega) (by omega) q1 q2 (by simpa using q))
def tFor (wi:TI) (g:TG) (tb:TS):TS:=λD σ H=>wi σ H λJ H1=>∃ W:Nat->Nat->St->Hp->Prop,(∃ m,W 0 m σ H1)/\∀ i m σ H,W i m σ H ->
  (J.stop i H/\D.nx σ H)\/(J.go i H/\∃ N:St->Hp->Prop,(∀ σ' H',N σ' H'->∃ m',m' < m/\W (i + 1) m' σ' H')/\∀ x H',J.yld i H x H'->g x σ H' λσ2 H2=>tb { D with nx:=N,ct:=N,bk:=D.nx } σ2 H2)
def yh1 (fp:List Addr) (h:Heap):List (Addr × Obj):=fp.filterMap λb=>(h.get? b).map λo=>(b,o)
theorem zn3 {fp:List Addr} {h:Heap} {b:Addr} {o:Obj} (hb:b ∈ fp) (e:h.get? b = some o):(b,o) ∈ yh1 fp h:=List.mem_filterMap.mpr ⟨b,hb,by rw [e]; rfl⟩
theorem yy0 {fp:List Addr} {h:Heap} {p:Addr × Obj} (hp:p ∈ yh1 fp h):p.1 ∈ fp/\h.get? p.1 = some p.2:=by
  obtain ⟨b,hb,e⟩:=List.mem_filterMap.mp hp
  cases q:h.get? b with
  | none=>rw [q] at e; cases e
  | some o=>
    rw [q] at e
    have e':(b,o) = p:=Option.some.inj e
    subst e'
    exact ⟨hb,q⟩
theorem Inv.pinned {pins:List (Addr × Obj)} {σ:St} {H:Hp} {s:Shared} {fp:List Addr} (I:Inv X pins σ H s) (hf:∀ b ∈ fp,FpOk X pins H b) (ho:∀ b ∈ fp,∃ o,s.heap.get? b = some o/\∀ v,o.data ≠ .cell v):Inv X (pins ++ yh1 fp s.heap) σ H s:=
  I.pins_of λp hp=>(List.mem_append.mp hp).elim (λz=>I.pin p (List.mem_append_right _ z)) λz=>by
    obtain ⟨hb,e⟩:=yy0 z
    obtain ⟨f0,f1,f2,_⟩:=hf p.1 hb
    obtain ⟨o,e',d⟩:=ho p.1 hb
    rw [e] at e'; cases e'
    exact ⟨e,f0,f1,f2,d⟩
theorem Inv.unpinned {pins pl:List (Addr × Obj)} {σ:St} {H:Hp} {s:Shared} (I:Inv X (pins ++ pl) σ H s):Inv X pins σ H s:=I.pins_of λp hp=>I.pin p (List.mem_append_right _ (List.mem_append_left _ hp))
theorem zi6 {iter:Expr} {body:List Stmt} {wi:TI} {g:TG} {tb:TS} {pos:Pos} (hp:PassesOwn (model X.prog X.w) X.A X.env X.xe) (hc:X.calm = true) (hi:PI X tg iter wi) (hg:PG X tg g) (hb:PSs X body tb)
    (hs:∀ x,foldedSetIterable iter X.env x = pure x:=by intro _; rfl):PS X (.For tg iter body [] pos) (tFor wi g tb):=by
  intro pins s σ H D I h
  refine wpAny_For (thn (hi pins s σ H _ I h) λv s1 h1=>thn h1 λitv s2 h2=>?_) hs
  obtain ⟨it,fp,tn,J,H2,e,I2,T,st2,f2,W,⟨m0,w0⟩,turn⟩:=h2
  subst e
  have stat:∀ {H':Hp},(∀ b ∈ fp,H' b = none)->∀ b ∈ fp,FpOk X pins H' b:=λhn b hb=>⟨hn b hb,(f2 b hb).2⟩
  refine codeAny_forLoop_any (λn s'=>∃ i σ' H',Inv X pins σ' H' s'/\tn i s'.heap/\(∀ b ∈ fp,H' b = none)/\W i n σ' H') ?_ m0 ⟨0,σ,H2,I2,st2,λb hb=>(f2 b hb).1,w0⟩
  rintro n s3 ⟨i,σ3,H3,I3,st3,fr3,w3⟩
  rcases turn i n σ3 H3 w3 with ⟨stop,qn⟩ | ⟨go,N,hN,step⟩
  · refine wpAny_passesOwn hp (thn (T.done X rfl rfl rfl hc i pins s3 σ3 H3 X.xe I3 (stat fr3) st3 stop) λr s4 ⟨hr,I4⟩=>?_)
    subst hr
    exact wpAny_execs_nil ⟨σ3,H3,I4,qn⟩
  · refine wpAny_passesOwn hp (thn (T.item X rfl rfl rfl hc i pins s3 σ3 H3 X.xe I3 (stat fr3) st3 go) λr s4 ⟨u,hr,h4⟩=>?_)
    subst hr
    refine wpAny_passesOwn hp (thn h4 λ_ s5 ⟨x,H5,I5,r5,y5,st5,fr5⟩=>?_)
    have I5':=I5.pinned (stat fr5) (T.obj _ _ st5)
    refine wpAny_passesOwn hp (thn (hg _ s5 σ3 H5 x u _ I5' r5 (step x H5 y5)) λ_ s6 ⟨σ6,H6,I6,q6⟩=>?_)
    refine wpAny_passesOwn hp (thn (hb _ s6 σ6 H6 _ I6 q6) λf s7 q7=>?_)
    have again:∀ {σ7:St} {H7:Hp},Inv X (pins ++ yh1 fp s5.heap) σ7 H7 s7->N σ7 H7->∃ m,m < n/\∃ i σ' H',Inv X pins σ' H' s7/\tn i s7.heap/\(∀ b ∈ fp,H' b = none)/\W i m σ' H':=λ{σ7 H7} I7 n7=>by
      obtain ⟨m',hm,w7⟩:=hN σ7 H7 n7
      refine ⟨m',hm,i + 1,σ7,H7,I7.unpinned,T.keep _ _ _ st5 λb hb o e=>(I7.pin (b,o) (List.mem_append_right _ (List.mem_append_right _ (zn3 hb e)))).1,λb hb=>?_,w7⟩
      obtain ⟨o,e,d⟩:=T.obj _ _ st5 b hb
      exact (I7.pin (b,o) (List.mem_append_right _ (List.mem_append_right _ (zn3 hb e)))).2.1
    cases f with
    | next=>obtain ⟨σ7,H7,I7,n7⟩:=q7; exact again I7 n7
    | cont=>obtain ⟨σ7,H7,I7,n7⟩:=q7; exact again I7 n7
    | brk=>obtain ⟨σ7,H7,I7,q7⟩:=q7; exact ⟨σ7,H7,I7.unpinned,q7⟩
    | ret v=>obtain ⟨x7,σ7,H7,I7,r7,q7⟩:=q7; exact ⟨x7,σ7,H7,I7.unpinned,r7,q7⟩
end
theorem zn5 {K:PySem.W.Frag} {a:Addr} {xs:List V} {g:TG} {tb:TS} {D:Ends} {σ:St} {H:Hp} (Pv:Nat->St->Hp->Prop) (h0:Pv 0 σ H) (hl:∀ i σ H,i<=xs.length->Pv i σ H->SqL K H a xs)
    (hs:∀ i x σ H,xs[i]? = some x->Pv i σ H->g x σ H λσ2 H2=>tb { D with nx:=Pv (i + 1),ct:=Pv (i + 1),bk:=D.nx } σ2 H2) (hd:∀ σ H,Pv xs.length σ H->D.nx σ H) :
    ∃ W:Nat->Nat->St->Hp->Prop,(∃ m,W 0 m σ H)/\∀ i m σ H,W i m σ H ->
      ((Itl K a).stop i H/\D.nx σ H)\/((Itl K a).go i H/\∃ N:St->Hp->Prop,(∀ σ' H',N σ' H'->∃ m',m' < m/\W (i + 1) m' σ' H')/\∀ x H',(Itl K a).yld i H x H'->g x σ H' λσ2 H2=>tb { D with nx:=N,ct:=N,bk:=D.nx } σ2 H2):=by
  refine ⟨λi m σ H=>m = xs.length - i/\i<=xs.length/\Pv i σ H,⟨xs.length,by simp,Nat.zero_le _,h0⟩,?_⟩
  rintro i m σ H ⟨rfl,hi,p⟩
  have q:=hl i σ H hi p
  by_cases hlt:i < xs.length
  · refine .inr ⟨⟨xs,xs[i],q,by simp [hlt]⟩,Pv (i + 1),λσ' H' p'=>⟨xs.length - (i + 1),by omega,rfl,hlt,p'⟩,λx H' y=>?_⟩
    obtain ⟨e,y⟩:=y
    subst e
    exact hs i x σ _ (y xs q) p
  · have e:i = xs.length:=by omega
    subst e
    exact .inl ⟨⟨xs,q,Nat.le_refl _⟩,hd σ H p⟩
theorem yf0 {K:PySem.W.Frag} {a:Addr} {xs:List V} {g:TG} {tb:TS} {D:Ends} {σ:St} {H:Hp} (Pv:Nat->St->Hp->Prop) (h0:Pv 0 σ H) (hl:∀ i σ H,i<=xs.length->Pv i σ H->SqT K H a xs)
    (hs:∀ i x σ H,xs[i]? = some x->Pv i σ H->g x σ H λσ2 H2=>tb { D with nx:=Pv (i + 1),ct:=Pv (i + 1),bk:=D.nx } σ2 H2) (hd:∀ σ H,Pv xs.length σ H->D.nx σ H) :
    ∃ W:Nat->Nat->St->Hp->Prop,(∃ m,W 0 m σ H)/\∀ i m σ H,W i m σ H ->
      ((Itt K a).stop i H/\D.nx σ H)\/((Itt K a).go i H/\∃ N:St->Hp->Prop,(∀ σ' H',N σ' H'->∃ m',m' < m/\W (i + 1) m' σ' H')/\∀ x H',(Itt K a).yld i H x H'->g x σ H' λσ2 H2=>tb { D with nx:=N,ct:=N,bk:=D.nx } σ2 H2):=by
  refine ⟨λi m σ H=>m = xs.length - i/\i<=xs.length/\Pv i σ H,⟨xs.length,by simp,Nat.zero_le _,h0⟩,?_⟩
  rintro i m σ H ⟨rfl,hi,p⟩
  have q:=hl i σ H hi p
  by_cases hlt:i < xs.length
  · refine .inr ⟨⟨xs,xs[i],q,by simp [hlt]⟩,Pv (i + 1),λσ' H' p'=>⟨xs.length - (i + 1),by omega,rfl,hlt,p'⟩,λx H' y=>?_⟩
    obtain ⟨e,y⟩:=y
    subst e
    exact hs i x σ _ (y xs q) p
  · have e:i = xs.length:=by omega
    subst e
    exact .inl ⟨⟨xs,q,Nat.le_refl _⟩,hd σ H p⟩
theorem yi5 {lo:Int} {n:Nat} {g:TG} {tb:TS} {D:Ends} {σ:St} {H:Hp} (Pv:Nat->St->Hp->Prop) (h0:Pv 0 σ H)
    (hs:∀ i σ H,i < n->Pv i σ H->g (.int (lo + i)) σ H λσ2 H2=>tb { D with nx:=Pv (i + 1),ct:=Pv (i + 1),bk:=D.nx } σ2 H2) (hd:∀ σ H,Pv n σ H->D.nx σ H) :
    ∃ W:Nat->Nat->St->Hp->Prop,(∃ m,W 0 m σ H)/\∀ i m σ H,W i m σ H ->
      ((Itr lo n).stop i H/\D.nx σ H)\/((Itr lo n).go i H/\∃ N:St->Hp->Prop,(∀ σ' H',N σ' H'->∃ m',m' < m/\W (i + 1) m' σ' H')/\∀ x H',(Itr lo n).yld i H x H'->g x σ H' λσ2 H2=>tb { D with nx:=N,ct:=N,bk:=D.nx } σ2 H2):=by
  refine ⟨λi m σ H=>m = n - i/\i<=n/\Pv i σ H,⟨n,by simp,Nat.zero_le _,h0⟩,?_⟩
  rintro i m σ H ⟨rfl,hi,p⟩
  by_cases hlt:i < n
  · refine .inr ⟨hlt,Pv (i + 1),λσ' H' p'=>⟨n - (i + 1),by omega,rfl,hlt,p'⟩,λx H' y=>?_⟩
    obtain ⟨e,y⟩:=y
    subst e y
    exact hs i σ _ hlt p
  · have e:i = n:=by omega
    subst e
    exact .inl ⟨Nat.le_refl _,hd σ H p⟩
abbrev R2:=V->V->Hp->VK->Prop
def OpR (X:Cx) (f:Value->Value->Sem Value) (r:R2):Prop:=
  ∀ (pins:List (Addr × Obj)) (s:Shared) (σ:St) (H:Hp) (x y:V) (v u:Value) (Q:VK),Inv X pins σ H s->RelV x v->RelV y u->r x y H Q ->
    wpAny (model X.prog X.w) X.A (f v u) (EP X pins σ Q) X.xe s
def zn0 (X:Cx) (f:Value) (r:List V->Hp->VK->Prop):Prop:=
  ∀ (pins:List (Addr × Obj)) (s:Shared) (σ:St) (H:Hp) (xs:List V) (us:List Value) (Q:VK),Inv X pins σ H s->Vals xs us->r xs H Q ->
    wpAny (model X.prog X.w) X.A (call f us) (EP X pins σ Q) X.xe s
def TruR (X:Cx) (r:V->Hp->(Bool->Hp->Prop)->Prop):Prop:=
  ∀ (pins:List (Addr × Obj)) (s:Shared) (σ:St) (H:Hp) (x:V) (v:Value) (Q:Bool->Hp->Prop),Inv X pins σ H s->RelV x v->r x H Q ->
    wpAny (model X.prog X.w) X.A (truthy v) (TP X pins σ Q) X.xe s
def tOp (r:R2) (ta tb:TE):TE:=λσ H Q=>ta σ H λx H1=>tb σ H1 λy H2=>r x y H2 Q
def rI (C:Int->Int->Prop) (g:Int->Int->V):R2:=λx y H Q=>∃ i j,x = .int i/\y = .int j/\C i j/\Q (g i j) H
def rI0 (g:Int->Int->V):R2:=λx y H Q=>∃ i j,x = .int i/\y = .int j/\Q (g i j) H
section
variable {X:Cx} {a b c:Expr} {ta tb tc:TE} {pos:Pos}
theorem binT (ha:PE X a ta) (hb:PE X b tb) {pins:List (Addr × Obj)} {s:Shared} {σ:St} {H:Hp} {R:V->V->Hp->Prop} (I:Inv X pins σ H s)
    (h:ta σ H λx H1=>tb σ H1 λy H2=>R x y H2) {Q:Value->Shared->Prop} {f:Value->Value->Sem Value}
    (hf:∀ v u s2 x y H2,Inv X pins σ H2 s2->RelV x v->RelV y u->R x y H2->wpAny (model X.prog X.w) X.A (f v u) Q X.xe s2) :
    wpAny (model X.prog X.w) X.A (eval a X.env) (λv s₁=>wpAny (model X.prog X.w) X.A (eval b X.env) (λu s₂=>wpAny (model X.prog X.w) X.A (f v u) Q X.xe s₂) X.xe s₁) X.xe s:=by
  refine thn (ha pins s σ H _ I h) λv s1 ⟨x,H1,I1,r1,q1⟩=>?_
  refine thn (hb pins s1 σ H1 _ I1 q1) λu s2 ⟨y,H2,I2,r2,q2⟩=>?_
  exact hf v u s2 x y H2 I2 r1 r2 q2
theorem zc9 {op:Operator} {r:R2} (ho:OpR X (binaryOp op) r) (ha:PE X a ta) (hb:PE X b tb):PE X (.BinOp a op b pos) (tOp r ta tb):=by
  intro pins s σ H Q I h
  exact wpAny_BinOp (binT ha hb I h λv u s2 x y H2 I2 rx ry q=>ho pins s2 σ H2 x y v u Q I2 rx ry q)
theorem opI {f:Value->Value->Sem Value} {C:Int->Int->Prop} {g:Int->Int->Int}
    (rule:∀ (i j:Int) (t u:Tok) (s:Shared) (Q:Value->Shared->Prop) (E:Value->Shared->Prop),C i j->Q (.int (g i j) s.toks) { s with toks:=s.toks + 1 }->wpAny (model X.prog X.w) X.A (f (.int i t) (.int j u)) Q E s) :
    OpR X f (rI C λi j=>.int (g i j)):=by
  intro pins s σ H x y v u Q I rx ry h
  obtain ⟨i,j,rfl,rfl,hc,q⟩:=h
  obtain ⟨t,rfl⟩:=rx
  obtain ⟨t',rfl⟩:=ry
  exact rule i j t t' s _ _ hc ⟨.int (g i j),H,I.tok _,⟨_,rfl⟩,q⟩
theorem opI0 {f:Value->Value->Sem Value} {g:Int->Int->Int}
    (rule:∀ (i j:Int) (t u:Tok) (s:Shared) (Q:Value->Shared->Prop) (E:Value->Shared->Prop),Q (.int (g i j) s.toks) { s with toks:=s.toks + 1 }->wpAny (model X.prog X.w) X.A (f (.int i t) (.int j u)) Q E s) :
    OpR X f (rI0 λi j=>.int (g i j)):=by
  intro pins s σ H x y v u Q I rx ry h
  obtain ⟨i,j,rfl,rfl,q⟩:=h
  obtain ⟨t,rfl⟩:=rx
  obtain ⟨t',rfl⟩:=ry
  exact rule i j t t' s _ _ ⟨.int (g i j),H,I.tok _,⟨_,rfl⟩,q⟩
theorem opB0 {f:Value->Value->Sem Value} {g:Int->Int->Bool}
    (rule:∀ (i j:Int) (t u:Tok) (s:Shared) (Q:Value->Shared->Prop) (E:Value->Shared->Prop),Q (.bool (g i j)) s->wpAny (model X.prog X.w) X.A (f (.int i t) (.int j u)) Q E s) :
    OpR X f (rI0 λi j=>.bl (g i j)):=by
  intro pins s σ H x y v u Q I rx ry h
  obtain ⟨i,j,rfl,rfl,q⟩:=h
  obtain ⟨t,rfl⟩:=rx
  obtain ⟨t',rfl⟩:=ry
  exact rule i j t t' s _ _ ⟨.bl (g i j),H,I,rfl,q⟩
def CDiv (i j:Int):Prop:=0 < j/\j < 1073741824
def CPow (i j:Int):Prop:=0<=j/\j<=1000000/\i.natAbs < 2 ^ 64
def CMul (i j:Int):Prop:=(-(2 ^ 64) < i/\i < 2 ^ 64)\/(-(2 ^ 64) < j/\j < 2 ^ 64)
theorem CMul.ok {i j:Int} (h:CMul i j):IntMulOk i j:=by
  rcases h with ⟨h1,h2⟩ | ⟨h1,h2⟩
  · exact .of_left (intBits_le_64 h1 h2)
  · exact .of_right (intBits_le_64 h1 h2)
theorem yh7:OpR X (binaryOp .Add) (rI0 λi j=>.int (i + j)):=opI0 λ_ _ _ _ _ _ _ q=>add_int q
theorem yw4:OpR X (binaryOp .Mult) (rI CMul λi j=>.int (i * j)):=opI λ_ _ _ _ _ _ _ hc q=>mul_int q hc.ok
theorem zh3:OpR X (binaryOp .FloorDiv) (rI CDiv λi j=>.int (i / j)):=opI λi j _ _ _ _ _ hc q=>by
  have h1:(0:Int) < j:=hc.1
  have h2:j < 1073741824:=hc.2
  exact floordiv_int (by omega) (by rw [Int.fdiv_eq_ediv_of_nonneg i (by omega)]; exact q) (.inl (PyProof.noPylong_small (by omega)))
theorem zg9:OpR X (binaryOp .Mod) (rI (λ_ j=>0 < j) λi j=>.int (i % j)):=opI λi j _ _ _ _ _ hc q=>by
  have h1:(0:Int) < j:=hc
  exact mod_int' (by omega) (by rw [Int.fmod_eq_emod_of_nonneg i (by omega)]; exact q)
theorem xq9:OpR X (binaryOp .Pow) (rI CPow λi j=>.int (i ^ j.toNat)):=opI λ_ _ _ _ _ _ _ hc q=>pow_int_small hc.1 hc.2.1 hc.2.2 q
end
def scal:V->V->Bool
  | .non,.non=>true | .non,.int _=>true | .int _,.non=>true | .non,.bl _=>true | .bl _,.non=>true | .non,.str _=>true | .str _,.non=>true
  | .int _,.int _=>true | .bl _,.bl _=>true | .str _,.str _=>true | .byt _,.byt _=>true
  | .int _,.str _=>true | .str _,.int _=>true | .bl _,.str _=>true | .str _,.bl _=>true
  | _,_=>false
def rEq:R2:=λx y H Q=>scal x y = true/\Q (.bl (decide (x = y))) H
def rNe:R2:=λx y H Q=>scal x y = true/\Q (.bl (!decide (x = y))) H
theorem ze6 {i j:Int}:decide (V.int i = V.int j) = (i == j):=by
  rw [Bool.eq_iff_iff]
  simp
theorem xi6 {i j:Bool}:decide (V.bl i = V.bl j) = (i == j):=by
  rw [Bool.eq_iff_iff]
  simp
theorem xb0 {i j:Str}:decide (V.str i = V.str j) = (i == j):=by
  rw [Bool.eq_iff_iff]
  simp
theorem xb1 {i j:Array UInt8}:decide (V.byt i = V.byt j) = (i.toList == j.toList):=by
  rw [Bool.eq_iff_iff]
  cases i
  cases j
  simp
section
variable {X:Cx} {a b c:Expr} {ta tb tc:TE} {pos:Pos}
theorem zd1 {pins:List (Addr × Obj)} {σ:St} {H:Hp} {s:Shared} {Q:VK} {k k':Bool} (I:Inv X pins σ H s) (q:Q (.bl k) H) (e:k = k'):EP X pins σ Q (.bool k') s:=by
  subst e
  exact ⟨.bl k,H,I,rfl,q⟩
theorem zp2:OpR X (compareOp .Eq) rEq:=by
  intro pins s σ H x y v u Q I rx ry h
  obtain ⟨hs,q⟩:=h
  cases x with
  | non=>
    cases rx
    cases y with
    | non=>cases ry; exact PySem.EqNone.eq_none_none (zd1 I q (by simp))
    | bl j=>cases ry; exact PySem.EqNone.eq_none_bool (zd1 I q (by simp))
    | int j=>obtain ⟨t',rfl⟩:=ry; exact PySem.EqNone.eq_none_int (zd1 I q (by simp))
    | str j=>obtain ⟨t',rfl⟩:=ry; exact PySem.EqNone.eq_none_str (zd1 I q (by simp))
    | _=>exact absurd (show false = true from hs) Bool.false_ne_true
  | bl i=>
    cases rx
    cases y with
    | non=>cases ry; exact PySem.EqNone.eq_bool_none (zd1 I q (by simp))
    | bl j=>cases ry; exact eq_bool (zd1 I q xi6)
    | str j=>obtain ⟨t',rfl⟩:=ry; exact PySem.EqMixed.eq_bool_str (zd1 I q (by simp))
    | _=>exact absurd (show false = true from hs) Bool.false_ne_true
  | int i=>
    obtain ⟨t,rfl⟩:=rx
    cases y with
    | non=>cases ry; exact PySem.EqNone.eq_int_none (zd1 I q (by simp))
    | int j=>obtain ⟨t',rfl⟩:=ry; exact eq_int (zd1 I q ze6)
    | str j=>obtain ⟨t',rfl⟩:=ry; exact PySem.EqMixed.eq_int_str (zd1 I q (by simp))
    | _=>exact absurd (show false = true from hs) Bool.false_ne_true
  | str i=>
    obtain ⟨t,rfl⟩:=rx
    cases y with
    | non=>cases ry; exact PySem.EqNone.eq_str_none (zd1 I q (by simp))
    | bl j=>cases ry; exact PySem.EqMixed.eq_str_bool (zd1 I q (by simp))
    | int j=>obtain ⟨t',rfl⟩:=ry; exact PySem.EqMixed.eq_str_int (zd1 I q (by simp))
    | str j=>obtain ⟨t',rfl⟩:=ry; exact eq_str (zd1 I q xb0)
    | _=>exact absurd (show false = true from hs) Bool.false_ne_true
  | byt i=>
    obtain ⟨t,rfl⟩:=rx
    cases y with
    | byt j=>obtain ⟨t',rfl⟩:=ry; exact W.eq_bytes (zd1 I q xb1)
    | _=>exact absurd (show false = true from hs) Bool.false_ne_true
  | _=>cases y <;> exact absurd (show false = true from hs) Bool.false_ne_true
theorem xr1:OpR X (compareOp .NotEq) rNe:=by
  intro pins s σ H x y v u Q I rx ry h
  obtain ⟨hs,q⟩:=h
  cases x with
  | non=>
    cases rx
    cases y with
    | non=>cases ry; exact PySem.EqNone.ne_none_none (zd1 I q (by simp))
    | bl j=>cases ry; exact PySem.EqNone.ne_none_bool (zd1 I q (by simp))
    | int j=>obtain ⟨t',rfl⟩:=ry; exact PySem.EqNone.ne_none_int (zd1 I q (by simp))
    | str j=>obtain ⟨t',rfl⟩:=ry; exact PySem.EqNone.ne_none_str (zd1 I q (by simp))
    | _=>exact absurd (show false = true from hs) Bool.false_ne_true
  | bl i=>
    cases rx
    cases y with
    | non=>cases ry; exact PySem.EqNone.ne_bool_none (zd1 I q (by simp))
    | bl j=>cases ry; exact ne_bool (zd1 I q (congrArg not xi6))
    | str j=>obtain ⟨t',rfl⟩:=ry; exact PySem.EqMixed.ne_bool_str (zd1 I q (by simp))
    | _=>exact absurd (show false = true from hs) Bool.false_ne_true
  | int i=>
    obtain ⟨t,rfl⟩:=rx
    cases y with
    | non=>cases ry; exact PySem.EqNone.ne_int_none (zd1 I q (by simp))
    | int j=>obtain ⟨t',rfl⟩:=ry; exact ne_int (zd1 I q (congrArg not ze6))
    | str j=>obtain ⟨t',rfl⟩:=ry; exact PySem.EqMixed.ne_int_str (zd1 I q (by simp))
    | _=>exact absurd (show false = true from hs) Bool.false_ne_true
  | str i=>
    obtain ⟨t,rfl⟩:=rx
    cases y with
    | non=>cases ry; exact PySem.EqNone.ne_str_none (zd1 I q (by simp))
    | bl j=>cases ry; exact PySem.EqMixed.ne_str_bool (zd1 I q (by simp))
    | int j=>obtain ⟨t',rfl⟩:=ry; exact PySem.EqMixed.ne_str_int (zd1 I q (by simp))
    | str j=>obtain ⟨t',rfl⟩:=ry; exact ne_str (zd1 I q (congrArg not xb0))
    | _=>exact absurd (show false = true from hs) Bool.false_ne_true
  | byt i=>
    obtain ⟨t,rfl⟩:=rx
    cases y with
    | byt j=>obtain ⟨t',rfl⟩:=ry; exact W.ne_bytes (zd1 I q (congrArg not xb1))
    | _=>exact absurd (show false = true from hs) Bool.false_ne_true
  | _=>cases y <;> exact absurd (show false = true from hs) Bool.false_ne_true
theorem xv2:OpR X (compareOp .Lt) (rI0 λi j=>.bl (decide (i < j))):=opB0 λ_ _ _ _ _ _ _ q=>lt_int q
theorem yw6:OpR X (compareOp .Gt) (rI0 λi j=>.bl (decide (j < i))):=opB0 λ_ _ _ _ _ _ _ q=>gt_int q
theorem yw5 : OpR X (compareOp .Is) (fun x y H Q => y = .non /\ Q (.bl (decide (x = .non))) H) := by
  intro pins s σ H x y v u Q I rx ry h
  obtain ⟨rfl, q⟩ := h
  cases ry
  refine is_none_gen (zd1 I q ?_)
  cases x <;> first
    | (cases rx; rfl)
    | (obtain ⟨t, rfl⟩ := rx; rfl)
theorem xl2 : OpR X (compareOp .IsNot) (fun x y H Q => y = .non /\ Q (.bl (!decide (x = .non))) H) := by
  intro pins s σ H x y v u Q I rx ry h
  obtain ⟨rfl, q⟩ := h
  cases ry
  refine isnot_none_gen (zd1 I q ?_)
  cases x <;> first
    | (cases rx; rfl)
    | (obtain ⟨t, rfl⟩ := rx; rfl)
theorem zd0 (b:Expr) {op:CmpOp} (h:op ≠ .In:=by decide) (h2:op ≠ .NotIn:=by decide):behindInMarks op b = false:=by
  have e1:(op == CmpOp.In) = false:=by cases op <;> first | rfl | exact absurd rfl h
  have e2:(op == CmpOp.NotIn) = false:=by cases op <;> first | rfl | exact absurd rfl h2
  cases b <;> simp [behindInMarks,e1,e2]
theorem yk3 {op:CmpOp} {r:R2} (ho:OpR X (compareOp op) r) (ha:PE X a ta) (hb:PE X b tb) (hm:behindInMarks op b = false):PE X (.Compare a [op] [b] pos) (tOp r ta tb):=by
  intro pins s σ H Q I h
  exact wpAny_Compare1 (binT ha hb I h λv u s2 x y H2 I2 rx ry q=>ho pins s2 σ H2 x y v u Q I2 rx ry q) hm
def xc2 (t:TE):TT:=λσ H Q=>t σ H λx H'=>∃ k,x = .bl k/\Q k H'
theorem zb7 {op:CmpOp} {r:R2} (ho:OpR X (compareOp op) r) (ha:PE X a ta) (hb:PE X b tb) (hm:behindInMarks op b = false):PT X (.Compare a [op] [b] pos) (xc2 (tOp r ta tb)):=by
  intro pins s σ H Q I h
  refine wpAny_isTrue_Compare1 (thn (ha pins s σ H _ I h) λv s1 ⟨x,H1,I1,r1,q1⟩=>thn (hb pins s1 σ H1 _ I1 q1) λu s2 ⟨y,H2,I2,r2,q2⟩=>
    thn (ho pins s2 σ H2 x y v u _ I2 r1 r2 q2) λc s3 ⟨z,H3,I3,r3,k,e,q3⟩=>?_) hm
  subst e
  cases r3
  exact wpAny_truthy_bool ⟨H3,I3,q3⟩
def TruV (K:W.Frag) (x:V) (H:Hp) (k:Bool):Prop:=
  match x with
  | .non=>k = false
  | .bl b=>k = b
  | .int i=>k = (i != 0)
  | .str y=>y.length<=sizeLine/\k = ((y.length:Int) != 0)
  | .byt y=>y.size<=sizeLine/\k = ((y.size:Int) != 0)
  | .ref p=>(∃ xs,SqL K H p xs/\k = !xs.isEmpty)\/(∃ xs,SqT K H p xs/\k = !xs.isEmpty)\/∃ kvs,H p = some (.dK kvs)/\k = !kvs.isEmpty
  | _=>False
theorem ys2 {κ:Type} {kvs:List (κ × V)} {vs:List (κ × Value)} (r:KV kvs vs):(!vs.isEmpty) = !kvs.isEmpty:=by
  cases r <;> rfl
theorem yc2 {xs:List V} {its:List Value} (r:Vals xs its):(!its.toArray.isEmpty) = !xs.isEmpty:=by
  cases r <;> simp
theorem yh9:(sizeLine:Nat) < 2 ^ 63:=by rw [sizeLine_eq]; decide
theorem xp0:TruR X (λx H Q=>∃ k,TruV X.K x H k/\Q k H):=by
  intro pins s σ H x v Q I rx h
  obtain ⟨k,e,q⟩:=h
  have hl:=yh9
  have hs:sizeLine = 16777216:=sizeLine_eq
  cases x with
  | non=>
    cases rx
    have e':k = false:=e
    subst e'
    exact truthy_none ⟨H,I,q⟩
  | bl b=>
    cases rx
    have e':k = b:=e
    subst e'
    exact wpAny_truthy_bool ⟨H,I,q⟩
  | int i=>
    obtain ⟨t,rfl⟩:=rx
    have e':k = (i != 0):=e
    subst e'
    exact PySem.P.truthy_int ⟨H,I,q⟩
  | str y=>
    obtain ⟨t,rfl⟩:=rx
    obtain ⟨hy,e'⟩:y.length<=sizeLine/\k = ((y.length:Int) != 0):=e
    subst e'
    exact PySem.P.truthy_str (by omega) ⟨H,I.tok _,q⟩
  | byt y=>
    obtain ⟨t,rfl⟩:=rx
    obtain ⟨hy,e'⟩:y.size<=sizeLine/\k = ((y.size:Int) != 0):=e
    subst e'
    exact W.truthy_bytes (by omega) ⟨H,I.tok _,q⟩
  | ref p=>
    cases rx
    have e':(∃ xs,SqL X.K H p xs/\k = !xs.isEmpty)\/(∃ xs,SqT X.K H p xs/\k = !xs.isEmpty)\/∃ kvs,H p = some (.dK kvs)/\k = !kvs.isEmpty:=e
    rcases e' with ⟨xs,hx,e'⟩ | ⟨xs,hx,e'⟩ | ⟨kvs,hx,e'⟩
    · subst e'
      obtain ⟨its,r,pl,hz⟩:=I.list hx
      have hlen:=r.length
      exact wpAny_truthy_list pl.isList (by simp only [List.size_toArray]; omega) ⟨H,I.tok _,by rw [yc2 r]; exact q⟩
    · subst e'
      obtain ⟨its,r,pl,hz⟩:=I.tuple hx
      have hlen:=r.length
      exact truthy_tuple pl (by simp only [List.size_toArray]; omega) ⟨H,I.tok _,by rw [yc2 r]; exact q⟩
    · subst e'
      obtain ⟨hz,hS,vs,r,m⟩:kvs.length<=sizeLine/\(p == sysModules) = false/\∃ vs,KV kvs vs/\s.heap.DictOf (zd5 X.prog X.w) p vs:=I.hok p _ hx
      have hlen:kvs.length = vs.length:=Paired.length r
      exact wpAny_truthy_dict hS m (by omega) ⟨H,I.tok _,by rw [ys2 r]; exact q⟩
  | _=>exact (show False from e).elim
theorem yd8 (ha:PE X a ta) (he:∀ whole,isTrue a X.env whole = (do let v <- whole; standAt a.pos; holding [v] (truthy v))) :
    PT X a (λσ H Q=>ta σ H λx H'=>∃ k,TruV X.K x H' k/\Q k H'):=by
  intro pins s σ H Q I h
  exact isTrue_plain (thn (ha pins s σ H _ I h) λv s1 ⟨x,H1,I1,r1,q1⟩=>xp0 pins s1 σ H1 x v Q I1 r1 q1) (he _)
theorem yr1:OpR X (binaryOp .Add) (λx y H Q=>∃ i j,x = .str i/\y = .str j/\i.length + j.length<=sizeLine/\Q (.str (i ++ j)) H):=by
  intro pins s σ H x y v u Q I rx ry h
  obtain ⟨i,j,rfl,rfl,hz,q⟩:=h
  obtain ⟨t,rfl⟩:=rx
  obtain ⟨t',rfl⟩:=ry
  exact add_str (λt' tk=>⟨.str (i ++ j),H,I.tok _,⟨_,rfl⟩,q⟩) hz
theorem zt6 {x:V} {us:List Value} (r:Vals [x] us):∃ u,us = [u]/\RelV x u:=by
  cases r with
  | cons r1 r2=>cases r2; exact ⟨_,rfl,r1⟩
theorem xc0 {x y:V} {us:List Value} (r:Vals [x,y] us):∃ u w',us = [u,w']/\RelV x u/\RelV y w':=by
  cases r with
  | cons r1 r2=>
    cases r2 with
    | cons r3 r4=>cases r4; exact ⟨_,_,rfl,r1,r3⟩
end
structure ObjM (h:Heap) (x dx C:Addr) (mA:Str->Option Value):Prop where
  obj:h.get? x = some (W.instObj C dx)
  ns:h.Ns1 dx mA
  ne:dx ≠ x
theorem yh8 {h:Heap} {dx:Addr} {mA:Str->Option Value} (n:h.Ns1 dx mA):∃ od,h.get? dx = some od/\∀ name,W.lookIn name od = some (mA name):=by
  obtain ⟨o,es,ep,ho,hd,hk,_,hm⟩:=n
  refine ⟨o,ho,λname=>?_⟩
  have e:=hm name
  unfold nsFind findBy at e
  rw [<- Array.find?_toList] at e
  unfold W.lookIn
  rw [hd]
  dsimp only
  split
  · rename_i y q
    rw [q] at e
    exact congrArg some e
  · rename_i q
    rw [q] at e
    have a:es.toList.any (·.refKey) = false:=by
      rw [List.any_eq_false]
      intro y hy
      obtain ⟨z,t,hkey⟩:=hk y (Array.mem_toList_iff.mp hy)
      simp [DictEntry.refKey,hkey]
    have a':¬ es.toList.any (·.refKey) = true:=by rw [a]; exact Bool.false_ne_true
    rw [if_neg a']
    exact congrArg some e
theorem ObjM.look {h:Heap} {x dx C:Addr} {mA:Str->Option Value} (I:ObjM h x dx C mA):∃ od,W.InstAt h x (W.instObj C dx) C (some od)/\∀ name,W.lookIn name od = some (mA name):=
  let ⟨od,ho,hl⟩:=yh8 I.ns
  ⟨od,⟨I.obj,rfl,rfl,ho⟩,hl⟩
section
variable {prog:Program} {w:World} {A:Around} {E:Value->Shared->Prop} {s:Shared} {K:W.Frag} {x dx C f:Addr} {mA:Str->Option Value} {name:Str} {v:Value}
theorem xn8 {expr:Bool} {Q:Value->Shared->Prop} (X:K.In s.heap) (I:ObjM s.heap x dx C mA) (hg:W.plainGet K C name = true) (hh:W.hasDictIn K C = true)
    (ha:W.findIn K (.ref C) name = some none) (hv:mA name = some v) (hv':W.handedIn v = true) (h:Q v { s with toks:=s.toks + 1 }) :
    wpAny (model prog w) A (getAttr (.ref x) name expr) Q E s:=by
  obtain ⟨od,J,hl⟩:=I.look
  exact W.get_value X J (W.plainGet_of hg).1 (W.findObj_own hh ha rfl (by rw [hl,hv])) hv' h
theorem xg3 {pl:Sem Bool} {Q:Value × List Value->Shared->Prop} (X:K.In s.heap) (I:ObjM s.heap x dx C mA) (hg:W.plainGet K C name = true)
    (hf:W.findIn K (.ref C) name = some (some (.ref f))) (ht:W.isFn K (.ref f) = true) (hv:mA name = none) (h:Q (.ref f,[.ref x]) s) :
    wpAny (model prog w) A (getMethod (.ref x) name pl) Q E s:=by
  obtain ⟨od,J,hl⟩:=I.look
  exact W.method_fn X J (W.plainGet_of hg).1 (W.plainGet_of hg).2 hf (beq_iff_eq.mp ht) (by show (W.lookIn name od).map (·.isSome) = some false; rw [hl,hv]; rfl) h
theorem xj3 {ns:List Str} {Q:Unit->Shared->Prop} (X:K.In s.heap) (I:ObjM s.heap x dx C mA)
    (hs:W.findIn K (.ref C) "__setattr__" = some (some (.builtin "object.__setattr__"))) (hp:W.plainOver K C = true) (ht:W.takerIn K C name = some none) (hh:W.hasDictIn K C = true)
    (hw:PySem.Within mA ns) (hsz:ns.length<=sizeLine)
    (h:∀ h',ObjM h' x dx C (λy=>if y = name then some v else mA y)->Heap.SameBut dx s.heap h'->Q () { s with heap:=h',toks:=s.toks + 2 }) :
    wpAny (model prog w) A (setAttr (.ref x) name v) Q E s:=by
  obtain ⟨od,J,hl⟩:=I.look
  refine W.set_plain X J hs (W.osa_open (s:={ s with toks:=s.toks + 1 }) (r:=none) X J hp ht λb=>?_)
  obtain ⟨cd,hc,hd'⟩:=W.any_some hh
  have hx:s.heap.get? x = some ⟨.ref C,some dx,.plain,#[]⟩:=I.obj
  refine wpAny_bind (wpAny_pure (wpAny_bind (wpAny_bind (wpAny_loadPart hx (wpAny_bind (W.Looks.here (s:={ s with toks:=s.toks + 1 }) (W.looks_clsIn X hc) ?_))))))
  rw [hd']
  refine wpAny_pure (a:=some dx) (wpAny_bind (wpAny_pure (wpAny_bind ?_)))
  refine wpAny_nsSet1 (s:={ s with toks:=s.toks + 1 }) I.ns λh' hn2 hs2=>?_
  obtain ⟨oD,esD,epD,hoD,hdD,hcD⟩:=hn2.count (PySem.Within.cons name v hw)
  refine wpAny_bind (wpAny_lookBehind hoD (by rw [hdD]; exact pastItsLine_dict (Nat.le_trans hcD (by rw [List.length_cons]; omega))) ?_)
  exact wpAny_pure (h _ ⟨(hs2.2 _ (Ne.symm I.ne)).trans I.obj,hn2,I.ne⟩ hs2)
theorem xf3 {R:Result->Shared->Prop} {vs:List Value} {kw:List (Str × Value)} (X:K.In s.heap) (hm:W.makesIn K C = true)
    (hi:W.findIn K (.ref C) "__init__" = some (some (.ref f))) (hf:W.typeIn K (.ref f) = some (.type "function"))
    (h:codeAny (model prog w) (A.under (.builtin "type.__call__" ⟨.ref C :: vs,kw⟩)) (.call (.ref f) ⟨.ref (s.heap.objs.size + 1) :: vs,kw⟩) (W.InitBack (s.heap.objs.size + 1) R)
      { s with heap:=(s.heap.push W.emptyDict).push (W.instObj C s.heap.objs.size) }) :
    codeAny (model prog w) A (.call (.ref C) ⟨vs,kw⟩) R s:=by
  obtain ⟨hh,g,d,t,os⟩:=s
  exact W.make_core (W.makes_of X hm) (W.looks_findIn X hi) (λself=>W.bind_fn X self hf) (.inl rfl) h
end
def putF (f:Str) (v:V):List (Str × V)->List (Str × V)
  | []=>[(f,v)]
  | (g,x) :: r=>if g = f then (g,v) :: r else (g,x) :: putF f v r
theorem zg0 (f g:Str) (v:V):∀ fs:List (Str × V),(putF f v fs).lookup g = if g = f then some v else fs.lookup g
  | []=>by
    show List.lookup g [(f,v)] = _
    by_cases h:g = f
    · have hb:(g == f) = true:=beq_iff_eq.mpr h
      simp only [List.lookup,hb,if_pos h]
    · have hb:(g == f) = false:=beq_eq_false_iff_ne.mpr h
      simp only [List.lookup,hb,if_neg h]
  | (k,x) :: r=>by
    have ih:=zg0 f g v r
    rw [show putF f v ((k,x) :: r) = (if k = f then (k,v) :: r else (k,x) :: putF f v r) from rfl]
    by_cases hk:k = f
    · rw [if_pos hk]
      by_cases h:g = k
      · have hb:(g == k) = true:=beq_iff_eq.mpr h
        simp only [List.lookup,hb,if_pos (h.trans hk)]
      · have hb:(g == k) = false:=beq_eq_false_iff_ne.mpr h
        simp only [List.lookup,hb,if_neg (λe:g = f=>h (e.trans hk.symm))]
    · rw [if_neg hk]
      by_cases h:g = k
      · have hb:(g == k) = true:=beq_iff_eq.mpr h
        simp only [List.lookup,hb,if_neg (λe:g = f=>hk (h.symm.trans e))]
      · have hb:(g == k) = false:=beq_eq_false_iff_ne.mpr h
        simp only [List.lookup,hb]
        exact ih
theorem zx7 (f:Str) (v:V):∀ fs:List (Str × V),f ∈ (putF f v fs).map (·.1)/\∀ g,g ∈ fs.map (·.1)->g ∈ (putF f v fs).map (·.1)
  | []=>⟨by simp [putF],λg h=>by simp at h⟩
  | (k,x) :: r=>by
    obtain ⟨i1,i2⟩:=zx7 f v r
    rw [show putF f v ((k,x) :: r) = (if k = f then (k,v) :: r else (k,x) :: putF f v r) from rfl]
    by_cases hk:k = f
    · rw [if_pos hk]
      subst hk
      exact ⟨by simp,λg h=>by simpa using h⟩
    · rw [if_neg hk]
      refine ⟨?_,λg h=>?_⟩
      · rw [List.map_cons]
        exact List.mem_cons_of_mem _ i1
      · rw [List.map_cons] at h ⊢
        rcases List.mem_cons.mp h with e | e
        · exact List.mem_cons.mpr (.inl e)
        · exact List.mem_cons_of_mem _ (i2 g e)
theorem zc6 (f:Str) (v:V):∀ fs:List (Str × V),(putF f v fs).length<=fs.length + 1
  | []=>by simp [putF]
  | (k,x) :: r=>by
    have ih:=zc6 f v r
    rw [show putF f v ((k,x) :: r) = (if k = f then (k,v) :: r else (k,x) :: putF f v r) from rfl]
    by_cases hk:k = f
    · rw [if_pos hk,List.length_cons,List.length_cons]; omega
    · rw [if_neg hk,List.length_cons,List.length_cons]; omega
theorem RelO.some_of {v:V} {o:Option Value} (r:RelO (some v) o):∃ u,o = some u/\RelV v u:=by
  cases o with
  | none=>exact (show False from r).elim
  | some u=>exact ⟨u,rfl,r⟩
theorem RelO.none_of {o:Option Value} (r:RelO none o):o = none:=by
  cases o with
  | none=>rfl
  | some u=>exact (show False from r).elim
theorem yi4 {v:V} {u:Value} (r:RelV v u):W.handedIn u = true:=by
  cases v with
  | non=>cases (show u = Value.none from r); rfl
  | bl b=>cases (show u = Value.bool b from r); rfl
  | int i=>obtain ⟨t,e⟩:=(show ∃ t,u = Value.int i t from r); cases e; rfl
  | str x=>obtain ⟨t,e⟩:=(show ∃ t,u = Value.str x t from r); cases e; rfl
  | byt b=>obtain ⟨t,e⟩:=(show ∃ t,u = Value.bytes b t from r); cases e; rfl
  | flt b=>obtain ⟨t,e⟩:=(show ∃ t,u = Value.float b t from r); cases e; rfl
  | ref a=>cases (show u = Value.ref a from r); rfl
  | ty n=>cases (show u = Value.type n from r); rfl
section
variable {P:Program} {w:World} {H H':Hp} {h h':Heap} {a C dx:Addr} {fs fs':List (Str × V)}
theorem ye8 (hok:HOk P w H h) (e:H a = some (.ins C dx fs)):∃ mA,ObjM h a dx C mA/\(∀ f,RelO (fs.lookup f) (mA f))/\PySem.Within mA (fs.map (·.1))/\fs.length<=1000/\H dx = some (.own a):=by
  obtain ⟨d,z,ne,ob,mA,n,r,q⟩:=(show zd7 P w H h a (.ins C dx fs) from hok a _ e)
  exact ⟨mA,⟨ob,n,ne⟩,r,q,z,d⟩
end
structure Cls (K:W.Frag) (C:Addr):Prop where
  pg:W.plainGet K C Str.empty = true
  hd:W.hasDictIn K C = true
  po:W.plainOver K C = true
  sa:W.findIn K (.ref C) "__setattr__" = some (some (.builtin "object.__setattr__"))
theorem Cls.get {K:W.Frag} {C:Addr} (c:Cls K C) (f:Str):W.plainGet K C f = true:=c.pg
def zd9 (K:W.Frag) (C:Addr) (f:Str):Prop:=W.findIn K (.ref C) f = some none
theorem zd9.taker {K:W.Frag} {C:Addr} {f:Str} (n:zd9 K C f):W.takerIn K C f = some none:=by
  unfold W.takerIn
  rw [show W.findIn K (.ref C) f = some none from n]
  rfl
structure Con (K:W.Frag) (C:Addr) (f:Str) (v:V) (u:Value):Prop where
  at_:W.findIn K (.ref C) f = some (some u)
  rel:RelV v u
  get:W.specialIn K u "__get__" = some none
  cp:W.copiedNames.contains f = false
structure Meth (K:W.Frag) (C:Addr) (m:Str) (f:Addr):Prop where
  at_:W.findIn K (.ref C) m = some (some (.ref f))
  fn:W.isFn K (.ref f) = true
  kp:W.keepIn K (.ref f) = true
section
variable {X:Cx} {pins:List (Addr × Obj)} {σ:St} {H:Hp} {s:Shared} {a C dx:Addr} {fs:List (Str × V)} {f:Str} {v:V} {A:Around} {E:Value->Shared->Prop}
theorem ys5 {b:Bool} {Q:Value->Shared->Prop} (I:Inv X pins σ H s) (e:H a = some (.ins C dx fs)) (c:Cls X.K C) (n:zd9 X.K C f) (l:fs.lookup f = some v)
    (h:∀ u s',Inv X pins σ H s'->RelV v u->Q u s'):wpAny (model X.prog X.w) A (getAttr (.ref a) f b) Q E s:=by
  obtain ⟨mA,O,r,_,_,_⟩:=ye8 I.hok e
  obtain ⟨u,hu,ru⟩:=RelO.some_of (v:=v) (o:=mA f) (by rw [<- l]; exact r f)
  exact xn8 I.kIn O (c.get f) c.hd n hu (yi4 ru) (h u _ (I.tok _) ru)
theorem yc3 {m:Str} {g:Addr} {pl:Sem Bool} {Q:Value × List Value->Shared->Prop} (I:Inv X pins σ H s) (e:H a = some (.ins C dx fs)) (c:Cls X.K C) (k:Meth X.K C m g) (l:fs.lookup m = none)
    (h:Q (.ref g,[.ref a]) s):wpAny (model X.prog X.w) A (getMethod (.ref a) m pl) Q E s:=by
  obtain ⟨mA,O,r,_,_,_⟩:=ye8 I.hok e
  have hn:mA m = none:=RelO.none_of (by rw [<- l]; exact r m)
  exact xg3 I.kIn O (c.get m) k.at_ k.fn hn h
theorem yp7 {y:V} {u:Value} {Q:Unit->Shared->Prop} (I:Inv X pins σ H s) (e:H a = some (.ins C dx fs)) (c:Cls X.K C) (n:zd9 X.K C f) (hl:fs.length < 1000) (ry:RelV y u)
    (h:∀ s',Inv X pins σ (upd H a (.ins C dx (putF f y fs))) s'->Q () s'):wpAny (model X.prog X.w) A (setAttr (.ref a) f u) Q E s:=by
  obtain ⟨mA,O,r,wi,_,ho⟩:=ye8 I.hok e
  have hz:(fs.map (·.1)).length<=sizeLine:=by rw [List.length_map,sizeLine_eq]; omega
  refine xj3 I.kIn O c.sa c.po n.taker c.hd wi hz λh' O' sb=>h _ ?_
  have hd:∃ o,h'.get? dx = some o:=let ⟨o,_,_,e',_⟩:=O'.ns; ⟨o,e'⟩
  refine I.write (x:=a) (e:=dx) (by rw [e]; exact True.intro) (.inr ho) (λb q hb z=>(sb.2 b hb).trans z) hd ?_
  refine ⟨by rw [za7 O.ne]; exact ho,?_,O.ne,O'.obj,_,O'.ns,λg=>?_,λg hg=>?_⟩
  · have:=zc6 f y fs; omega
  · show RelO ((putF f y fs).lookup g) (if g = f then some u else mA g)
    rw [zg0]
    by_cases q:g = f
    · rw [if_pos q,if_pos q]; exact ry
    · rw [if_neg q,if_neg q]; exact r g
  · by_cases q:g = f
    · rw [q]; exact (zx7 f y fs).1
    · refine (zx7 f y fs).2 g (wi g λz=>hg ?_)
      show (if g = f then some u else mA g) = none
      rw [if_neg q]; exact z
theorem Inv.made (I:Inv X pins σ H s):Inv X pins σ (upd (upd H s.heap.objs.size (.own (s.heap.objs.size + 1))) (s.heap.objs.size + 1) (.ins C s.heap.objs.size []))
    { s with heap:=(s.heap.push W.emptyDict).push (W.instObj C s.heap.objs.size) }:=by
  have e1:(s.heap.push W.emptyDict).get? s.heap.objs.size = some W.emptyDict:=Heap.get?_push_size s.heap rfl
  have e2:((s.heap.push W.emptyDict).push (W.instObj C s.heap.objs.size)).get? (s.heap.objs.size + 1) = some (W.instObj C s.heap.objs.size):=by
    have:=Heap.get?_push_size (s.heap.push W.emptyDict) (o:=W.instObj C s.heap.objs.size) rfl
    rwa [Heap.size_push] at this
  have e3:(s.heap.push W.emptyDict).Ns s.heap.objs.size (λ_=>none):=⟨W.emptyDict,#[],_,e1,rfl,(λe he=>absurd he (by simp)),λ_=>rfl⟩
  have I1:=I.laid (a:=s.heap.objs.size) (o:=.own (s.heap.objs.size + 1)) (h':=s.heap.push W.emptyDict) (t':=s.toks) (λb u q=>Heap.get?_push_of_some _ q) (Nat.le_refl _) ⟨_,e1⟩
  refine I1.laid (a:=s.heap.objs.size + 1) (o:=.ins C s.heap.objs.size []) (t':=s.toks) (λb u q=>Heap.get?_push_of_some _ q) (Nat.le_of_eq (Heap.size_push _ _)) ?_
  have ne:s.heap.objs.size ≠ s.heap.objs.size + 1:=Nat.ne_of_lt (Nat.lt_succ_self _)
  refine ⟨by rw [za7 ne,upd_same],Nat.zero_le _,ne,e2,λ_=>none,(Heap.Ns1.of_empty e3).at λo q=>Heap.get?_push_of_some _ q,λ_=>True.intro,λy hy=>absurd rfl hy⟩
theorem xb5 {prog:Program} {w:World} {env:Env} {e:Expr} {f:Str} {pos:Pos} {s:Shared} {Q:Value->Shared->Prop} (hb:attributeBase e f env (eval e env) = eval e env)
    (h:wpAny (model prog w) A (eval e env) (λo s₁=>wpAny (model prog w) A (getAttr o f true) Q E s₁) E s):wpAny (model prog w) A (eval (.Attribute e f pos) env) Q E s:=
  Attribute_any_ h (by rw [arm_eval_Attribute,hb])
end
def tFld (K:W.Frag) (ta:TE) (f:Str):TE:=λσ H Q=>ta σ H λx H1=>∃ a C dx fs v,x = .ref a/\H1 a = some (.ins C dx fs)/\Cls K C/\zd9 K C f/\fs.lookup f = some v/\Q v H1
def sFld (K:W.Frag) (ta tv:TE) (f:Str):TS:=λD σ H=>tv σ H λy H1=>ta σ H1 λx H2=>∃ a C dx fs,x = .ref a/\H2 a = some (.ins C dx fs)/\Cls K C/\zd9 K C f/\fs.length < 1000 /\
  D.nx σ (upd H2 a (.ins C dx (putF f y fs)))
section
variable {X:Cx} {o e value:Expr} {f:Str} {pos pos' tpos:Pos} {ta tv:TE}
theorem zd8 (he:PE X e ta) (hb:attributeBase e f X.env (eval e X.env) = eval e X.env):PE X (.Attribute e f pos) (tFld X.K ta f):=by
  intro pins s σ H Q I h
  refine xb5 hb (thn (he pins s σ H _ I h) λu s1 ⟨x,H1,I1,rx,a,C,dx,fs,v,ex,ea,c,n,l,q⟩=>?_)
  subst ex
  obtain rfl:u = Value.ref a:=rx
  exact ys5 I1 ea c n l λu' s2 I2 ru=>⟨v,H1,I2,ru,q⟩
theorem zh5 (ha:PE X o ta) (hv:PE X value tv) (hs:swapsWith value (some (.Attribute o f pos')) pos.line X.env = pure false):PS X (.Assign [.Attribute o f pos'] value pos) (sFld X.K ta tv f):=by
  intro pins s σ H D I h
  refine plainObj_wpAny_Assign_Attribute (thn (hv pins s σ H _ I h) λu s1 ⟨y,H1,I1,ry,q⟩=>thn (ha pins s1 σ H1 _ I1 q) λov s2 ⟨x,H2,I2,rx,a,C,dx,fs,ex,ea,c,n,l,q2⟩=>?_) hs
  subst ex
  obtain rfl:ov = Value.ref a:=rx
  exact yp7 I2 ea c n l ry λs3 I3=>⟨σ,_,I3,q2⟩
end
section
variable {X:Cx} {pins:List (Addr × Obj)} {σ:St} {H:Hp} {s:Shared} {A:Around} {E:Value->Shared->Prop} {Q:Value->Shared->Prop} {c:Value} {b:Bool}
inductive TyOf (K:W.Frag) (H:Hp):V->Value->Prop where
  | non:TyOf K H .non (.type "NoneType")
  | bl (x:Bool):TyOf K H (.bl x) (.type "bool")
  | int (i:Int):TyOf K H (.int i) (.type "int")
  | str (x:Str):TyOf K H (.str x) (.type "str")
  | flt (x:UInt64):TyOf K H (.flt x) (.type "float")
  | lst {a:Addr} {xs:List V} (e:H a = some (.lst xs)):TyOf K H (.ref a) (.type "list")
  | frz {a:Addr} {o:Obj} {xs:List V} (e:H a = some (.frz o (.lst xs))):TyOf K H (.ref a) (.type "list")
  | tup {a:Addr} {xs:List V} (e:H a = some (.tup xs)):TyOf K H (.ref a) (.type "tuple")
  | dK {a:Addr} {kvs:List (Key × V)} (e:H a = some (.dK kvs)):TyOf K H (.ref a) (.type "dict")
  | dT {a:Addr} {kvs:List (List Key × V)} (e:H a = some (.dT kvs)):TyOf K H (.ref a) (.type "dict")
  | ins {a C dx:Addr} {fs:List (Str × V)} (e:H a = some (.ins C dx fs)) (cl:Cls K C) (ha:W.findIn K (.ref C) "__class__" = some (some (.builtin "object.__class__")))
      (hn:W.specialIn K (.builtin "object.__class__") "__get__" = some (some (.builtin "getset_descriptor.__get__"))) (htk:W.takesIn K (.builtin "object.__class__") = some true)
      (hm:W.mroIn K C (.type "object") = some true):TyOf K H (.ref a) (.ref C)
theorem yz5 {x:V} {u t:Value} (I:Inv X pins σ H s) (rx:RelV x u) (ty:TyOf X.K H x t) (e:W.kitOne X.K t c = some b) (h:∀ tk,Q (.bool b) { s with toks:=tk }) :
    wpAny (model X.prog X.w) A (call (.builtin "isinstance") [u,c]) Q E s:=by
  cases ty with
  | non=>cases (show u = Value.none from rx); exact W.kia_one W.kitx_none I.kIn True.intro e (λz=>nomatch z) h
  | bl y=>cases (show u = Value.bool y from rx); exact W.kia_one W.kitx_bool I.kIn True.intro e (λz=>nomatch z) h
  | int i=>obtain ⟨t,q⟩:=(show ∃ t,u = Value.int i t from rx); cases q; exact W.kia_one W.kitx_int I.kIn True.intro e (λz=>nomatch z) h
  | str y=>obtain ⟨t,q⟩:=(show ∃ t,u = Value.str y t from rx); cases q; exact W.kia_one W.kitx_str I.kIn True.intro e (λz=>nomatch z) h
  | flt y=>obtain ⟨t,q⟩:=(show ∃ t,u = Value.float y t from rx); cases q; exact W.kia_one W.kitx_float I.kIn True.intro e (λz=>nomatch z) h
  | @lst a xs ea=>
    cases (show u = Value.ref a from rx)
    obtain ⟨_,_,n,_,h1⟩:=(show zd7 X.prog X.w H s.heap a (.lst xs) from I.hok a _ ea)
    exact W.kia_one W.kitx_list I.kIn ⟨_,h1,rfl⟩ e (λz=>nomatch z) h
  | @frz a ob xs ea=>
    cases (show u = Value.ref a from rx)
    obtain ⟨_,_,_,n,_,h1⟩:=(show zd7 X.prog X.w H s.heap a (.frz ob (.lst xs)) from I.hok a _ ea)
    exact W.kia_one W.kitx_list I.kIn ⟨_,h1,rfl⟩ e (λz=>nomatch z) h
  | @tup a xs ea=>
    cases (show u = Value.ref a from rx)
    obtain ⟨_,_,_,p⟩:=(show zd7 X.prog X.w H s.heap a (.tup xs) from I.hok a _ ea)
    obtain ⟨o,h1,h2,_⟩:=p
    exact W.kia_one W.kitx_tuple I.kIn ⟨o,h1,h2⟩ e (λz=>nomatch z) h
  | @dK a kvs ea=>
    cases (show u = Value.ref a from rx)
    obtain ⟨_,_,vs,_,p⟩:=(show zd7 X.prog X.w H s.heap a (.dK kvs) from I.hok a _ ea)
    obtain ⟨o,es,ep,h1,h2,_⟩:=p
    exact W.kia_one W.kitx_dict I.kIn ⟨o,h1,h2.1⟩ e (λz=>nomatch z) h
  | @dT a kvs ea=>
    cases (show u = Value.ref a from rx)
    obtain ⟨_,_,xs,_,o,es,ep,h1,h2,_⟩:=(show zd7 X.prog X.w H s.heap a (.dT kvs) from I.hok a _ ea)
    exact W.kia_one W.kitx_dict I.kIn ⟨o,h1,h2.1⟩ e (λz=>nomatch z) h
  | @ins a C dx fs ea cl ha hn htk hm=>
    cases (show u = Value.ref a from rx)
    obtain ⟨mA,O,_⟩:=ye8 I.hok ea
    obtain ⟨od,J,_⟩:=O.look
    exact W.kia_one (W.kitx_own (cl.get _) cl.hd ha hn htk hm) I.kIn J e (λz=>nomatch z) h
end
structure Room (k:Nat) (A:Around):Prop where
  hd:A.handled = none
  dp:A.depth + 3 * k + 5 < recursionLimit
  un:A.units + 16 * k + 200 < cLine
theorem Room.mono {j k:Nat} {A:Around} (r:Room k A) (h:j<=k):Room j A:=⟨r.hd,by have:=r.dp; omega,by have:=r.un; omega⟩
theorem Room.deeper {k:Nat} {A:Around} (r:Room (k + 1) A) (env:Env):Room k (A.deeper env):=
  ⟨r.hd,by have:=r.dp; show A.depth + 1 + 3 * k + 5 < _; omega,by have:=r.un; show A.units + 3 + 16 * k + 200 < _; omega⟩
theorem yr6 {A:Around} {C:Addr} {us:List Value} {kw:List (Str × Value)}:(A.under (.builtin "type.__call__" ⟨.ref C :: us,kw⟩)).depth = A.depth + 1:=by
  first | rfl | simp [Around.under,Code.weight,Code.isCreation,Code.isGuard,Code.isCaller,Code.frames,Code.isFrame,guardIds]
theorem yr5 {A:Around} {C:Addr} {us:List Value} {kw:List (Str × Value)}:(A.under (.builtin "type.__call__" ⟨.ref C :: us,kw⟩)).units = A.units + 1:=by
  first | rfl | simp [Around.under,Code.cUnits,Code.frames,Code.isFrame]
theorem Room.make {k:Nat} {A:Around} (r:Room (k + 1) A) (C:Addr) (us:List Value) (kw:List (Str × Value)):Room k (A.under (.builtin "type.__call__" ⟨.ref C :: us,kw⟩)):=
  ⟨r.hd,by have:=r.dp; rw [yr6]; omega,by have:=r.un; rw [yr5]; omega⟩
theorem Room.depth {k:Nat} {A:Around} (r:Room k A):A.depth < recursionLimit:=by have:=r.dp; omega
theorem Room.units {k:Nat} {A:Around} (r:Room k A):A.units + 64 < cLine:=by have:=r.un; omega
def tNil:TA:=λ_ H Q=>Q [] H
def zp9 (ta:TE) (tr:TA):TA:=λσ H Q=>ta σ H λx H1=>tr σ H1 λxs H2=>Q (x :: xs) H2
section
variable {X:Cx} {e:Expr} {es:List Expr} {te:TE} {t:TA} {pos:Pos}
theorem za2:PA X [] tNil:=λ_ _ _ _ H Q I h=>Calls.spliced_nil ⟨[],H,I,.nil,h⟩
theorem za0 (ha:PE X e te) (hr:PA X es t) (hs:starEach (e :: es) X.env = (false,eval e X.env) :: starEach es X.env:=by rfl):PA X (e :: es) (zp9 te t):=by
  intro pos pins s σ H Q I h
  rw [hs]
  show wpAny _ _ (spliced ((false,eval e X.env) :: backTo pos (starEach es X.env))) _ _ s
  refine Calls.spliced_cons (thn (ha pins s σ H _ I h) λu s1 ⟨x,H1,I1,r1,q1⟩=>?_)
  exact thn (hr pos pins s1 σ H1 _ I1 q1) λus s2 ⟨xs,H2,I2,r2,q2⟩=>⟨x :: xs,H2,I2,.cons r1 r2,q2⟩
def tTup (t:TA):TE:=λσ H Q=>t σ H λxs H1=>xs.length<=sizeLine/\∀ p,H1 p = none->Q (.ref p) (upd H1 p (.tup xs))
def tLst (t:TA):TE:=λσ H Q=>t σ H λxs H1=>xs.length<=sizeLine/\∀ p,H1 p = none->Q (.ref p) (upd H1 p (.lst xs))
theorem zg3 {x1} (h:PA X es t):PE X (.Tuple es x1 pos) (tTup t):=by
  intro pins s σ H Q I hq
  refine wpAny_Tuple_spliced (thn (h pos pins s σ H _ I hq) λus s1 ⟨xs,H1,I1,r,z,q⟩=>⟨by rw [<- r.length]; exact z,?_⟩)
  have hf:H1 s1.heap.objs.size = none:=I1.hok.fresh (Nat.le_refl _)
  refine ⟨.ref s1.heap.objs.size,upd H1 s1.heap.objs.size (.tup xs),I1.laid (t':=s1.toks) (λb u e=>Heap.get?_push_of_some _ e) (Nat.le_refl _) ?_,rfl,q _ hf⟩
  exact ⟨z,us,r,⟨_,Heap.get?_push_size _ rfl,rfl,rfl,_,rfl⟩⟩
theorem ze7 (h:PA X es t):PE X (.List es pos) (tLst t):=by
  intro pins s σ H Q I hq
  refine wpAny_List_spliced (thn (h pos pins s σ H _ I hq) λus s1 ⟨xs,H1,I1,r,z,q⟩=>⟨by rw [<- r.length]; exact z,?_⟩)
  have hf:H1 s1.heap.objs.size = none:=I1.hok.fresh (Nat.le_refl _)
  refine ⟨.ref s1.heap.objs.size,upd H1 s1.heap.objs.size (.lst xs),I1.laid (t':=s1.toks) (λb u e=>Heap.get?_push_of_some _ e) (Nat.le_refl _) ?_,rfl,q _ hf⟩
  exact ⟨z,us,0,r,Heap.get?_push_size _ rfl⟩
end
abbrev Sp:=List V->Hp->VK->XK->Prop
abbrev CXT:=List Env->Hp->Shared->XK->Value->Shared->Prop
structure Env0 (P:Program) (w:World) (K:W.Frag) (mg:Str->Option Value) (base:Heap) (A:Around) (outer:List Env) (s:Shared) (H:Hp):Prop where
  frames:A.frames = some outer
  mod:Mod K mg base
  bs:∀ b o,base.get? b = some o->s.heap.get? b = some o/\H b = none
  bsz:base.objs.size<=s.heap.objs.size
  funs:s.heap.FunFrames base outer
  frf:∀ b ∈ frs outer,H b = none
  hok:HOk P w H s.heap
  bare:AllBare s.gens
def CE (outer:List Env) (P:Program) (w:World) (H:Hp) (s:Shared) (Q:VK) (u:Value) (s':Shared):Prop:=
  ∃ v H',s'.os = s.os/\AllBare s'.gens/\Un (frs outer) [] H H' s.heap s'.heap/\HOk P w H' s'.heap/\RelV v u/\Q v H'
def CR (CX:CXT) (outer:List Env) (P:Program) (w:World) (H:Hp) (s:Shared) (Q:VK) (E:XK) (r:Result) (s':Shared):Prop:=
  match r with
  | .ok (.ret u)=>CE outer P w H s Q u s'
  | .ok _=>False
  | .error e=>CX outer H s E e s'
structure FnOk (P:Program) (w:World) (K:W.Frag) (mg:Str->Option Value) (base:Heap) (CX:CXT) (k:Nat) (f:Addr) (fd:FuncData) (ps:List Str) (sp:Sp):Prop where
  len:∀ vs H Q E,sp vs H Q E->vs.length = ps.length
  run:∀ (A:Around) (outer:List Env) (s:Shared) (H:Hp) (args:Args) (us:List Value) (vs:List V) (Q:VK) (E:XK),Room k A->Env0 P w K mg base A outer s H->BindsTo s fd args (ps.zip us)->Vals vs us->sp vs H Q E ->
    codeAny (model P w) A (.call (.ref f) args) (CR CX outer P w H s Q E) s
theorem Env0.make {P:Program} {w:World} {K:W.Frag} {mg:Str->Option Value} {base:Heap} {A:Around} {outer:List Env} {s:Shared} {H:Hp} (e:Env0 P w K mg base A outer s H) (C:Addr) (us:List Value) (kw:List (Str × Value)) :
    Env0 P w K mg base (A.under (.builtin "type.__call__" ⟨.ref C :: us,kw⟩)) outer s H:=⟨by first | exact e.frames | (simpa [Around.under,Code.envs,Code.isFrame,pushEnvs] using e.frames),e.mod,e.bs,e.bsz,e.funs,e.frf,e.hok,e.bare⟩
section
variable {X:Cx} {pins:List (Addr × Obj)} {σ:St} {H:Hp} {s s':Shared}
theorem Inv.env0 (I:Inv X pins σ H s):Env0 X.prog X.w X.K X.mg X.base X.A X.stack s H:=
  ⟨I.ok.frames,I.ok.mod,I.bs,Nat.le_trans I.ok.bsz I.sz,I.stack,I.stkFree,I.hok,I.bare⟩
theorem Inv.after {Q:VK} {u:Value} (I:Inv X pins σ H s) (h:CE X.stack X.prog X.w H s Q u s'):EP X pins σ Q u s':=by
  obtain ⟨v,H',os,bare,un,hok,r,q⟩:=h
  obtain ⟨hh,g,d,t,os'⟩:=s'
  obtain rfl:os' = s.os:=os
  exact ⟨v,H',I.call (h':=hh) (g':=g) (d':=d) (t':=t) (ch:=[]) un hok bare (λb z=>absurd z (by simp)),r,q⟩
end
def yg3 (sp:Sp) (dvs:List V) (E:XK) (t:TA):TE:=λσ H Q=>t σ H λvs H1=>sp (vs ++ dvs) H1 Q E
def xu2 (C:Addr) (sp:Sp) (dvs:List V) (E:XK) (t:TA):TE:=λσ H Q=>t σ H λvs H1=>∀ x dx,H1 x = none->H1 dx = none->dx ≠ x ->
  sp (.ref x :: (vs ++ dvs)) (upd (upd H1 dx (.own x)) x (.ins C dx [])) (λv H2=>v = .non/\Q (.ref x) H2) E
def zi3 (K:W.Frag) (fd:FuncData) (ps:List Str) (ds:List Value):Prop:=
  ∀ (s:Shared) (us:List Value),K.In s.heap->(us ++ ds).length = ps.length->BindsTo s fd ⟨us,[]⟩ (ps.zip (us ++ ds))
theorem zi3.all {K:W.Frag} {fd:FuncData} {ps:List Str} (h:∀ us:List Value,us.length = ps.length->bindArgs fd ⟨us,[]⟩ = pure (ps.zip us)):zi3 K fd ps []:=λs us _ hl=>by
  rw [List.append_nil] at hl ⊢
  exact .of_eq (h us hl)
def zp8 (CX:CXT) (X:Cx) (E:XK):Prop:=∀ (pins:List (Addr × Obj)) (σ:St) (H:Hp) (s:Shared) (e:Value) (s':Shared),Inv X pins σ H s->CX X.stack H s E e s'->X.xe e s'
section
variable {X:Cx} {CX:CXT} {k:Nat} {f C:Addr} {fd:FuncData} {ps:List Str} {sp:Sp} {dvs:List V} {ds:List Value} {E:XK} {x m:Str} {p pos apos:Pos} {e o:Expr} {es:List Expr} {ta:TE} {t:TA}
theorem ym8 {pins:List (Addr × Obj)} {σ:St} {H:Hp} {s:Shared} {Q:VK} {us:List Value} {vs:List V} (F:FnOk X.prog X.w X.K X.mg X.base CX k f fd ps sp) (hr:Room k X.A) (hb:zi3 X.K fd ps ds) (hd:Vals dvs ds) (hx:zp8 CX X E)
    (I:Inv X pins σ H s) (r:Vals vs us) (h:sp (vs ++ dvs) H Q E):wpAny (model X.prog X.w) X.A (call (.ref f) us) (EP X pins σ Q) X.xe s:=by
  have r2:Vals (vs ++ dvs) (us ++ ds):=r.append hd
  have hl:(us ++ ds).length = ps.length:=by rw [<- r2.length]; exact F.len _ _ _ _ h
  refine wpAny_call (codeAny_mono (F.run X.A X.stack s H ⟨us,[]⟩ (us ++ ds) (vs ++ dvs) Q E hr I.env0 (hb s us I.kIn hl) r2 h) λr s' hq=>?_)
  cases r with
  | error e=>exact hx pins σ H s e s' I hq
  | ok fl=>
    cases fl with
    | ret u=>exact I.after hq
    | next=>exact False.elim hq
    | brk=>exact False.elim hq
    | cont=>exact False.elim hq
theorem za9 (F:FnOk X.prog X.w X.K X.mg X.base CX k f fd ps sp) (hr:Room k X.A) (hg:Gl X x) (hm:X.mg x = some (.ref f)) (hk:W.keepIn X.K (.ref f) = true) (hb:zi3 X.K fd ps ds) (hd:Vals dvs ds) (hx:zp8 CX X E)
    (ha:PA X (e :: es) t) (hdb:(x == ("__debug__" : Str)) = false:=by decide) (he:starEach (e :: es) X.env = (false,eval e X.env) :: starEach es X.env:=by rfl) (hpl:(backTo pos (starEach es X.env)).any (·.1) = false:=by rfl) :
    PE X (.Call (.Name x p) (e :: es) [] pos) (yg3 sp dvs E t):=by
  intro pins s σ H Q I h
  refine wpAny_Call_Name_kw (zk2 I hg hm ?_ hdb)
  refine W.callWith_K (h₀:=X.base) I.ok.mod.kin hk (thn (ha pos pins s σ H _ I h) λus s1 ⟨vs,H1,I1,r,q⟩=>⟨I1.kIn,?_⟩) he hpl
  exact ym8 F hr hb hd hx I1 r q
structure Mk (K:W.Frag) (C f:Addr):Prop where
  makes:W.makesIn K C = true
  init:W.findIn K (.ref C) "__init__" = some (some (.ref f))
  fn:W.isFn K (.ref f) = true
  kp:W.keepIn K (.ref C) = true
theorem xc6 {pins:List (Addr × Obj)} {σ:St} {H:Hp} {s:Shared} {Q:VK} {us:List Value} {vs:List V} (M:Mk X.K C f) (F:FnOk X.prog X.w X.K X.mg X.base CX k f fd ps sp) (hr:Room (k + 1) X.A) (hb:zi3 X.K fd ps ds) (hd:Vals dvs ds)
    (hx:zp8 CX X E) (I:Inv X pins σ H s) (r:Vals vs us)
    (h:∀ x dx,H x = none->H dx = none->dx ≠ x->sp (.ref x :: (vs ++ dvs)) (upd (upd H dx (.own x)) x (.ins C dx [])) (λv H2=>v = .non/\Q (.ref x) H2) E) :
    wpAny (model X.prog X.w) X.A (call (.ref C) us) (EP X pins σ Q) X.xe s:=by
  have hq:=h (s.heap.objs.size + 1) s.heap.objs.size (I.hok.fresh (Nat.le_succ _)) (I.hok.fresh (Nat.le_refl _)) (Nat.ne_of_lt (Nat.lt_succ_self _))
  have I2:=Inv.made (C:=C) I
  have r2:Vals (V.ref (s.heap.objs.size + 1) :: (vs ++ dvs)) (Value.ref (s.heap.objs.size + 1) :: (us ++ ds)):=.cons rfl (r.append hd)
  have hl:(Value.ref (s.heap.objs.size + 1) :: us ++ ds).length = ps.length:=by
    have e:=r2.length
    rw [F.len _ _ _ _ hq] at e
    exact e.symm
  refine wpAny_call (xf3 (f:=f) I.kIn M.makes M.init (beq_iff_eq.mp M.fn) (codeAny_mono (F.run _ X.stack _ _ ⟨Value.ref (s.heap.objs.size + 1) :: us,[]⟩ (Value.ref (s.heap.objs.size + 1) :: (us ++ ds)) _ _ E (hr.make C us [])
    (I2.env0.make C us []) (hb _ (Value.ref (s.heap.objs.size + 1) :: us) I2.kIn hl) r2 hq) λr s' hq'=>?_))
  cases r with
  | error e=>exact hx pins σ _ _ e s' I2 hq'
  | ok fl=>
    cases fl with
    | ret u=>
      obtain ⟨v,H',I3,rv,ev,q3⟩:=I2.after hq'
      subst ev
      exact ⟨rv,⟨V.ref (s.heap.objs.size + 1),H',I3,rfl,q3⟩⟩
    | next=>exact False.elim hq'
    | brk=>exact False.elim hq'
    | cont=>exact False.elim hq'
theorem zf9 (M:Mk X.K C f) (F:FnOk X.prog X.w X.K X.mg X.base CX k f fd ps sp) (hr:Room (k + 1) X.A) (hg:Gl X x) (hm:X.mg x = some (.ref C)) (hb:zi3 X.K fd ps ds) (hd:Vals dvs ds) (hx:zp8 CX X E)
    (ha:PA X (e :: es) t) (hdb:(x == ("__debug__" : Str)) = false:=by decide) (he:starEach (e :: es) X.env = (false,eval e X.env) :: starEach es X.env:=by rfl) (hpl:(backTo pos (starEach es X.env)).any (·.1) = false:=by rfl) :
    PE X (.Call (.Name x p) (e :: es) [] pos) (xu2 C sp dvs E t):=by
  intro pins s σ H Q I h
  refine wpAny_Call_Name_kw (zk2 I hg hm ?_ hdb)
  refine W.callWith_K (h₀:=X.base) I.ok.mod.kin M.kp (thn (ha pos pins s σ H _ I h) λus s1 ⟨vs,H1,I1,r,q⟩=>⟨I1.kIn,?_⟩) he hpl
  exact xc6 M F hr hb hd hx I1 r q
end
section
variable {X:Cx} {CX:CXT} {k:Nat} {f C:Addr} {fd:FuncData} {ps ks:List Str} {sp:Sp} {E:XK} {x m:Str} {p pos apos kpos:Pos} {e o:Expr} {es:List Expr} {kws:List Keyword} {te ta:TE} {t tk:TA} {nm:Option Str}
structure KBinds (K:W.Frag) (fd:FuncData) (ps ks:List Str) (g:List Value->List Value->List Value) (gV:List V->List V->List V):Prop where
  to:∀ (s:Shared) (us ws:List Value),K.In s.heap->(g us ws).length = ps.length->BindsTo s fd ⟨us,ks.zip ws⟩ (ps.zip (g us ws))
  rel:∀ {vs:List V} {us:List Value} {zs:List V} {ws:List Value},Vals vs us->Vals zs ws->Vals (gV vs zs) (g us ws)
variable {g:List Value->List Value->List Value} {gV:List V->List V->List V}
end
structure FnScope (N P:List Str) (sc:Scope):Prop where
  kind:sc.kind = .function
  co:sc.isCoroutine = false
  gen:sc.isGenerator = false
  nd:N.Nodup
  pre:N.take P.length = P
  par:∀ x ∈ P,sc.names.lookup x = some .local\/sc.names.lookup x = some .cell
  nofree:∀ y ∈ sc.names,y.2 ≠ .free
theorem yj1 {kindOf:Str->Option NameKind} {x:Str}:∀ {binds:List (Str × Value)} {m:Str->Option Value},(∀ v,(x,v) ∉ binds)->bindL kindOf binds m x = m x
  | [],_,_=>rfl
  | (n,v) :: r,m,h=>by
    unfold bindL
    rw [yj1 λw hw=>h w (List.mem_cons_of_mem _ hw)]
    split
    · have:x ≠ n:=by rintro rfl; exact h v List.mem_cons_self
      simp [this]
    · rfl
theorem yj2 {kindOf:Str->Option NameKind} {x:Str}:∀ {binds:List (Str × Value)} {m:Str->Option Value},(∀ v,(x,v) ∉ binds)->bindC kindOf binds m x = m x
  | [],_,_=>rfl
  | (n,v) :: r,m,h=>by
    unfold bindC
    rw [yj2 λw hw=>h w (List.mem_cons_of_mem _ hw)]
    split
    · rfl
    · have:x ≠ n:=by rintro rfl; exact h v List.mem_cons_self
      simp [this]
theorem zy7 {kindOf:Str->Option NameKind} {x:Str} {v:Value}:∀ {P:List Str} {vs:List Value} {i:Nat} {m:Str->Option Value},P.Nodup->P[i]? = some x->vs[i]? = some v->kindOf x = some .local ->
    bindL kindOf (P.zip vs) m x = some v
  | [],_,_,_,_,h,_,_=>by simp at h
  | _ :: _,[],_,_,_,_,h,_=>by simp at h
  | p :: P,w :: vs,0,m,nd,h1,h2,hk=>by
    simp at h1 h2; subst h1; subst h2
    show bindL kindOf ((p,w) :: P.zip vs) m p = _
    unfold bindL
    rw [yj1 λv hv=>(List.nodup_cons.mp nd).1 (List.of_mem_zip hv).1,if_pos hk]
    simp
  | p :: P,w :: vs,i + 1,m,nd,h1,h2,hk=>by
    show bindL kindOf ((p,w) :: P.zip vs) m x = _
    unfold bindL
    exact zy7 (i:=i) (List.nodup_cons.mp nd).2 (by simpa using h1) (by simpa using h2) hk
theorem zy8 {kindOf:Str->Option NameKind} {x:Str} {v:Value}:∀ {P:List Str} {vs:List Value} {i:Nat} {m:Str->Option Value},P.Nodup->P[i]? = some x->vs[i]? = some v->kindOf x ≠ some .local ->
    bindC kindOf (P.zip vs) m x = some v
  | [],_,_,_,_,h,_,_=>by simp at h
  | _ :: _,[],_,_,_,_,h,_=>by simp at h
  | p :: P,w :: vs,0,m,nd,h1,h2,hk=>by
    simp at h1 h2; subst h1; subst h2
    show bindC kindOf ((p,w) :: P.zip vs) m p = _
    unfold bindC
    rw [yj2 λv hv=>(List.nodup_cons.mp nd).1 (List.of_mem_zip hv).1,if_neg hk]
    simp
  | p :: P,w :: vs,i + 1,m,nd,h1,h2,hk=>by
    show bindC kindOf ((p,w) :: P.zip vs) m x = _
    unfold bindC
    exact zy8 (i:=i) (List.nodup_cons.mp nd).2 (by simpa using h1) (by simpa using h2) hk
def zk9 (N:List Str) (vs:List V):St:=vs.map some ++ List.replicate (N.length - vs.length) none
def cxOf (CX:CXT) (P:Program) (w:World) (K:W.Frag) (mg:Str->Option Value) (base:Heap) (N:List Str) (qual:Str) (scope:Scope) (f:Addr) (cd:Value) (A:Around) (outer:List Env) (s:Shared) (H:Hp) (E:XK):Cx where
  prog:=P
  w:=w
  K:=K
  mg:=mg
  base:=base
  A:=A.deeper (envOfC qual scope s.heap.objs.size f cd)
  N:=N
  s₀:=s
  H₀:=H
  env:=envOfC qual scope s.heap.objs.size f cd
  outer:=outer
  stack:=envOfC qual scope s.heap.objs.size f cd :: outer
  ex:=[]
  calm:=true
  fn:=λ_=>true
  pn:=[]
  xe:=λe s'=>wpAny (model P w) (A.deeper (envOfC qual scope s.heap.objs.size f cd)) (leaving (envOfC qual scope s.heap.objs.size f cd) e) (λ_ s''=>CX outer H s E e s'') (λe' s''=>CX outer H s E e' s'') s'
theorem zv0 {sc:Scope} {n:Nat} {x:Str} (h:sc.names.lookup x = some .cell):∃ c,(cellsFrom n sc.names []).lookup x = some c:=by
  have q:=W.cellsFrom_some sc.names n [] (.inl h)
  exact Option.isSome_iff_exists.mp q
theorem yz7 {CX:CXT} {P:Program} {w:World} {K:W.Frag} {mg:Str->Option Value} {base:Heap} {N ps:List Str} {qual:Str} {scope:Scope} {f:Addr} {cd:Value} {A:Around} {outer:List Env} {s s1:Shared} {H:Hp} {E:XK} {us:List Value} {vs:List V}
    (S:FnScope N ps scope) (hd:A.handled = none) (e0:Env0 P w K mg base A outer s H) (hl:vs.length = ps.length) (r:Vals vs us)
    (x:InCallC s s.heap.objs.size (bindL (envOfC qual scope s.heap.objs.size f cd).kindOf (ps.zip us) λ_=>none) (cellsFrom (s.heap.objs.size + 1) scope.names []) (bindC (envOfC qual scope s.heap.objs.size f cd).kindOf (ps.zip us) λ_=>none) s1) :
    Inv (cxOf CX P w K mg base N qual scope f cd A outer s H E) [] (zk9 N vs) H s1:=by
  have hpl:ps.length<=N.length:=by have:=congrArg List.length S.pre; rw [List.length_take] at this; omega
  obtain ⟨h1,tk,rfl,hk⟩:=x.done
  have noA:∀ b:Addr,b ∉ (cxOf CX P w K mg base N qual scope f cd A outer s H E).ex:=λb z=>absurd (show b ∈ ([]:List Addr) from z) (by simp)
  refine ⟨⟨e0.mod,S.kind,rfl,rfl,Nat.le_refl _,λy z c h1 h2=>?_,λy hy=>?_,λy c _ h=>?_,λ_=>hd,Around.frames_deeper e0.frames,.inr ⟨rfl,rfl⟩,λb z=>absurd z (noA b),e0.bs,e0.bsz,λb _ _=>noA b,λb z=>absurd z (noA b),e0.funs,e0.frf⟩,
    rfl,e0.bare,Un.kept hk,⟨_,x.toInCall.ns,λi y v h1 h2 h3=>?_⟩,λy c h=>⟨_,x.cell y c h⟩,e0.hok.fresh (Nat.le_refl _),λy c h=>?_,λp hp=>absurd (show p ∈ ([]:List (Addr × Obj)) from hp) (by simp),e0.hok.kept hk,?_⟩
  · exact name_of_addr x.apart (PySem.mem_of_lookup h1) (PySem.mem_of_lookup h2)
  · have hy:scope.names.lookup y = some .cell\/scope.names.lookup y = some .free:=hy
    rcases hy with hy | hy
    · exact zv0 hy
    · exact absurd rfl (S.nofree _ (PySem.mem_of_lookup hy))
  · exact Nat.le_of_lt (x.above y c (PySem.mem_of_lookup h))
  · have hi:i < vs.length:=by
      unfold zk9 at h2
      by_cases hi:i < vs.length
      · exact hi
      · rw [List.getElem?_append_right (by simpa using hi)] at h2
        rw [List.getElem?_replicate] at h2
        split at h2 <;> cases h2
    have ha:vs[i]? = some v:=by
      unfold zk9 at h2
      rw [List.getElem?_append_left (by simpa using hi),List.getElem?_map] at h2
      cases e:vs[i]? with
      | none=>rw [e] at h2; cases h2
      | some a=>rw [e] at h2; cases h2; rfl
    obtain ⟨u,hu,rv⟩:=r.get ha
    have hp:ps[i]? = some y:=by
      rw [<- S.pre,List.getElem?_take_of_lt (by omega)]; exact h1
    have ndP:ps.Nodup:=by rw [<- S.pre]; exact S.nd.sublist (List.take_sublist _ _)
    refine ⟨u,rv,?_⟩
    rcases S.par y (List.mem_of_getElem? hp) with k | k
    · exact .inl ⟨k,zy7 ndP hp hu k⟩
    · obtain ⟨c,e⟩:=zv0 (n:=s.heap.objs.size + 1) k
      refine .inr ⟨.inl k,c,e,?_⟩
      have q:=x.cell y c e
      rw [zy8 ndP hp hu (by show scope.names.lookup y ≠ _; rw [k]; decide)] at q
      exact q
  · exact e0.hok.fresh (Nat.le_of_lt (x.above y c (PySem.mem_of_lookup h)))
  · unfold zk9
    show _ = N.length
    rw [List.length_append,List.length_map,List.length_replicate]
    omega
theorem xo1 {CX:CXT} {P:Program} {w:World} {K:W.Frag} {mg:Str->Option Value} {base:Heap} {k:Nat} {f:Addr} {name qual:Str} {params:Arguments} {body:List Stmt} {scope:Scope} {dV kV doc pm cdv ct oc:Value} {an od:Option Addr}
    {osl:Array (Option Value)} {N ps:List Str} {sp:Sp} (lk:K.lookup f = some ⟨oc,od,.func (W.fnOf name qual params body scope dV kV doc pm an cdv ct),osl⟩) (hcd:W.codeIn K cdv qual = true) (S:FnScope N ps scope)
    (len:∀ vs H Q E,sp vs H Q E->vs.length = ps.length)
    (hbody:∀ (A:Around) (outer:List Env) (s:Shared) (H:Hp) (vs:List V) (Q:VK) (E:XK),Room k (A.deeper (envOfC qual scope s.heap.objs.size f cdv))->sp vs H Q E ->
      ∃ t,PSs (cxOf CX P w K mg base N qual scope f cdv A outer s H E) body t/\t { nx:=λ_ H'=>Q .non H',rt:=Q } (zk9 N vs) H) :
    FnOk P w K mg base CX (k + 1) f (W.fnOf name qual params body scope dV kV doc pm an cdv ct) ps sp:=by
  refine ⟨len,λA outer s H args us vs Q E hr e0 hb r hsp=>?_⟩
  have hl:=len _ _ _ _ hsp
  have KX:K.In s.heap:=e0.mod.kin.keeps λb o e=>(e0.bs b o e).1
  have lim:s.heap.NoLimit:=e0.mod.nolimit.keeps λb o e=>(e0.bs b o e).1
  have hkind:∀ y ∈ ps.zip us,scope.names.lookup y.1 = some .local\/(scope.names.lookup y.1 = some .cell/\((cellsFrom (s.heap.objs.size + 1) scope.names []).lookup y.1).isSome = true):=λ⟨n,v⟩ hy=>by
    rcases S.par n (List.of_mem_zip hy).1 with q | q
    · exact .inl q
    · exact .inr ⟨q,W.cellsFrom_some _ _ _ (.inl q)⟩
  refine codeAny_call_function hr.depth (KX _ _ lk) rfl S.co S.gen rfl (W.codeRec_of KX hcd) (hb _ _ _ _ ?_)
  refine wpAny_newFunctionEnv_cells S.kind hkind λenv he s1 x=>?_
  subst he
  refine ⟨lim.keeps x.toInCall.keep,codeAny_func ?_⟩
  obtain ⟨t,ht,hq⟩:=hbody A outer s H vs Q E (hr.deeper _) hsp
  have I:Inv (cxOf CX P w K mg base N qual scope f cdv A outer s H E) [] (zk9 N vs) H s1:=yz7 S hr.hd e0 hl r x
  refine wpAny_mono (ht [] s1 (zk9 N vs) H _ I hq) (λfl s' hs=>?_) λe s' hs=>hs
  have fin:∀ {σ':St} {H':Hp} {v:V} {u:Value},Inv (cxOf CX P w K mg base N qual scope f cdv A outer s H E) [] σ' H' s'->RelV v u->Q v H'->CE outer P w H s Q u s':=
    λ{σ' H' v u} J rv q=>⟨v,H',J.os,J.bare,J.base,J.hok,rv,q⟩
  cases fl with
  | ret u=>
    obtain ⟨v,σ',H',J,rv,q⟩:=hs
    exact fin J rv q
  | next=>
    obtain ⟨σ',H',J,q⟩:=hs
    exact fin (v:=V.non) (u:=Value.none) J rfl q
  | brk=>
    obtain ⟨_,_,_,q⟩:=hs
    exact False.elim q
  | cont=>
    obtain ⟨_,_,_,q⟩:=hs
    exact False.elim q
section
variable {X:Cx} {x:Str} {p pos:Pos} {e:Expr} {es:List Expr} {t:TA} {id T:String} {r:List V->Hp->VK->Prop}
def tCB (r:List V->Hp->VK->Prop) (t:TA):TE:=λσ H Q=>t σ H λvs H1=>r vs H1 Q
theorem zb4 (hc:zn0 X (.builtin id) r) (hg:Gl X x) (hm:X.mg x = none) (hv:bootBuiltins x = some (.builtin id)) (ha:PA X (e :: es) t) (hn:x ≠ "__name__":=by decide) (hdb:(x == ("__debug__" : Str)) = false:=by decide)
    (he:starEach (e :: es) X.env = (false,eval e X.env) :: starEach es X.env:=by rfl) (hpl:(backTo pos (starEach es X.env)).any (·.1) = false:=by rfl):PE X (.Call (.Name x p) (e :: es) [] pos) (tCB r t):=by
  intro pins s σ H Q I h
  refine wpAny_Call_Name_kw (zx6 I hg hm hv ?_ hn hdb)
  exact PyProof.Rows.callWith_builtin1 (thn (ha pos pins s σ H _ I h) λus s1 ⟨vs,H1,I1,r1,q1⟩=>hc pins s1 σ H1 vs us Q I1 r1 q1) he hpl
theorem zc5 (hc:zn0 X (.type T) r) (hg:Gl X x) (hm:X.mg x = none) (hv:bootBuiltins x = some (.type T)) (ha:PA X (e :: es) t) (hn:x ≠ "__name__":=by decide) (hdb:(x == ("__debug__" : Str)) = false:=by decide)
    (he:starEach (e :: es) X.env = (false,eval e X.env) :: starEach es X.env:=by rfl) (hpl:(backTo pos (starEach es X.env)).any (·.1) = false:=by rfl):PE X (.Call (.Name x p) (e :: es) [] pos) (tCB r t):=by
  intro pins s σ H Q I h
  refine wpAny_Call_Name_kw (zx6 I hg hm hv ?_ hn hdb)
  exact PyProof.Rows.callWith_type1 (thn (ha pos pins s σ H _ I h) λus s1 ⟨vs,H1,I1,r1,q1⟩=>hc pins s1 σ H1 vs us Q I1 r1 q1) he hpl
end
end L2
namespace HT
open PySem PyProof.Rows
section
open PySem.SeqAt
open PySem.AutoSeq1 (wpAny_loadPart')
open PySem.MeetsSeq PySem.MeetsSeq2 PySem.MeetsSeq3
end
section
variable {prog:Program} {w:World} {A:Around} {E:Value->Shared->Prop} {s:Shared}
theorem cat_tup {t b:Addr} {vs ws:List Value} {Q:Value->Shared->Prop} (ht:IsTup s.heap t vs.toArray) (hb:IsTup s.heap b ws.toArray) (hv:vs ≠ [])
    (h1:ws = []->Q (.ref t) s) (h2:ws ≠ []->Q (.ref s.heap.objs.size) { s with heap:=s.heap.push { cls:=.type "tuple",data:=.seq (vs ++ ws).toArray } })
    (hsz:vs.length + ws.length<=sizeLine):wpAny (model prog w) A (binaryOp .Add (.ref t) (.ref b)) Q E s:=by
  obtain ⟨⟨cls,dd,data,sl⟩,ho,hc,n,hd⟩:=id ht
  obtain ⟨⟨cls2,dd2,data2,sl2⟩,ho2,hc2,n2,hd2⟩:=id hb
  simp only at hc hd hc2 hd2
  subst hc hd hc2 hd2
  have e:vs.toArray ++ ws.toArray = (vs ++ ws).toArray:=by simp
  by_cases hw:ws = []
  · exact concat_meets ⟨_,ho,rfl⟩ ⟨_,ho2,rfl⟩ noFill_tuple_add seq_tuple_add PySem.F.slot_tuple_add PySem.F.entry_tuple_add (PySem.F.args_tuple_add_2 _ _)
      (tuple_addW1 t b vs.toArray ws.toArray n n2 dd dd2 sl sl2 (by simpa using hv) (by simp [hw])) ⟨ho,ho2,h1 hw⟩
  · refine concat_meets ⟨_,ho,rfl⟩ ⟨_,ho2,rfl⟩ noFill_tuple_add seq_tuple_add PySem.F.slot_tuple_add PySem.F.entry_tuple_add (PySem.F.args_tuple_add_2 _ _)
      (tuple_addW2 t b vs.toArray ws.toArray n n2 dd dd2 sl sl2 (by simpa using hv) (by simpa using hw) (by rw [List.size_toArray,List.size_toArray]; exact hsz)) ⟨ho,ho2,?_⟩
    rw [e]
    exact h2 hw
def sIx (n d:Nat):Option Int->Nat
  | none=>d
  | some v=>if v < 0 then (v + (n:Int)).toNat else min v.toNat n
theorem sIx_nat (n d k:Nat):sIx n d (some (k:Int)) = min k n:=by
  show (if (k:Int) < 0 then ((k:Int) + (n:Int)).toNat else min (k:Int).toNat n) = min k n
  rw [if_neg (by omega),Int.toNat_natCast]
end
end HT
namespace L2
open PySem PySem.Spec PyProof.Rows
abbrev TO:=St->Hp->(Option Int->Hp->Prop)->Prop
def PO (X:Cx) (e:Option Expr) (t:TO):Prop:=
  ∀ (pins:List (Addr × Obj)) (s:Shared) (σ:St) (H:Hp) (Q:Option Int->Hp->Prop),Inv X pins σ H s->t σ H Q ->
    wpAny (model X.prog X.w) X.A (evalPart e X.env) (λu s'=>∃ o H',Inv X pins σ H' s'/\IsPart u o/\Q o H') X.xe s
def xi9:TO:=λ_ H Q=>Q none H
def xu0 (t:TE):TO:=λσ H Q=>t σ H λx H1=>∃ i,x = .int i/\Q (some i) H1
theorem ys4 {ns:List Int}:∀ {us:List Value},Vals (ns.map V.int) us->IntsAre us ns:=by
  induction ns with
  | nil=>intro us r; rw [List.map_nil] at r; cases r; exact .nil
  | cons n ns ih=>
    intro us r
    rw [List.map_cons] at r
    cases r with
    | cons r1 r2=>
      obtain ⟨t,e⟩:=r1
      subst e
      exact .cons n t (ih r2)
section
variable {X:Cx} {e:Expr} {te:TE} {lo hi:Option Expr} {tl th:TO} {pos p2:Pos}
theorem zm0:PO X none xi9:=by
  intro pins s σ H Q I h
  rw [evalPart_none]
  exact wpAny_pure ⟨none,H,I,.none,h⟩
theorem zl9 (h:PE X e te):PO X (some e) (xu0 te):=by
  intro pins s σ H Q I hw
  rw [evalPart_some]
  refine thn (h pins s σ H _ I hw) λu s1 ⟨x,H1,I1,r1,q1⟩=>?_
  obtain ⟨i,rfl,q⟩:=q1
  obtain ⟨t,rfl⟩:=r1
  exact ⟨some i,H1,I1,.int i t,q⟩
def SlR (X:Cx) (r:V->Option Int->Option Int->Hp->VK->Prop):Prop:=
  ∀ (pins:List (Addr × Obj)) (s:Shared) (σ:St) (H:Hp) (x:V) (v vl vu:Value) (lo hi:Option Int) (sl:Addr) (Q:VK),Inv X pins σ H s->RelV x v->s.heap.IsSliceOf sl vl vu .none->IsPart vl lo->IsPart vu hi->r x lo hi H Q ->
    ∃ T id,typeLookup (.type T) "__getitem__" = pure (some (.builtin id))/\s.TypeIs v T/\wpAny (model X.prog X.w) X.A (getItem v (.ref sl)) (EP X pins σ Q) X.xe s
def tSl (r:V->Option Int->Option Int->Hp->VK->Prop) (te:TE) (tl th:TO):TE:=λσ H Q=>te σ H λx H1=>tl σ H1 λl H2=>th σ H2 λu H3=>r x l u H3 Q
theorem zi7 {r:V->Option Int->Option Int->Hp->VK->Prop} (hr:SlR X r) (he:PE X e te) (hl:PO X lo tl) (hu:PO X hi th):PE X (.Subscript e (.Slice lo hi none p2) pos) (tSl r te tl th):=by
  intro pins s σ H Q I h
  refine Subscript_ (thn (he pins s σ H _ I h) λv s1 ⟨x,H1,I1,r1,q1⟩=>?_)
  refine wpAny_Slice (thn (hl pins s1 σ H1 _ I1 q1) λvl s2 ⟨l,H2,I2,pl,q2⟩=>thn (hu pins s2 σ H2 _ I2 q2) λvu s3 ⟨u,H3,I3,pu,q3⟩=>?_)
  rw [evalPart_none]
  refine wpAny_pure ?_
  have I4:Inv X pins σ H3 { s3 with heap:=s3.heap.push { cls:=.type "slice",data:=.fields #[vl,vu,.none] } }:=I3.kept (t':=s3.toks) λb ob q=>Heap.get?_push_of_some _ q
  obtain ⟨T,id,hT,ht,hg⟩:=hr pins { s3 with heap:=s3.heap.push { cls:=.type "slice",data:=.fields #[vl,vu,.none] } } σ H3 x v vl vu l u s3.heap.objs.size Q I4 r1 (Heap.IsSliceOf.new ..) pl pu q3
  show wpAny (model X.prog X.w) X.A (subscriptTail e (.Slice lo hi none p2) v (.ref s3.heap.objs.size)) (EP X pins σ Q) X.xe { s3 with heap:=s3.heap.push { cls:=.type "slice",data:=.fields #[vl,vu,.none] } }
  exact tail_any (ops:=[.ref s3.heap.objs.size,v]) ht hT hg (by with_unfolding_all rfl)
def cutV (xs:List V) (lo hi:Option Int):List V:=(xs.drop (HT.sIx xs.length 0 lo)).take (HT.sIx xs.length xs.length hi - HT.sIx xs.length 0 lo)
theorem yl8 (xs:List V) (lo hi:Option Int):(cutV xs lo hi).length<=xs.length:=by
  unfold cutV
  rw [List.length_take,List.length_drop]
  omega
def xu9 (K:W.Frag):R2:=λx y H Q=>∃ a b xs ys,x = .ref a/\y = .ref b/\SqT K H a xs/\SqT K H b ys/\xs ≠ []/\xs.length + ys.length<=sizeLine /\
  (ys = []->Q (.ref a) H)/\(ys ≠ []->∀ p,H p = none->Q (.ref p) (upd H p (.tup (xs ++ ys))))
theorem Vals.nil_iff {xs:List V} {us:List Value} (r:Vals xs us):us = [] ↔ xs = []:=by
  cases r with
  | nil=>simp
  | cons _ _=>simp
theorem xl3:OpR X (binaryOp .Add) (xu9 X.K):=by
  intro pins s σ H x y v u Q I rx ry h
  obtain ⟨a,b,xs,ys,rfl,rfl,ha,hb,hx,hz,q1,q2⟩:=h
  cases rx
  cases ry
  obtain ⟨its,r1,p1,_⟩:=I.tuple ha
  obtain ⟨its2,r2,p2,_⟩:=I.tuple hb
  refine HT.cat_tup p1 p2 (λz=>hx (r1.nil_iff.mp z)) (λz=>⟨.ref a,H,I,rfl,q1 (r2.nil_iff.mp z)⟩) (λz=>?_) (by rw [<- r1.length,<- r2.length]; exact hz)
  refine ⟨.ref s.heap.objs.size,_,I.laid (t':=s.toks) (o:=.tup (xs ++ ys)) (λb ob q=>Heap.get?_push_of_some _ q) (Nat.le_refl _) ?_,rfl,q2 (λw=>z (r2.nil_iff.mpr w)) _ (I.hok.fresh (Nat.le_refl _))⟩
  exact ⟨by rw [List.length_append]; exact hz,_,r1.append r2,TupN.new _ _⟩
end
def ixN (n:Nat) (i:Int):Option Nat:=if 0<=i then (if i < n then some i.toNat else none) else if -(n:Int)<=i then some (i + n).toNat else none
def atI {α:Type} (xs:List α) (i:Int):Option α:=(ixN xs.length i).bind λj=>xs[j]?
theorem xn4 {n:Nat} {i:Int} {j:Nat} (h:ixN n i = some j):seqIndex? i n = some j/\j < n/\-(n:Int)<=i/\i < n:=by
  unfold ixN at h
  by_cases h0:0<=i
  · rw [if_pos h0] at h
    by_cases h1:i < n
    · rw [if_pos h1] at h
      have e:i.toNat = j:=Option.some.inj h
      exact ⟨by rw [seqIndex_of h0 h1,e],by omega,by omega,h1⟩
    · rw [if_neg h1] at h; cases h
  · rw [if_neg h0] at h
    by_cases h1:-(n:Int)<=i
    · rw [if_pos h1] at h
      have e:(i + n).toNat = j:=Option.some.inj h
      exact ⟨by rw [seqIndex_neg (by omega) h1,e],by omega,h1,by omega⟩
    · rw [if_neg h1] at h; cases h
theorem yl9 {α:Type} {xs:List α} {i:Int} {v:α} (h:atI xs i = some v):∃ j,seqIndex? i xs.length = some j/\xs[j]? = some v/\j < xs.length/\-(xs.length:Int)<=i/\i < xs.length:=by
  unfold atI at h
  cases e:ixN xs.length i with
  | none=>rw [e] at h; cases h
  | some j=>
    rw [e] at h
    obtain ⟨h1,h2,h3,h4⟩:=xn4 e
    exact ⟨j,h1,h,h2,h3,h4⟩
theorem zo3 {α:Type} {xs:List α} {j:Nat} {v:α} (h:xs[j]? = some v):atI xs (j:Int) = some v:=by
  have hj:j < xs.length:=(List.getElem?_eq_some_iff.mp h).1
  have e:ixN xs.length (j:Int) = some j:=by
    unfold ixN
    rw [if_pos (by omega),if_pos (by omega)]; simp
  unfold atI; rw [e]; exact h
def xb9 (b:Expr):Prop:=∀ o i,subscripted b false o i = operate [o,i] (getItem o i)
def IxR (X:Cx) (r:R2):Prop:=
  ∀ (value slice:Expr) (pins:List (Addr × Obj)) (s:Shared) (σ:St) (H:Hp) (x y:V) (v u:Value) (Q:VK),Inv X pins σ H s->RelV x v->RelV y u->r x y H Q ->
    subscripted slice false v u = operate [v,u] (getItem v u)->wpAny (model X.prog X.w) X.A (subscriptTail value slice v u) (EP X pins σ Q) X.xe s
def MtR (X:Cx) (id:String) (r:V->List V->Hp->VK->Prop):Prop:=
  ∀ (pins:List (Addr × Obj)) (s:Shared) (σ:St) (H:Hp) (x:V) (xs:List V) (v:Value) (us:List Value) (Q:VK),Inv X pins σ H s->RelV x v->Vals xs us->r x xs H Q ->
    wpAny (model X.prog X.w) X.A (call (.builtin id) (v :: us)) (EP X pins σ Q) X.xe s
section
variable {X:Cx} {a b:Expr} {ta tb:TE} {pos:Pos}
theorem ye0 {r:R2} (hr:IxR X r) (ha:PE X a ta) (hb:PE X b tb) (hs:xb9 b):PE X (.Subscript a b pos) (tOp r ta tb):=by
  intro pins s σ H Q I h
  exact Subscript_ (binT ha hb I h λv u s2 x y H2 I2 rx ry q=>hr a b pins s2 σ H2 x y v u Q I2 rx ry q (hs _ _))
def rIxL (K:W.Frag):R2:=λx y H Q=>∃ p xs i v,x = .ref p/\y = .int i/\SqL K H p xs/\atI xs i = some v/\Q v H
def rIxT (K:W.Frag):R2:=λx y H Q=>∃ p xs i v,x = .ref p/\y = .int i/\SqT K H p xs/\atI xs i = some v/\Q v H
def rIxS:R2:=λx y H Q=>∃ z i c,x = .str z/\y = .int i/\z.length<=sizeLine/\atI z.cps.toList i = some c/\Q (.str ⟨#[c]⟩) H
theorem zs4:IxR X (rIxL X.K):=by
  intro value slice pins s σ H x y v u Q I rx ry h hs
  obtain ⟨p,xs,i,z,rfl,rfl,hq,he,q⟩:=h
  cases rx
  obtain ⟨t,rfl⟩:=ry
  obtain ⟨its,r,pl,hz⟩:=I.list hq
  obtain ⟨j,h1,h2,h3,h4,h5⟩:=yl9 he
  obtain ⟨w,ew,rw'⟩:=r.get h2
  have hl:=r.length
  have hn:=yh9
  have fin:EP X pins σ Q w s:=⟨z,H,I,rw',q⟩
  by_cases h0:0<=i
  · have hj:i.toNat = j:=by
      rw [seqIndex_of h0 h5] at h1
      exact Option.some.inj h1
    exact item_listR pl.isList h0 (by omega) (by rw [hj]; simpa using ew) fin hs
  · have hj:(i + (its.toArray.size:Int)).toNat = j:=by
      rw [seqIndex_neg (by omega) h4] at h1
      rw [List.size_toArray,<- hl]
      exact Option.some.inj h1
    exact subscriptTail_builtinR (x:=w) pl.isList.typeIs slot_list_getitem.lookup
      (wpAny_getItem_list_neg (Q:=λr s'=>r = w/\EP X pins σ Q r s') pl.isList (by omega) (by rw [List.size_toArray] <;> omega) (by omega) (by rw [hj]; simpa using ew) ⟨rfl,fin⟩) hs
theorem xi4:IxR X (rIxT X.K):=by
  intro value slice pins s σ H x y v u Q I rx ry h hs
  obtain ⟨p,xs,i,z,rfl,rfl,hq,he,q⟩:=h
  cases rx
  obtain ⟨t,rfl⟩:=ry
  obtain ⟨its,r,pl,hz⟩:=I.tuple hq
  obtain ⟨j,h1,h2,h3,h4,h5⟩:=yl9 he
  obtain ⟨w,ew,rw'⟩:=r.get h2
  have hl:=r.length
  have hn:=yh9
  have fin:EP X pins σ Q w s:=⟨z,H,I,rw',q⟩
  exact subscriptTail_builtinR (x:=w) pl.typeIs slot_tuple_getitem.lookup
    (getItem_tuple (j:=j) (Q:=λr s'=>r = w/\EP X pins σ Q r s') pl (by omega) (by omega) (by rw [List.size_toArray,<- hl]; exact h1) (by simpa using ew) ⟨rfl,fin⟩) hs
theorem xt1:IxR X rIxS:=by
  intro value slice pins s σ H x y v u Q I rx ry h hs
  obtain ⟨z,i,c,rfl,rfl,hz,he,q⟩:=h
  obtain ⟨t,rfl⟩:=rx
  obtain ⟨t',rfl⟩:=ry
  obtain ⟨j,h1,h2,h3,h4,h5⟩:=yl9 he
  have hl:z.cps.toList.length = z.length:=by simp [Str.length]
  rw [hl] at h1 h4 h5
  have hn:=yh9
  exact tail_any (typeIs_str s z t) slot_str_getitem.lookup (getItem_str (c:=c) (by
    have e1:decide (i < -(2 ^ 63:Int)) = false:=decide_eq_false (by omega)
    have e2:decide (i ≥ 2 ^ 63) = false:=decide_eq_false (by omega)
    rw [e1,e2,Bool.or_false]) (by rw [h1]; simpa using h2) ⟨.str ⟨#[c]⟩,H,I.tok _,⟨_,rfl⟩,q⟩) hs
theorem yg7 (lo hi:Option Int) (n:Nat):(sliceBounds lo hi none n).1 = ((HT.sIx n 0 lo:Nat):Int)/\(sliceBounds lo hi none n).2.1 = ((HT.sIx n n hi:Nat):Int)/\(sliceBounds lo hi none n).2.2 = 1:=by
  refine ⟨?_,?_,rfl⟩
  · cases lo with
    | none=>simp [sliceBounds,HT.sIx]
    | some i=>
      simp only [sliceBounds,HT.sIx,Option.getD_none,show (1:Int) > 0 by decide,if_true]
      by_cases h:i < 0
      · simp only [h,if_true] <;> omega
      · simp only [h,if_false] <;> omega
  · cases hi with
    | none=>simp [sliceBounds,HT.sIx]
    | some i=>
      simp only [sliceBounds,HT.sIx,Option.getD_none,show (1:Int) > 0 by decide,if_true]
      by_cases h:i < 0
      · simp only [h,if_true] <;> omega
      · simp only [h,if_false] <;> omega
theorem yd6 (its:List Value) (lo hi:Option Int):slicePick its.toArray lo hi none = ((its.drop (HT.sIx its.length 0 lo)).take (HT.sIx its.length its.length hi - HT.sIx its.length 0 lo)).toArray:=by
  obtain ⟨h1,h2,h3⟩:=yg7 lo hi its.toArray.size
  unfold slicePick
  rw [h1,h2,h3]
  simp only [sliceRange_one,pick_run,List.size_toArray] <;> rfl
def rSlL (K:W.Frag):V->Option Int->Option Int->Hp->VK->Prop:=λx lo hi H Q=>∃ a xs,x = .ref a/\SqL K H a xs/\∀ p,H p = none->Q (.ref p) (upd H p (.lst (cutV xs lo hi)))
theorem zl5:SlR X (rSlL X.K):=by
  intro pins s σ H x v vl vu lo hi sl Q I rx hs pl pu h
  obtain ⟨a,xs,rfl,hx,q⟩:=h
  cases rx
  obtain ⟨its,r,ht,hz⟩:=I.list hx
  have hlen:=r.length
  refine ⟨"list",_,slot_list_getitem.lookup,ht.isList.typeIs,?_⟩
  refine wpAny_getItem_list_slice ht.isList hs pl pu .none (by simp) ?_ (by rw [List.size_toArray] <;> omega)
  rw [yd6,<- hlen]
  refine ⟨.ref s.heap.objs.size,_,I.laid (t':=s.toks) (o:=.lst (cutV xs lo hi)) (λb ob q=>Heap.get?_push_of_some _ q) (Nat.le_refl _) ?_,rfl,q _ (I.hok.fresh (Nat.le_refl _))⟩
  exact ⟨Nat.le_trans (yl8 xs lo hi) hz,_,0,(r.drop (HT.sIx xs.length 0 lo)).take (HT.sIx xs.length xs.length hi - HT.sIx xs.length 0 lo),Heap.get?_push_size _ rfl⟩
def zf2:V->Bool
  | .non=>true
  | .bl _=>true
  | .int _=>true
  | .str _=>true
  | _=>false
def eqV:V->V->Bool
  | .non,.non=>true
  | .bl a,.bl b=>a == b
  | .bl a,.int b=>(if a then 1 else 0) == b
  | .int a,.bl b=>a == (if b then 1 else 0)
  | .int a,.int b=>a == b
  | .str a,.str b=>a == b
  | _,_=>false
theorem xi5 {A:Around} {s:Shared} {y x:V} {u v:Value} (ry:RelV y u) (rx:RelV x v) (fy:zf2 y = true) (fx:zf2 x = true):SeqAt.EqAt A s u v (eqV y x):=by
  cases y with
  | non=>
    cases ry
    cases x with
    | non=>cases rx; exact SeqAt.EqAt.same _
    | bl b=>cases rx; exact SeqAt.EqAt.none_bool b
    | int b=>obtain ⟨t,rfl⟩:=rx; exact SeqAt.EqAt.none_int b t
    | str b=>obtain ⟨t,rfl⟩:=rx; exact SeqAt.EqAt.none_str b t
    | _=>exact absurd (show false = true from fx) Bool.false_ne_true
  | bl a=>
    cases ry
    cases x with
    | non=>cases rx; exact SeqAt.EqAt.bool_none a
    | bl b=>cases rx; exact SeqAt.EqAt.bool_bool a b
    | int b=>obtain ⟨t,rfl⟩:=rx; exact SeqAt.EqAt.bool_int a b t
    | str b=>obtain ⟨t,rfl⟩:=rx; exact SeqAt.EqAt.bool_str a b t
    | _=>exact absurd (show false = true from fx) Bool.false_ne_true
  | int a=>
    obtain ⟨t',rfl⟩:=ry
    cases x with
    | non=>cases rx; exact SeqAt.EqAt.int_none a t'
    | bl b=>cases rx; exact SeqAt.EqAt.int_bool a t' b
    | int b=>obtain ⟨t,rfl⟩:=rx; exact SeqAt.EqAt.int_int a t' b t
    | str b=>obtain ⟨t,rfl⟩:=rx; exact SeqAt.EqAt.int_str a t' b t
    | _=>exact absurd (show false = true from fx) Bool.false_ne_true
  | str a=>
    obtain ⟨t',rfl⟩:=ry
    cases x with
    | non=>cases rx; exact SeqAt.EqAt.str_none a t'
    | bl b=>cases rx; exact SeqAt.EqAt.str_bool a t' b
    | int b=>obtain ⟨t,rfl⟩:=rx; exact SeqAt.EqAt.str_int a t' b t
    | str b=>obtain ⟨t,rfl⟩:=rx; exact SeqAt.EqAt.str_str a t' b t
    | _=>exact absurd (show false = true from fx) Bool.false_ne_true
  | _=>exact absurd (show false = true from fy) Bool.false_ne_true
def eqU (x:V) (u:Value):Bool:=match u with
  | .none=>eqV .non x
  | .bool b=>eqV (.bl b) x
  | .int i _=>eqV (.int i) x
  | .str z _=>eqV (.str z) x
  | _=>false
theorem yo6 {x y:V} {u:Value} (r:RelV y u) (f:zf2 y = true):eqU x u = eqV y x:=by
  cases y with
  | non=>cases r; rfl
  | bl b=>cases r; rfl
  | int i=>obtain ⟨t,rfl⟩:=r; rfl
  | str z=>obtain ⟨t,rfl⟩:=r; rfl
  | _=>exact absurd (show false = true from f) Bool.false_ne_true
theorem zz0 {x:V}:∀ {xs:List V} {us:List Value},Vals xs us->xs.all zf2 = true->us.any (eqU x) = xs.any λy=>eqV y x
  | _,_,.nil,_=>rfl
  | y :: xs,u :: us,.cons r t,f=>by
    rw [List.all_cons,Bool.and_eq_true] at f
    rw [List.any_cons,List.any_cons,yo6 r f.1,zz0 t f.2]
theorem zi8 {A:Around} {s:Shared} {x:V} {v:Value} (rx:RelV x v) (fx:zf2 x = true):∀ {xs:List V} {us:List Value},Vals xs us->xs.all zf2 = true->∀ u ∈ us,SeqAt.EqAt A s u v (eqU x u)
  | _,_,.nil,_=>λu hu=>by cases hu
  | y :: xs,u :: us,.cons r t,f=>λu' hu=>by
    rw [List.all_cons,Bool.and_eq_true] at f
    rcases List.mem_cons.mp hu with rfl | hu
    · rw [yo6 r f.1]; exact xi5 r rx f.1 fx
    · exact zi8 rx fx t f.2 u' hu
def inV (x:V) (xs:List V):Bool:=xs.any λy=>eqV y x
def rIn (K:W.Frag) (neg:Bool):R2:=λx y H Q=>∃ p xs,y = .ref p/\(SqL K H p xs\/SqT K H p xs)/\zf2 x = true/\xs.all zf2 = true/\Q (.bl (if neg then !inV x xs else inV x xs)) H
theorem zm2:OpR X (compareOp .In) (rIn X.K false):=by
  intro pins s σ H x y v u Q I rx ry h
  obtain ⟨p,xs,rfl,hq,fx,fs,q⟩:=h
  cases ry
  rcases hq with hq | hq
  · obtain ⟨its,r,pl,hz⟩:=I.list hq
    refine SeqAt.in_listAt (eqU x) pl.isList (λw hw=>zi8 rx fx r fs w (by simpa using hw)) ⟨.bl _,H,I,rfl,?_⟩
    rw [show its.toArray.any (eqU x) = its.any (eqU x) by simp,zz0 r fs]
    exact q
  · obtain ⟨its,r,pl,hz⟩:=I.tuple hq
    refine SeqAt.in_tupleAt (eqU x) pl (λw hw=>zi8 rx fx r fs w (by simpa using hw)) ⟨.bl _,H,I,rfl,?_⟩
    rw [show its.toArray.any (eqU x) = its.any (eqU x) by simp,zz0 r fs]
    exact q
theorem zt5:OpR X (compareOp .NotIn) (rIn X.K true):=by
  intro pins s σ H x y v u Q I rx ry h
  obtain ⟨p,xs,rfl,hq,fx,fs,q⟩:=h
  cases ry
  rcases hq with hq | hq
  · obtain ⟨its,r,pl,hz⟩:=I.list hq
    refine SeqAt.notIn_listAt (eqU x) pl.isList (λw hw=>zi8 rx fx r fs w (by simpa using hw)) ⟨.bl _,H,I,rfl,?_⟩
    rw [show its.toArray.any (eqU x) = its.any (eqU x) by simp,zz0 r fs]
    exact q
  · obtain ⟨its,r,pl,hz⟩:=I.tuple hq
    refine SeqAt.notIn_tupleAt (eqU x) pl (λw hw=>zi8 rx fx r fs w (by simpa using hw)) ⟨.bl _,H,I,rfl,?_⟩
    rw [show its.toArray.any (eqU x) = its.any (eqU x) by simp,zz0 r fs]
    exact q
theorem zc3:zn0 X (.builtin "len") (λxs H Q=>∃ p ys,xs = [.ref p]/\(SqL X.K H p ys\/SqT X.K H p ys)/\Q (.int ys.length) H):=by
  intro pins s σ H xs us Q I r h
  obtain ⟨p,ys,rfl,hq,q⟩:=h
  obtain ⟨u,rfl,rx⟩:=zt6 r
  cases rx
  have hn:=yh9
  rcases hq with hq | hq
  · obtain ⟨its,r',pl,hz⟩:=I.list hq
    have hlen:=r'.length
    exact Calls.call_len_list pl.isList (by simp only [List.size_toArray] <;> omega) ⟨.int ys.length,H,I.tok _,⟨s.toks + 1,by rw [List.size_toArray,hlen]⟩,q⟩
  · obtain ⟨its,r',pl,hz⟩:=I.tuple hq
    have hlen:=r'.length
    exact len_tuple pl (by simp only [List.size_toArray] <;> omega) ⟨.int ys.length,H,I.tok _,⟨s.toks + 1,by rw [List.size_toArray,hlen]⟩,q⟩
theorem zj1:zn0 X (.type "list") (λxs H Q=>∃ p ys,xs = [.ref p]/\(SqL X.K H p ys\/SqT X.K H p ys)/\∀ l,H l = none->Q (.ref l) (upd H l (.lst ys))):=by
  intro pins s σ H xs us Q I r h
  obtain ⟨p,ys,rfl,hq,q⟩:=h
  obtain ⟨u,rfl,rx⟩:=zt6 r
  cases rx
  have fin:∀ (its:List Value),Vals ys its->ys.length<=sizeLine->∀ (h':Heap) (c':Nat),(∀ b o',s.heap.get? b = some o'->h'.get? b = some o') ->
      h'.get? s.heap.objs.size = some { cls:=.type "list",dict:=none,data:=.seq its.toArray c',slots:=#[] }->EP X pins σ Q (.ref s.heap.objs.size) { s with heap:=h' }:=λits r' hz h' c' kp e=>
    ⟨.ref s.heap.objs.size,_,I.laid (t':=s.toks) kp (Nat.le_refl _) (show zd7 X.prog X.w _ h' _ (.lst ys) from ⟨hz,its,c',r',e⟩),rfl,q _ (I.hok.fresh (Nat.le_refl _))⟩
  rcases hq with hq | hq
  · obtain ⟨its,r',pl,hz⟩:=I.list hq
    have hlen:=r'.length
    obtain ⟨o,ho,hc,n,hd⟩:=pl.isList
    exact call_list_seq p (.inl rfl) ho hc hd (λh' c' kp e=>fin its r' hz h' c' kp e) (by simp only [List.size_toArray] <;> omega)
  · obtain ⟨its,r',pl,hz⟩:=I.tuple hq
    have hlen:=r'.length
    obtain ⟨o,ho,hc,n,hd⟩:=pl
    exact call_list_seq p (.inr rfl) ho hc hd (λh' c' kp e=>fin its r' hz h' c' kp e) (by simp only [List.size_toArray] <;> omega)
theorem zc8:zn0 X (.type "tuple") (λxs H Q=>∃ p ys,xs = [.ref p]/\((SqL X.K H p ys/\∀ l,H l = none->Q (.ref l) (upd H l (.tup ys)))\/(SqT X.K H p ys/\Q (.ref p) H))):=by
  intro pins s σ H xs us Q I r h
  obtain ⟨p,ys,rfl,h⟩:=h
  obtain ⟨u,rfl,rx⟩:=zt6 r
  cases rx
  rcases h with ⟨hq,q⟩ | ⟨hq,q⟩
  · obtain ⟨its,r',pl,hz⟩:=I.list hq
    have hlen:=r'.length
    refine call_tuple_list pl.isList (λh' kp=>?_) (by simp only [List.size_toArray] <;> omega)
    have I1:Inv X pins σ H { s with heap:=h' }:=I.kept (t':=s.toks) kp
    have I2:Inv X pins σ (upd H h'.objs.size (.tup ys)) { s with heap:=h'.push { cls:=.type "tuple",data:=.seq its.toArray } }:=
      I1.laid (t':=s.toks) (λb o e=>Heap.get?_push_of_some _ e) (Nat.le_refl _) (show zd7 X.prog X.w _ _ _ (.tup ys) from ⟨hz,its,r',TupN.new _ _⟩)
    exact ⟨.ref h'.objs.size,_,I2,rfl,q _ (I1.hok.fresh (Nat.le_refl _))⟩
  · obtain ⟨its,r',pl,hz⟩:=I.tuple hq
    exact call_tuple_same pl ⟨.ref p,H,I,rfl,q⟩
def tyV (K:W.Frag) (T:String) (x:V) (H:Hp):Prop:=match x with
  | .str _=>T = "str"
  | .int _=>T = "int"
  | .ref p=>(T = "list"/\∃ xs,SqL K H p xs)\/(T = "tuple"/\∃ o,K.lookup p = some o/\o.cls = .type "tuple"/\o.dict = none) \/
      (T = "dict"/\((∃ kvs,H p = some (.dK kvs))\/∃ kvs,H p = some (.dT kvs)))\/(T = "set"/\∃ S n,H p = some (.set S n))
  | _=>False
theorem xo9 {pins:List (Addr × Obj)} {σ:St} {H:Hp} {s:Shared} {T:String} {x:V} {v:Value} (I:Inv X pins σ H s) (r:RelV x v) (ty:tyV X.K T x H) :
    s.TypeIs v T/\∀ a,v = .ref a->∃ ob,s.heap.get? a = some ob/\ob.dict = none:=by
  cases x with
  | str z=>
    obtain ⟨t,rfl⟩:=r
    cases (show T = "str" from ty)
    exact ⟨typeIs_str s z t,λ_ e=>nomatch e⟩
  | int i=>
    obtain ⟨t,rfl⟩:=r
    cases (show T = "int" from ty)
    exact ⟨typeIs_int s i t,λ_ e=>nomatch e⟩
  | ref p=>
    cases r
    rcases ty with ⟨rfl,xs,hq⟩ | ⟨rfl,o,hk,hc,hd⟩ | ⟨rfl,hk⟩ | ⟨rfl,S,n,hk⟩
    · obtain ⟨its,_,pl,_⟩:=I.list hq
      refine ⟨pl.isList.typeIs,λa e=>?_⟩
      cases e
      obtain ⟨o,n,e,c,hd,_⟩:=pl
      exact ⟨o,e,hd⟩
    · refine ⟨⟨o,I.kIn p o hk,hc⟩,λa e=>?_⟩
      cases e
      exact ⟨o,I.kIn _ o hk,hd⟩
    · have z:∃ o,s.heap.get? p = some o/\o.ExactDict:=by
        rcases hk with ⟨kvs,hk⟩ | ⟨kvs,hk⟩
        · obtain ⟨_,_,_,_,o,_,_,e,ex,_⟩:=I.hok p _ hk
          exact ⟨o,e,ex⟩
        · obtain ⟨_,_,_,_,o,_,_,e,ex,_⟩:=I.hok p _ hk
          exact ⟨o,e,ex⟩
      obtain ⟨o,e,ex⟩:=z
      refine ⟨⟨o,e,ex.1⟩,λa e2=>?_⟩
      cases e2
      exact ⟨o,e,ex.2.1⟩
    · obtain ⟨o,_,_,_,e,ex,_⟩:=I.hok p _ hk
      refine ⟨⟨o,e,ex.1⟩,λa e2=>?_⟩
      cases e2
      exact ⟨o,e,ex.2.1⟩
  | _=>exact False.elim ty
def tBM (K:W.Frag) (T:String) (r:V->List V->Hp->VK->Prop) (to:TE) (t:TA):TE:=λσ H Q=>to σ H λx H1=>tyV K T x H1/\t σ H1 λxs H2=>r x xs H2 Q
variable {o e:Expr} {es:List Expr} {to:TE} {t:TA} {name:Str} {apos cpos:Pos} {T id:String} {r:V->List V->Hp->VK->Prop}
theorem zz2 (pa:PlainAttrs T) (slot:Slot T name id) (hty:typeOf (.builtin id) = pure (.type "method_descriptor")) (hm:MtR X id r) (ho:PE X o to) (ha:PA X (e :: es) t)
    (hbase:attributeBase o name X.env (eval o X.env) = eval o X.env:=by rfl)
    (hfew:((backTo cpos (starEach (e :: es) X.env)).all (λx=>!x.1) && (backToKw cpos (keywordEach [] X.env)).all (λx=>x.1.isSome)
      && decide ((e :: es).length + ([]:List Keyword).length + (if ([]:List Keyword).isEmpty then 0 else 1) < 30)) = true:=by rfl)
    (hline:(apos.endLine == cpos.line) = true:=by rfl) (hs:starEach (e :: es) X.env = (false,eval e X.env) :: starEach es X.env:=by rfl) (hplain:(backTo cpos (starEach es X.env)).any (·.1) = false:=by rfl) :
    PE X (.Call (.Attribute o name apos) (e :: es) [] cpos) (tBM X.K T r to t):=by
  intro pins s σ H Q I h
  refine wpAny_Call_method_late hbase hfew hline rfl (thn (ho pins s σ H _ I h) λv s1 ⟨x,H1,I1,r1,ty,q1⟩=>?_)
  obtain ⟨h1,h2⟩:=xo9 I1 r1 ty
  refine ⟨T,id,pa,slot,hty,h1,h2,?_⟩
  have hA:=ha cpos pins s1 σ H1 _ I1 q1
  rw [hs] at hA ⊢
  refine Calls.callWith_builtin (by show (false || (backTo cpos (starEach es X.env)).any (·.1)) = false; rw [hplain] <;> rfl) (Calls.evalArgs_plain ?_)
  exact thn hA λus s2 ⟨vs,H2,I2,r2,q2⟩=>hm pins s2 σ H2 x vs v us Q I2 r1 r2 q2
/- xs.append(e),list.index on a module's tuple .. are MtR facts of 06m -/
end
def MtM (X:Cx) (id:String) (r:V->List V->Hp->VK->Prop):Prop:=
  ∀ (pins:List (Addr × Obj)) (s:Shared) (σ:St) (H:Hp) (x:V) (xs:List V) (v:Value) (us:List Value) (Q:VK),Inv X pins σ H s->RelV x v->Vals xs us->r x xs H Q ->
    wpAny (model X.prog X.w) X.A (call (.builtin id) (v :: us)) (EP X pins σ Q) X.xe s
theorem Vals.one:∀ {x:V} {us:List Value},Vals [x] us->∃ u,us = [u]/\RelV x u
  | _,_,.cons r .nil=>⟨_,rfl,r⟩
theorem Vals.rep {xs:List V} {us:List Value} (h:Vals xs us):∀ k:Nat,Vals (List.replicate k xs).flatten (List.replicate k us).flatten
  | 0=>.nil
  | k + 1=>by
    rw [List.replicate_succ,List.replicate_succ,List.flatten_cons,List.flatten_cons]
    exact Vals.append h (Vals.rep h k)
theorem yi6 (its:List Value):∀ (k:Nat) (acc:List Value),
    List.foldl (λx1 x2=>x1 ++ x2) acc.toArray (List.replicate k its.toArray) = (acc ++ (List.replicate k its).flatten).toArray
  | 0,acc=>by simp
  | k + 1,acc=>by
    have e:acc.toArray ++ its.toArray = (acc ++ its).toArray:=by simp
    have e2:(acc ++ its) ++ (List.replicate k its).flatten = acc ++ (List.replicate (k + 1) its).flatten:=by
      rw [List.replicate_succ,List.flatten_cons,List.append_assoc]
    rw [<- e2,<- yi6 its k (acc ++ its),<- e,List.replicate_succ,List.foldl_cons]
section
variable {X:Cx} {pins:List (Addr × Obj)} {σ:St} {H:Hp} {s:Shared} {l b:Addr} {xs ys zs:List V}
theorem Inv.lset {its its':List Value} {n:Nat} {f:Array Value->Array Value} {t':Nat} (I:Inv X pins σ H s) (hH:H l = some (.lst xs))
    (e:s.heap.get? l = some { cls:=.type "list",data:=.seq its.toArray n }) (hf:f its.toArray = its'.toArray) (hv:Vals ys its') (hz:ys.length<=sizeLine) :
    Inv X pins σ (upd H l (.lst ys)) { s with heap:=s.heap.update l (Obj.mapSeq f),toks:=t' }:=by
  have q:=PySem.IsL.update e f
  rw [hf] at q
  refine I.write (x:=l) (e:=l) (by rw [hH]; exact trivial) (.inl rfl) (λb' u hb hu=>(Heap.get?_update_other s.heap (Obj.mapSeq f) (Ne.symm hb)).trans hu) ⟨_,q⟩ ?_
  exact ⟨hz,its',_,hv,q⟩
theorem Inv.lnew {its:List Value} {t':Nat} (I:Inv X pins σ H s) (hv:Vals ys its) (hz:ys.length<=sizeLine) :
    Inv X pins σ (upd H s.heap.objs.size (.lst ys)) { s with heap:=s.heap.push { cls:=.type "list",data:=.seq its.toArray },toks:=t' }:=
  I.laid (λ_ _ q=>Heap.get?_push_of_some _ q) (Nat.le_refl _) ⟨hz,its,0,hv,Heap.get?_push_size _ rfl⟩
theorem Inv.fresh (I:Inv X pins σ H s):H s.heap.objs.size = none:=I.hok.fresh (Nat.le_refl _)
theorem Inv.lstM (I:Inv X pins σ H s) (hH:H l = some (.lst xs)):xs.length<=sizeLine/\∃ (its:List Value) (n:Nat),Vals xs its/\xs.length = its.length/\s.heap.get? l = some { cls:=.type "list",data:=.seq its.toArray n }:=by
  obtain ⟨z,its,n,r,e⟩:=I.hok l _ hH
  exact ⟨z,its,n,r,r.length,e⟩
theorem yn6 {n:Nat} (h:n<=sizeLine):Builtin.List.listTooLong n = false:=by
  unfold Builtin.List.listTooLong
  exact decide_eq_false (by omega)
end
section
variable {X:Cx}
def xk2:V->List V->Hp->VK->Prop:=λx vs H Q=>∃ l xs y,x = .ref l/\vs = [y]/\H l = some (.lst xs)/\xs.length < sizeLine/\Q .non (upd H l (.lst (xs ++ [y])))
theorem zp5:MtM X "list.append" xk2:=by
  intro pins s σ H x vs v us Q I rx rv h
  obtain ⟨l,xs,y,rfl,rfl,hH,hz,q⟩:=h
  cases rx
  obtain ⟨u,rfl,ru⟩:=rv.one
  obtain ⟨z,its,n,r,hl,e⟩:=I.lstM hH
  refine call_meets F.slot_list_append ⟨_,e,rfl⟩ F.entry_list_append (F.args_list_append_2 _ _) (PySem.list_append l its.toArray n u (by rw [List.size_toArray]; omega)) ⟨e,?_⟩
  refine ⟨.non,_,I.lset (its':=its ++ [u]) hH e (by simp) (r.append (.cons ru .nil)) ?_,rfl,q⟩
  rw [List.length_append,List.length_singleton]
  omega
def rCat:R2:=λx y H Q=>∃ l b xs zs,x = .ref l/\y = .ref b/\H l = some (.lst xs)/\H b = some (.lst zs)/\xs.length + zs.length<=sizeLine/\∀ p,H p = none->Q (.ref p) (upd H p (.lst (xs ++ zs)))
theorem zm3:OpR X (binaryOp .Add) rCat:=by
  intro pins s σ H x y v u Q I rx ry h
  obtain ⟨l,b,xs,zs,rfl,rfl,hH,hB,hz,q⟩:=h
  cases rx
  cases ry
  obtain ⟨z,its,n,r,hl,e⟩:=I.lstM hH
  obtain ⟨z2,its2,n2,r2,hl2,e2⟩:=I.lstM hB
  refine PySem.P.add_list e e2 ?_ (by rw [List.size_toArray,List.size_toArray]; omega)
  have ea:its.toArray ++ its2.toArray = (its ++ its2).toArray:=by simp
  rw [ea]
  exact ⟨.ref _,_,I.lnew (t':=s.toks) (r.append r2) (by rw [List.length_append]; omega),rfl,q _ I.fresh⟩
def rRep:R2:=λx y H Q=>∃ l k xs,x = .ref l/\y = .int k/\H l = some (.lst xs)/\-(2 ^ 63)<=k/\k < 2 ^ 63/\xs.length * k.toNat<=sizeLine /\
  ∀ p,H p = none->Q (.ref p) (upd H p (.lst (List.replicate k.toNat xs).flatten))
theorem xm9 {α:Type} (xs:List α) (k:Nat):(List.replicate k xs).flatten.length = k * xs.length:=by
  induction k with
  | zero=>simp
  | succ k ih=>rw [List.replicate_succ,List.flatten_cons,List.length_append,ih,Nat.succ_mul,Nat.add_comm]
theorem xh9:OpR X (binaryOp .Mult) rRep:=by
  intro pins s σ H x y v u Q I rx ry h
  obtain ⟨l,k,xs,rfl,rfl,hH,h1,h2,hz,q⟩:=h
  cases rx
  obtain ⟨t,rfl⟩:=ry
  obtain ⟨z,its,n,r,hl,e⟩:=I.lstM hH
  have hlen:its.toArray.size * k.toNat<=sizeLine:=by rw [List.size_toArray,<- hl]; exact hz
  have hcap:¬ its.toArray.size * k.toNat > (2 ^ 63 - 1) / 8:=by
    have:(sizeLine:Nat)<=(2 ^ 63 - 1) / 8:=by decide
    omega
  have hfit:¬ (!Builtin.List.listFitsIndex k) = true:=by
    rw [fitsIndex_both h1 h2]
    exact Bool.false_ne_true
  have hlong:¬ Builtin.List.listTooLong (its.toArray.size * k.toNat) = true:=by
    rw [yn6 hlen]
    exact Bool.false_ne_true
  have hnew:List.foldl (λx1 x2=>x1 ++ x2) #[] (List.replicate (if its.toArray.isEmpty = true then 0 else k.toNat) its.toArray) = (List.replicate k.toNat its).flatten.toArray:=by
    have f0:∀ m:Nat,List.foldl (λx1 x2=>x1 ++ x2) #[] (List.replicate m its.toArray) = (List.replicate m its).flatten.toArray:=λm=>by
      have:=yi6 its m []
      rw [List.nil_append] at this
      exact this
    rw [f0]
    cases its with
    | nil=>simp
    | cons a r'=>rw [if_neg (by simp)]
  refine wpAny_binaryOp_repeat_ref (T:="list") (U:="int") (by decide) ⟨_,e,rfl⟩ (λs'=>typeIs_int s' k t) noFill_list_mul F.fills_int_mul F.slot_int_rmul repeat_list F.slot_int_index.lookup
    (call_meets F.slot_int_rmul (typeIs_int s k t) F.entry_int_rmul (F.args_int_rmul_2 _ _) (int___rmul___int_list k t l its.toArray n)
      ⟨e,rfl,⟨_,e,rfl⟩,call_meets F.slot_list_mul ⟨_,e,rfl⟩ F.entry_list_mul (F.args_list_mul_2 _ _) (AutoListH.list___mul___list_int_3 l its.toArray n k t hfit hcap hlong) ⟨e,?_⟩⟩)
  rw [hnew]
  exact ⟨.ref _,_,I.lnew (t':=s.toks) (r.rep k.toNat) (by rw [xm9,Nat.mul_comm]; exact hz),rfl,q _ I.fresh⟩
end
section
variable {prog:Program} {w:World} {A:Around} {E:Value->Shared->Prop} {s:Shared}
set_option maxRecDepth 100000 in
end
section
variable {X:Cx}
end
section
variable {κ:Type} [DecidableEq κ]
def valV (kvs:List (κ × V)) (k:κ):Option V:=(kvs.find? λkv=>decide (kv.1 = k)).map (·.2)
theorem ym1 {p:κ × V} {r:List (κ × V)} {k:κ} (e:p.1 = k):valV (p :: r) k = some p.2:=by simp [valV,List.find?_cons,e]
theorem ym2 {p:κ × V} {r:List (κ × V)} {k:κ} (e:¬ p.1 = k):valV (p :: r) k = valV r k:=by simp [valV,List.find?_cons,e]
theorem KV.val {kvs:List (κ × V)} {vs:List (κ × Value)} (r:KV kvs vs) (k:κ):RelO (valV kvs k) (valueAt vs k):=by
  unfold KV at r
  induction r with
  | nil=>exact True.intro
  | @cons p q ps qs h t ih=>
    obtain ⟨h1,h2⟩:=h
    by_cases e:p.1 = k
    · have e':q.1 = k:=h1.symm.trans e
      have b:valueAt (q :: qs) k = some q.2:=by simp [valueAt,List.find?_cons,e']
      rw [ym1 e,b]; exact h2
    · have e':¬ q.1 = k:=λz=>e (h1.trans z)
      have b:valueAt (q :: qs) k = valueAt qs k:=by simp [valueAt,List.find?_cons,e']
      rw [ym2 e,b]; exact ih
end
theorem xt0 {P:Program} {w:World} {k:Key} {u:Value} (r:RelV (kV k) u):(zd5 P w).is k u = true:=by
  cases k with
  | inl i=>obtain ⟨t,e⟩:=(show ∃ t,u = Value.int i t from r); subst e; exact yk7 P w i t
  | inr x=>obtain ⟨t,e⟩:=(show ∃ t,u = Value.str x t from r); subst e; exact yk6 P w x t
theorem yi3 {P:Program} {w:World}:∀ {ks:List Key} {us:List Value},Vals (ks.map kV) us->ItemsAre (zd5 P w) ks us
  | [],_,r=>by rw [List.map_nil] at r; cases r; exact .nil
  | k :: ks,_,r=>by
    rw [List.map_cons] at r
    cases r with
    | cons h t=>exact .cons (xt0 h) (yi3 t)
abbrev KT (H:Hp):List (List Key × V)->List (List Key × Addr × Value)->Prop:=Paired λp q=>p.1 = q.1/\H q.2.1 = some (.tup (p.1.map kV))/\RelV p.2 q.2.2
theorem KT.val {H:Hp} {kvs:List (List Key × V)} {xs:List (List Key × Addr × Value)} (r:KT H kvs xs) (k:List Key):RelO (valV kvs k) ((atKey xs k).map (·.2)):=by
  induction r with
  | nil=>exact True.intro
  | @cons p q ps qs h t ih=>
    obtain ⟨h1,_,h2⟩:=h
    by_cases e:p.1 = k
    · have e':q.1 = k:=h1.symm.trans e
      have b:atKey (q :: qs) k = some q.2:=by simp [atKey,List.find?_cons,e']
      rw [ym1 e,b]; exact h2
    · have e':¬ q.1 = k:=λz=>e (h1.trans z)
      have b:atKey (q :: qs) k = atKey qs k:=by simp [atKey,List.find?_cons,e']
      rw [ym2 e,b]; exact ih
section
variable {P:Program} {w:World} {H:Hp} {h:Heap} {a:Addr}
theorem xp8 {u:HO} (ok:HOk P w H h) (e:Rd H a u):zd7 P w H h a u:=e.ok ok
theorem xt5 {kvs:List (Key × V)} (ok:HOk P w H h) (e:Rd H a (.dK kvs)):kvs.length<=sizeLine/\(a == sysModules) = false/\∃ vs,KV kvs vs/\h.DictOf (zd5 P w) a vs:=
  show zd7 P w H h a (.dK kvs) from xp8 ok e
theorem xi3 {ks:List Key} (ok:HOk P w H h) (e:H a = some (.tup (ks.map kV))):(tupleKind (zd5 P w)).is h ks a:=by
  obtain ⟨_,its,r,o,h1,h2,_,n,h3⟩:=(show zd7 P w H h a (.tup (ks.map kV)) from ok a _ e)
  exact ⟨o,its.toArray,n,h1,h2,h3,by simpa using yi3 r⟩
theorem xt4 {kvs:List (List Key × V)} (ok:HOk P w H h) (e:Rd H a (.dT kvs)):kvs.length<=sizeLine/\(a == sysModules) = false /\
    ∃ xs,KT H kvs xs/\h.DictOfH (tupleKind (zd5 P w)) a xs:=by
  obtain ⟨z,y,xs,r,o,es,ep,h1,h2,h3,h4,h5⟩:=(show zd7 P w H h a (.dT kvs) from xp8 ok e)
  refine ⟨z,y,xs,r,o,es,ep,h1,h2,h3,h4,λx hx=>?_,h5⟩
  have all:∀ {l:List (List Key × V)} {m:List (List Key × Addr × Value)},KT H l m->∀ x ∈ m,(tupleKind (zd5 P w)).is h x.1 x.2.1:=by
    intro l m q
    induction q with
    | nil=>intro x hx; exact nomatch hx
    | @cons p q ps qs hq t ih=>
      intro x hx
      rcases List.mem_cons.mp hx with e | hx
      · subst e
        exact xi3 ok (by rw [<- hq.1]; exact hq.2.1)
      · exact ih x hx
  exact all r x hx
end
def DGet (H:Hp) (a:Addr) (y:V) (r:Option V):Prop:=
  (∃ kvs k,Rd H a (.dK kvs)/\y = kV k/\r = valV kvs k)\/∃ kvs k b,Rd H a (.dT kvs)/\y = .ref b/\H b = some (.tup (k.map kV))/\r = valV kvs k
theorem DGet.k {H:Hp} {a:Addr} {kvs:List (Key × V)} {k:Key} (e:H a = some (.dK kvs)):DGet H a (kV k) (valV kvs k):=.inl ⟨kvs,k,.inl e,rfl,rfl⟩
section
variable {X:Cx} {pins:List (Addr × Obj)} {σ:St} {H:Hp} {s:Shared} {a:Addr} {y v:V} {u r:Value} {o:Option V} {A:Around} {E:Value->Shared->Prop}
theorem Inv.big (I:Inv X pins σ H s):sysModules < s.heap.objs.size:=by
  have h:mainGlobals < s.heap.objs.size:=(I.mod.glob.keeps I.bk).lt
  exact Nat.lt_trans (by decide) h
theorem xb2 {Q:Value->Shared->Prop} (hu:A.units + 1 < cLine) (I:Inv X pins σ H s) (g:DGet H a y (some v)) (ry:RelV y u) (h:∀ w' s',Inv X pins σ H s'->RelV v w'->Q w' s') :
    wpAny (model X.prog X.w) A (getItem (.ref a) u) Q E s:=by
  rcases g with ⟨kvs,k,e,ey,l⟩ | ⟨kvs,k,b,e,ey,eb,l⟩
  · subst ey
    obtain ⟨z,hd,vs,rel,dd⟩:=xt5 I.hok e
    obtain ⟨w',hw,rw'⟩:=RelO.some_of (v:=v) (o:=valueAt vs k) (by rw [l]; exact rel.val k)
    exact wpAny_getItem_of (xt0 ry) dd.mapOf hw (h w' _ (I.tok _) rw')
  · subst ey
    cases (show u = Value.ref b from ry)
    obtain ⟨z,hd,xs,rel,dd⟩:=xt4 I.hok e
    obtain ⟨w',hw,rw'⟩:=RelO.some_of (v:=v) (o:=(atKey xs k).map (·.2)) (by rw [l]; exact rel.val k)
    obtain ⟨p,hp,hp2⟩:=Option.map_eq_some_iff.mp hw
    refine wpAny_getItem_heap (tupleKind_room_in1 hu) (xi3 I.hok eb) dd hp ?_
    rw [hp2]
    exact h w' _ (I.tok _) rw'
end
section
variable {X:Cx} {pins:List (Addr × Obj)} {σ:St} {H:Hp} {s:Shared} {a:Addr} {kvs:List (Key × V)} {k:Key} {u:Value} {A:Around} {E:Value->Shared->Prop}
end
def NoSl (i:Expr):Prop:=∀ ov iv,subscripted i false ov iv = operate [ov,iv] (getItem ov iv)
theorem xj0 {prog:Program} {w:World} {A:Around} {E:Value->Shared->Prop} {s:Shared} {env:Env} {value slice:Expr} {pos:Pos} {T id:String} {Q:Value->Shared->Prop}
    (hl:typeLookup (.type T) "__getitem__" = pure (some (.builtin id))) (hs:NoSl slice)
    (h:wpAny (model prog w) A (eval value env) (λo s₁=>wpAny (model prog w) A (eval slice env) (λi s₂=>s₂.TypeIs o T/\wpAny (model prog w) A (getItem o i) Q E s₂) E s₁) E s) :
    wpAny (model prog w) A (eval (.Subscript value slice pos) env) Q E s:=by
  refine Subscript_ (wpAny_mono h (λo s₁ h₁=>wpAny_mono h₁ (λi s₂ h₂=>?_) λ_ _ x=>x) λ_ _ x=>x)
  obtain ⟨hT,h₂⟩:=h₂
  unfold subscriptTail
  refine wpAny_bind ?_
  rw [getitemInPython_of_ne hT.not_modules]
  refine wpAny_bind (wpAny_specialOf hT hl ?_)
  have fin:wpAny (model prog w) A (subscripted slice false o i) (λr s₃=>wpAny (model prog w) A (letTemporaryGo value o r >>= λ_=>pure r) Q E s₃) E s₂:=by
    rw [hs o i]
    exact wpAny_operating (wpAny_mono h₂ (λr s₃ h₃=>wpAny_bind (wpAny_letTemporaryGo (wpAny_pure h₃))) λ_ _ x=>x)
  first
    | exact wpAny_pure (wpAny_bind fin)
    | exact wpAny_bind (wpAny_pure (wpAny_bind fin))
    | exact wpAny_bind fin
theorem yl7 {X:Cx} {pins:List (Addr × Obj)} {σ:St} {H:Hp} {s:Shared} {a:Addr} {y:V} {o:Option V} (I:Inv X pins σ H s) (g:DGet H a y o):s.TypeIs (.ref a) "dict":=by
  rcases g with ⟨kvs,k,e,_,_⟩ | ⟨kvs,k,b,e,_,_,_⟩
  · obtain ⟨_,_,vs,_,dd⟩:=xt5 I.hok e
    exact dd.typeIs
  · obtain ⟨_,_,xs,_,dd⟩:=xt4 I.hok e
    exact dd.typeIs
def xu5 (td ty:TE):TE:=λσ H Q=>td σ H λx H1=>ty σ H1 λy H2=>∃ a v,x = .ref a/\DGet H2 a y (some v)/\Q v H2
section
variable {X:Cx} {o i e value:Expr} {pos pos' tpos:Pos} {td ty tv:TE}
theorem xk8 (hu:X.A.units + 1 < cLine) (ho:PE X o td) (hi:PE X i ty) (hs:NoSl i):PE X (.Subscript o i pos) (xu5 td ty):=by
  intro pins s σ H Q I h
  refine xj0 PySem.F.slot_dict_getitem.lookup hs (thn (ho pins s σ H _ I h) λu s1 ⟨x,H1,I1,rx,q1⟩=>thn (hi pins s1 σ H1 _ I1 q1) λiv s2 ⟨y,H2,I2,ry,a,v,ex,g,q2⟩=>?_)
  subst ex
  obtain rfl:u = Value.ref a:=rx
  exact ⟨yl7 I2 g,xb2 hu I2 g ry λw' s3 I3 rw'=>⟨v,H2,I3,rw',q2⟩⟩
end
theorem xh0 {P:Program} {w:World} {H:Hp} (h:Heap) (hb:sysModules < h.objs.size):zd7 P w H (h.push { cls:=.type "dict",data:=.dict #[] }) h.objs.size (.dK []):=
  ⟨Nat.zero_le _,beq_eq_false_iff_ne.mpr (Ne.symm (Nat.ne_of_lt hb)),[],.nil,Heap.DictOf.new h⟩
def xp4:TE:=λ_ H Q=>∀ p,H p = none->Q (.ref p) (upd H p (.dK []))
section
variable {X:Cx} {pos:Pos}
theorem yn4:PE X (.Dict [] [] pos) xp4:=λpins s σ H Q I h=>
  wpAny_Dict_empty ⟨.ref s.heap.objs.size,_,I.laid (a:=s.heap.objs.size) (o:=.dK []) (t':=s.toks) (λ_ _ q=>Heap.get?_push_of_some _ q) (Nat.le_refl _) (xh0 s.heap I.big),rfl,h _ (I.hok.fresh (Nat.le_refl _))⟩
end
structure M1 (X:Cx) (o:Expr) (m:Str) (apos:Pos) (e:Expr) (cpos:Pos):Prop where
  base:attributeBase o m X.env (eval o X.env) = eval o X.env
  few:((backTo cpos (starEach [e] X.env)).all (λx=>!x.1) && (backToKw cpos (keywordEach [] X.env)).all (λx=>x.1.isSome)
    && decide (([e]:List Expr).length + ([]:List Keyword).length + (if ([]:List Keyword).isEmpty then 0 else 1) < 30)) = true
  line:(apos.endLine == cpos.line) = true
  trees:backTo cpos (starEach [e] X.env) = [(false,eval e X.env)]
structure M2 (X:Cx) (o:Expr) (m:Str) (apos:Pos) (e f:Expr) (cpos:Pos):Prop where
  base:attributeBase o m X.env (eval o X.env) = eval o X.env
  few:((backTo cpos (starEach [e,f] X.env)).all (λx=>!x.1) && (backToKw cpos (keywordEach [] X.env)).all (λx=>x.1.isSome)
    && decide (([e,f]:List Expr).length + ([]:List Keyword).length + (if ([]:List Keyword).isEmpty then 0 else 1) < 30)) = true
  line:(apos.endLine == cpos.line) = true
  trees:backTo cpos (starEach [e,f] X.env) = [(false,eval e X.env),(false,eval f X.env)]
section
variable {X:Cx} {pins:List (Addr × Obj)} {σ:St} {H:Hp} {s:Shared} {a:Addr} {y d:V} {u r:Value} {o:Option V} {A:Around} {E:Value->Shared->Prop}
end
section
variable {X:Cx} {o e f:Expr} {apos cpos:Pos} {td ty tx:TE}
end
section
variable {X:Cx} {pins:List (Addr × Obj)} {σ:St} {H:Hp} {s:Shared} {a:Addr} {kvs:List (Key × V)} {A:Around} {E:Value->Shared->Prop}
end
section
variable {X:Cx} {pins:List (Addr × Obj)} {σ:St} {H:Hp} {s:Shared} {a:Addr} {y:V} {u:Value} {A:Around} {E:Value->Shared->Prop}
end
end L2
namespace Att
open PySem PySem.W PySem.Calls PyProof.Rows
theorem zx8 {P:Params} {h:Heap}:∀ (ns:List Int) (vs:List Value),WellAll P h vs (ns.map WData.int)->IntsAre vs ns:=by
  intro ns
  induction ns with
  | nil=>
    intro vs w
    rw [List.map_nil] at w
    cases w
    exact .nil
  | cons n ns ih=>
    intro vs w
    rw [List.map_cons] at w
    cases w with
    | cons a b=>
      cases a
      exact .cons _ _ (ih _ b)
theorem yv5 {l : OpenLaw} {n : Nat} (hn : l.most = some n) {P : Params} {h : Heap} {args : List WData} {vals : List Value}
    (hpre : l.row.toRowW.claim.pre args = true) (hwl : WellAll P h vals args) :
    ∃ a vs ns, vals = [Value.ref a] /\ args = [WData.list (ns.map WData.int)] /\ h.get? a = some { cls := .type "list", data := .seq vs.toArray } /\ IntsAre vs ns /\ ns.length <= n := by
  have hsh : WShape.hasAll [] args [.list .int] = true := (pre_splitW hpre).1
  have hc : l.pre.holds [] { args := args } = true := (pre_splitW hpre).2
  obtain ⟨d, r, rfl, h1, h2⟩ := hasAllW_cons hsh
  obtain rfl := hasAllW_nil h2
  obtain ⟨xs, rfl, h3⟩ := hasW_list h1
  obtain ⟨ns, rfl⟩ := items_int h3
  have hlen : ns.length <= n := by
    unfold OpenLaw.pre at hc
    have h4 : (WTm.not (.lt (.lit (.int (n : Int))) (.len (.arg 0)))).holds [] { args := [.list (ns.map .int)] } = true := by
      have h4 := (holds_andW hc).1
      rw [hn] at h4
      exact h4
    have h5 := condW_of h4 (w_not (w_lt w_lit (w_len_list (w_arg rfl))))
    rw [List.length_map] at h5
    refine Nat.le_of_not_lt fun q => ?_
    have q' : (n : Int) < ((ns.length : Nat) : Int) := by omega
    first
      | (rw [decide_eq_true q'] at h5; exact absurd h5 (by decide))
      | (simp at h5; omega)
  cases hwl with
  | cons w1 w2 =>
    cases w2
    cases w1 with
    | list ho hall => exact ⟨_, _, ns, rfl, rfl, ho, zx8 ns _ hall, hlen⟩
theorem yw0 (l : OpenLaw) (args : List WData) : l.row.toRowW.claim.post args (.bool true) args = true :=
  postW_of (r := l.row.toRowW) (X := (true == true))
    (show WShape.has [] (.bool true) .bool = true by first | rfl | decide | simp [WShape.has, WShape.arms, WShape.armsAll])
    (show (WTm.eq .res (.lit (.bool true))).value [] { args := args, res := some (.bool true), after := args } = some (.bool (true == true)) from w_eq_bool (w_res rfl) w_lit) rfl
theorem attach_call {l:OpenLaw} {n:Nat} {q:Program} {loose:List Str} {XP:(Str->Option Value)->Heap->Prop} {YP:World->Heap->Prop} {d:DefRec}
    (hn:l.most = some n) (hdf:d.params.defaults = [])
    (call:∀ (w:World) (s₀ s₁:Shared) (mg mb:Str->Option Value) (fa:Addr) (o:Obj) (pm cd doc:Value) (a:Addr) (vs:List Value) (ns:List Int),
      Ground q loose [] XP w s₀ mg mb s₁.heap->YP w s₁.heap ->
      s₁.heap.get? fa = some o->o.data = .func (docDef d.name d.params d.body d.scope pm cd doc)->s₁.heap.CodeRec cd d.name->mg d.name = some (.ref fa) ->
      s₁.heap.get? a = some { cls:=.type "list",data:=.seq vs.toArray }->IntsAre vs ns->ns.length<=n->s₁.gens = #[] ->
      codeAny (model l.prog w) callerA (.call (.ref fa) ⟨[.ref a],[]⟩) (λr s'=>r = .ok (.ret (.bool true))/\OldK s₁.heap s'.heap/\s'.os = s₁.os/\AllBare s'.gens) s₁) :
    WalkO q loose XP YP l.row.toRowW d [] (λf vs=>PySem.call f vs):=by
  intro w s₀ s₁ mg mb G Y fa o pm cd doc dV kV ho hd hcd hD hmg hg args vals as hpre hlay hrd hwl hlo
  obtain rfl:dV = .none:=Dflts.none hD hdf
  obtain rfl:kV = .none:=Dflts.noKw hD
  obtain ⟨a,vs,ns,rfl,rfl,hobj,hints,hlen⟩:=yv5 hn hpre hwl
  refine enter_call (codeAny_mono (call w s₀ s₁ mg mb fa o pm cd doc a vs ns G Y ho (fd_plain hd) hcd hmg hobj hints hlen hg) λr s' hq=>?_)
  obtain ⟨rfl,h2,h3,h4⟩:=hq
  exact ⟨.inl ⟨.bool true,.bool true,[],rfl,λ_=>rfl,.bool true,yw0 l _,λ_=>⟨List.Pairwise.nil,λ_ hm=>(nomatch hm)⟩⟩,h2,h3,h4⟩
section
variable {prog:Program} {w:World} {A:Around} {E:Value->Shared->Prop} {s:Shared} {K:Frag}
end
end Att
namespace L2
open PySem PySem.Spec PyProof.Rows
theorem zv3:∀ {vs:List Value} {ns:List Int},IntsAre vs ns->Vals (ns.map V.int) vs
  | _,_,.nil=>.nil
  | _,_,.cons n t h=>.cons ⟨t,rfl⟩ (zv3 h)
def Only (H:Hp):Prop:=∀ b,H b = none\/∃ o xs,H b = some (.frz o (.lst xs))
theorem xf7 {P:Program} {w:World} {K:W.Frag} {mg mb:Str->Option Value} {CX:CXT} {k:Nat} {fa a:Addr} {fd:FuncData} {x:Str} {sp:Sp} {s₁:Shared} {vs:List Value} {ns:List Int}
    (KX:K.In s₁.heap) (hns:s₁.heap.Ns mainGlobals mg) (hb:s₁.heap.Ns builtinsNs mb) (hbb:∀ x:Str,x ≠ "__name__"->mb x = bootBuiltins x) (hlim:s₁.heap.NoLimit) (hg:s₁.gens = #[])
    (ha:s₁.heap.get? a = some { cls:=.type "list",data:=.seq vs.toArray }) (hi:IntsAre vs ns) (hl:ns.length<=sizeLine) (hr:Room k callerA)
    (F:∀ base:Heap,K.In base->base.Ns mainGlobals mg->FnOk P w K mg base CX k fa fd [x] sp) (hbind:∀ (s:Shared) (u:Value),BindsTo s fd ⟨[u],[]⟩ [(x,u)])
    (hsp:∀ H:Hp,Only H->SqL K H a (ns.map V.int)->sp [.ref a] H (λv _=>v = .bl true) λ_ _ _=>False)
    (hCX:∀ H e s',CX [] H s₁ (λ_ _ _=>False) e s'->False) :
    codeAny (model P w) callerA (.call (.ref fa) ⟨[.ref a],[]⟩) (λr s'=>r = .ok (.ret (.bool true))/\OldK s₁.heap s'.heap/\s'.os = s₁.os/\AllBare s'.gens) s₁:=by
  have rv:=zv3 hi
  have lenV:=hi.length
  have core:∀ H:Hp,Only H->SqL K H a (ns.map V.int)->HOk P w H s₁.heap->(∀ b,H b ≠ none->b = a)->(H a ≠ none->K.lookup a = none) ->
      codeAny (model P w) callerA (.call (.ref fa) ⟨[.ref a],[]⟩) (λr s'=>r = .ok (.ret (.bool true))/\OldK s₁.heap s'.heap/\s'.os = s₁.os/\AllBare s'.gens) s₁:=by
    intro H hO hS hok hA hK
    have base_of:∀ {b:Addr} {o:Obj},s₁.heap.get? b = some o->H b = none->(hidT s₁.heap H).get? b = some o:=λe n=>xg1 e n
    have noA:∀ {b:Addr} {o:Obj} {es:Array DictEntry} {ep:Nat},s₁.heap.get? b = some o->o.data = .dict es ep->H b = none:=λ{b o es ep} e d=>by
      cases q:H b with
      | none=>rfl
      | some u=>
        have e':b = a:=hA b (by rw [q]; simp)
        subst e'
        rw [ha] at e; cases e
        have d':Data.seq vs.toArray _ = Data.dict es ep:=d
        cases d'
    have nsK:∀ {b:Addr} {m:Str->Option Value},s₁.heap.Ns b m->(hidT s₁.heap H).Ns b m:=λ{b m} ⟨o,es,ep,e,d,r⟩=>⟨o,es,ep,base_of e (noA e d),d,r⟩
    have hKb:K.In (hidT s₁.heap H):=λb o e=>base_of (KX b o e) (by
      cases q:H b with
      | none=>rfl
      | some u=>
        have e':b = a:=hA b (by rw [q]; simp)
        subst e'
        rw [hK (by rw [q]; simp)] at e; cases e)
    have hM:Mod K mg (hidT s₁.heap H):=⟨hKb,nsK hns,⟨mb,nsK hb,hbb⟩,let ⟨mc,h1,h2⟩:=hlim; ⟨mc,nsK h1,h2⟩⟩
    have e0:Env0 P w K mg (hidT s₁.heap H) callerA [] s₁ H:=⟨rfl,hM,λb o e=>xm5 e,Nat.le_of_eq (xa1 _ _),trivial,λb hb=>absurd (show b ∈ ([]:List Addr) from hb) (by simp),hok,.of_eq hg⟩
    refine codeAny_mono ((F _ hKb (nsK hns)).run callerA [] s₁ H ⟨[.ref a],[]⟩ [.ref a] [.ref a] _ _ hr e0 (hbind s₁ (.ref a)) (.cons rfl .nil) (hsp H hO hS)) λr s' h=>?_
    cases r with
    | error e=>exact (hCX H e s' h).elim
    | ok fl=>
      cases fl with
      | next=>exact False.elim h
      | brk=>exact False.elim h
      | cont=>exact False.elim h
      | ret u=>
        obtain ⟨v,H',os,bare,un,hok',r',q⟩:=h
        have q':v = .bl true:=q
        subst q'
        obtain rfl:u = Value.bool true:=r'
        refine ⟨rfl,OldK.of_keep λb o e=>?_,os,bare⟩
        cases q:H b with
        | none=>exact un.keep b o e q (by intro z; exact absurd (show b ∈ ([]:List Addr) from z) (by simp)) (by simp)
        | some u=>
          rcases hO b with z | ⟨ob,xs,z⟩
          · rw [q] at z; cases z
          · have z2:=un.frzs b ob _ z
            obtain ⟨e1,_⟩:=hok b _ z
            obtain ⟨e2,_⟩:=hok' b _ z2
            rw [e] at e1; cases e1
            exact e2
  cases hk:K.lookup a with
  | some o=>
    have e:=KX a o hk
    rw [ha] at e
    cases e
    refine core (λ_=>none) (λ_=>.inl rfl) (.inr ⟨_,vs.toArray,_,hk,rfl,rfl,rfl,by rw [List.size_toArray,lenV]; exact hl,by simpa using rv⟩) (λb u z=>by have z':(none:Option HO) = some u:=z; cases z') (λb z=>absurd rfl z) λz=>absurd rfl z
  | none=>
    refine core (λb=>if b = a then some (.frz { cls:=.type "list",data:=.seq vs.toArray } (.lst (ns.map V.int))) else none) (λb=>?_) (.inl (.inr ⟨{ cls:=.type "list",data:=.seq vs.toArray },if_pos rfl⟩)) (λb u z=>?_) (λb z=>?_) λ_=>hk
    · by_cases hb:b = a
      · exact .inr ⟨_,_,if_pos hb⟩
      · exact .inl (if_neg hb)
    · by_cases hb:b = a
      · have z':=(if_pos hb).symm.trans z
        cases z'
        subst hb
        exact ⟨ha,by rw [List.length_map]; exact hl,vs,_,rv,ha⟩
      · have z':=(if_neg hb).symm.trans z
        cases z'
    · by_cases hb:b = a
      · exact hb
      · exact absurd (if_neg hb) z
theorem walk_of {l:W.OpenLaw} {n k:Nat} {q:Program} {loose:List Str} {XP:(Str->Option Value)->Heap->Prop} {YP:World->Heap->Prop} {d:DefRec} {K:Params->W.Frag} {CX:World->CXT} {sp:World->Sp} {x:Str}
    (hn:l.most = some n) (hn2:n<=sizeLine) (hdf:d.params.defaults = []) (hr:Room k callerA)
    (hY:∀ (w:World) (h:Heap),YP w h->(K w.params).In h)
    (F:∀ (w:World) (mg:Str->Option Value) (fa:Addr) (h:Heap),(K w.params).In h->h.Ns mainGlobals mg->mg d.name = some (.ref fa) ->
      ∃ fd:FuncData,(∀ (s:Shared) (u:Value),BindsTo s fd ⟨[u],[]⟩ [(x,u)]) /\
        ∀ base:Heap,(K w.params).In base->base.Ns mainGlobals mg->FnOk l.prog w (K w.params) mg base (CX w) k fa fd [x] (sp w))
    (hsp:∀ (w:World) (H:Hp) (a:Addr) (ns:List Int),ns.length<=n->Only H->SqL (K w.params) H a (ns.map V.int)->sp w [.ref a] H (λv _=>v = .bl true) λ_ _ _=>False)
    (hCX:∀ (w:World) (H:Hp) (s:Shared) (e:Value) (s':Shared),CX w [] H s (λ_ _ _=>False) e s'->False) :
    W.WalkO q loose XP YP l.row.toRowW d [] (λf vs=>PySem.call f vs):=by
  refine Att.attach_call hn hdf λw s₀ s₁ mg mb fa o pm cd doc a vs ns G Y ho hd hcd hmg hobj hints hlen hg=>?_
  have KX:=hY w _ Y
  obtain ⟨fd,hb,hF⟩:=F w mg fa _ KX G.T.g hmg
  exact xf7 KX G.T.g G.T.b G.T.builtins G.T.nolimit hg hobj hints (Nat.le_trans hlen hn2) hr hF hb (λH hO hS=>hsp w H a ns hlen hO hS) λH e s'=>hCX w H s₁ e s'
end L2
/- THE LAST THEOREM (shape; LID,My.* are yours):
   My.Adr: a structure of the addresses that your layer names (classes,functions); My.Txt K t: a structure (Prop) of the equations over K;
   My.txt_mk:{K} {implicit addresses ..} (e1:nsIn K mainGlobals "law" = some (some (.ref f))) (e2:K.lookup f = some ⟨oc,od,.func (fnOf "law" "law" params body scope dV kV doc pm an cdv ct),sl⟩) (e3:codeIn K cdv "law" = true) ..:∃ t,My.Txt K t
set_option maxRecDepth 100000 in
set_option maxHeartbeats 0 in
theorem PySem.Challenge.cw_LID_holds:PySem.Challenge.rw_LID.Holds:=by
  w_on; o_law; k_head; (case hw=>w_witness2)
  k_fill
  refine L2.walk_of (l:=PySem.Challenge.rw_LID) (n:=63) (k:=40) (x:="script") (CX:=λw=>..) (sp:=λ_=>My.sp_law) rfl (by decide) rfl ⟨rfl,by decide,by decide⟩ (λw h Y=>W.kIn_of Y) ?F ?S ?C
  case F=>
    intro w mg fa h KX G hmg
    have T:∃ t,My.Txt (L2.KOf KX) t:=by
      dsimp only [L2.KOf]                          -- K must stand as «<heap const> w.params» for k_is
      refine' My.txt_mk ?e1 ?e2 ?e3 ..
      (case e1=>W.k_is)                    -- in the order: a name->its address->its object->its parts
      (case e2=>W.k_is)
      ..
    obtain ⟨t,T⟩:=T
    have e0:=hmg.symm.trans (W.mg_of KX G T.law)
    cases e0                                       -- fa is the law's own address
    exact ⟨_,λs u=>.of_eq rfl,λbase kb nb=>My.law_fn T kb nb⟩     -- if «.of_eq rfl» comes too early: refine' ⟨_,?b,λbase kb nb=>My.law_fn T kb nb⟩; exact λs u=>.of_eq rfl
  case S=>exact λw H a ns hl hO hS=>..
  case C=>exact ..
(the tactic k_is has no namespace: write k_is) -/
namespace L2
open PySem PySem.Spec PyProof.Rows
def ze9 (s:Stmt) (j:Nat):Stmt:=match s with
  | .ClassDef _ _ _ body _ _ _ _ _ _ _=>body.getD j (.Pass ⟨0,0,0,0⟩)
  | _=>.Pass ⟨0,0,0,0⟩
def za6 (s:Stmt):Arguments:=match s with
  | .FunctionDef _ a _ _ _ _ _ _ _ _=>a
  | _=>{ posonlyargs:=[],args:=[],vararg:=none,kwonlyargs:=[],kw_defaults:=[],kwarg:=none,defaults:=[] }
def za5 (s:Stmt):List Stmt:=match s with
  | .FunctionDef _ _ b _ _ _ _ _ _ _=>b
  | _=>[]
def za1 (s:Stmt):Scope:=match s with
  | .FunctionDef _ _ _ _ _ _ sc _ _ _=>sc
  | _=>{ kind:=.function,names:=[],isGenerator:=false,isCoroutine:=false }
abbrev CX0:CXT:=λ_ _ _ _ _ _=>False
abbrev E0:XK:=λ_ _ _=>False
theorem zb0 {X:Cx}:zp8 CX0 X E0:=λ_ _ _ _ _ _ _ h=>h.elim
structure Fun (K:W.Frag) (x qual:Str) (st:Stmt) (f:Addr) (fd:FuncData):Prop where
  ex:∃ (oc:Value) (od:Option Addr) (kV doc pm:Value) (an:Option Addr) (cdv ct:Value) (osl:Array (Option Value)),
    fd = W.fnOf x qual (za6 st) (za5 st) (za1 st) .none kV doc pm an cdv ct/\K.lookup f = some ⟨oc,od,.func fd,osl⟩/\W.codeIn K cdv qual = true
  kp:W.keepIn K (.ref f) = true
section
variable {P:Program} {w:World} {K:W.Frag} {mg:Str->Option Value} {base:Heap}
theorem Fun.ok {x qual:Str} {st:Stmt} {f:Addr} {fd:FuncData} {N ps:List Str} {k:Nat} {sp:Sp} (F:Fun K x qual st f fd) (S:FnScope N ps (za1 st)) (len:∀ vs H Q E,sp vs H Q E->vs.length = ps.length)
    (hbody:∀ (cdv:Value) (A:Around) (outer:List Env) (s:Shared) (H:Hp) (vs:List V) (Q:VK) (E:XK),Room k (A.deeper (envOfC qual (za1 st) s.heap.objs.size f cdv))->sp vs H Q E ->
      ∃ t,PSs (cxOf CX0 P w K mg base N qual (za1 st) f cdv A outer s H E).nox (za5 st) t/\t { nx:=λ_ H'=>Q .non H',rt:=Q } (zk9 N vs) H):FnOk P w K mg base CX0 (k + 1) f fd ps sp:=by
  obtain ⟨oc,od,kV,doc,pm,an,cdv,ct,osl,rfl,lk,hcd⟩:=F.ex
  refine xo1 lk hcd S len λA outer s H vs Q E hr hsp=>?_
  obtain ⟨t,h,q⟩:=hbody cdv A outer s H vs Q E hr hsp
  exact ⟨t,h.nox,q⟩
theorem Fun.binds {x qual:Str} {st:Stmt} {f:Addr} {fd:FuncData} {ps:List Str} (F:Fun K x qual st f fd)
    (h:∀ (kV doc pm:Value) (an:Option Addr) (cdv ct:Value) (us:List Value),us.length = ps.length->bindArgs (W.fnOf x qual (za6 st) (za5 st) (za1 st) .none kV doc pm an cdv ct) ⟨us,[]⟩ = pure (ps.zip us)):zi3 K fd ps []:=by
  obtain ⟨oc,od,kV,doc,pm,an,cdv,ct,osl,rfl,lk,hcd⟩:=F.ex
  exact .all (h kV doc pm an cdv ct)
theorem fun_mk {x qual:Str} {st:Stmt} {f:Addr} {oc:Value} {od an:Option Addr} {osl:Array (Option Value)} {kV doc pm cdv ct:Value} (l:K.lookup f = some ⟨oc,od,.func (W.fnOf x qual (za6 st) (za5 st) (za1 st) .none kV doc pm an cdv ct),osl⟩)
    (c:W.codeIn K cdv qual = true) (k:W.keepIn K (.ref f) = true):Fun K x qual st f (W.fnOf x qual (za6 st) (za5 st) (za1 st) .none kV doc pm an cdv ct):=⟨⟨oc,od,kV,doc,pm,an,cdv,ct,osl,rfl,l,c⟩,k⟩
end
theorem xw4 {A:Around} {k:Nat} (hr:Room k A):A.units + 1 < cLine:=Nat.lt_of_le_of_lt (Nat.add_le_add_left (by decide:1<=64) _) hr.units
theorem zb5 {n:Nat} (h:n<=1000):n < sizeLine:=Nat.lt_of_le_of_lt h (by decide)
section
variable {X:Cx}
theorem pv (i:Nat) {x:Str} {pos:Pos} (hN:X.N[i]? = some x:=by rfl) (hv:Vis X.env.scope x:=by first | exact Or.inl rfl | exact Or.inr (Or.inl rfl) | exact Or.inr (Or.inr rfl)) (hd:(x == ("__debug__" : Str)) = false:=by decide)
    (hcd:(x == ("__classdict__" : Str)) = false:=by decide):PE X (.Name x pos) (tVar i):=pe_var hN hv hd hcd
end
theorem iteF {A B:Prop} (h:B):if false = true then A else B:=by
  rw [if_neg Bool.false_ne_true]
  exact h
theorem iteT {A B:Prop} (h:A):if true = true then A else B:=by
  rw [if_pos rfl]
  exact h
theorem ite2 {c A B:Prop} [Decidable c] (h1:c->A) (h2:¬ c->B):if c then A else B:=by
  by_cases h:c
  · rw [if_pos h]
    exact h1 h
  · rw [if_neg h]
    exact h2 h
def Same (H H':Hp):Prop:=∀ b o,H b = some o->H' b = some o
theorem Same.refl (H:Hp):Same H H:=λ_ _ h=>h
theorem Same.trans {H H1 H2:Hp} (a:Same H H1) (b:Same H1 H2):Same H H2:=λc o h=>b c o (a c o h)
theorem Same.seq {K:W.Frag} {H H':Hp} {a:Addr} {xs:List V} (e:Same H H') (h:SqL K H a xs):SqL K H' a xs:=by
  rcases h with (h | ⟨o,h⟩) | h
  · exact .inl (.inl (e _ _ h))
  · exact .inl (.inr ⟨o,e _ _ h⟩)
  · exact .inr h
section
variable {κ:Type} [DecidableEq κ]
end
section
variable {X:Cx}
end
section
variable {P:Program} {w:World} {A:Around} {s:Shared}
end
section
open AutoSeq1 (wpAny_loadPart')
open MeetsSeq MeetsSeq2 MeetsSeq3
end
inductive EqT (K:W.Frag) (H:Hp):V->V->Prop
  | flat {x:V}:zf2 x = true->EqT K H x x
  | lst {a b:Addr} {xs:List V}:SqL K H a xs->SqL K H b xs->(∀ x ∈ xs,zf2 x = true)->EqT K H (.ref a) (.ref b)
  | dk {a b:Addr} {kvs:List (Key × V)}:H a = some (.dK kvs)->H b = some (.dK kvs)->(kvs.map (·.1)).Nodup->(∀ p ∈ kvs,zf2 p.2 = true)->EqT K H (.ref a) (.ref b)
theorem xg9 {x:V} (h:zf2 x = true):eqV x x = true:=by
  cases x <;> first | (simp [eqV]; done) | (simp [zf2] at h; done) | (simp [eqV,zf2] at *)
section
variable {X:Cx} {pins:List (Addr × Obj)} {σ:St} {H:Hp} {s:Shared} {A:Around}
theorem yw3 (hu:X.A.units + 8 < cLine):OpR X (compareOp .NotEq) (λx y H Q=>∃ a b xs,x = .ref a/\y = .ref b/\SqL X.K H a xs/\SqL X.K H b []/\Q (.bl (!xs.isEmpty)) H):=by
  intro pins s σ H x y v u Q I r1 r2 h
  obtain ⟨a,b,xs,rfl,rfl,h1,h2,q⟩:=h
  cases r1
  cases r2
  obtain ⟨i1,w1,p1,z1⟩:=I.list h1
  obtain ⟨i2,w2,p2,z2⟩:=I.list h2
  cases w2
  cases xs with
  | nil=>
    cases w1
    exact SeqAt.RcNeAt.lists (A:=X.A) (e:=λ_=>true) p1.isList p2.isList rfl (by omega) (λj j1=>absurd j1 (Nat.not_lt_zero _)) _ _ _ _ ⟨.bl false,H,I,rfl,q⟩
  | cons x r=>
    have l1:=w1.length
    refine SeqAt.RcNeAt.lists_lengths (A:=X.A) p1.isList p2.isList ?_ (by omega) _ _ _ _ ⟨.bl true,H,I,rfl,q⟩
    simp only [List.size_toArray,<- l1]
    rfl
end
section
variable {X:Cx}
end
section
variable {X:Cx}
def cxLG (X:Cx) (N':List Str) (scope:Scope) (cl:List (Str × Addr)) (s:Shared) (H:Hp) (ex:List Addr):Cx where
  prog:=X.prog
  w:=X.w
  K:=X.K
  mg:=X.mg
  base:=X.base
  A:=X.A
  N:=N'
  s₀:=s
  H₀:=H
  env:=compEnvC scope cl s.heap.objs.size X.env
  outer:=X.stack
  stack:=X.stack
  ex:=ex
  calm:=true
  fn:=λ_=>false
  pn:=[]
  xe:=λ_ _=>False
inductive Caps (X:Cx) (scope:Scope) (cl:List (Str × Addr)):List (Str × Nat)->Prop
  | nil:Caps X scope cl []
  | cons {x:Str} {j:Nat} {r:List (Str × Nat)}:X.N[j]? = some x->(X.env.kindOf x = some .cell\/X.env.kindOf x = some .free)->(cl.lookup x = X.env.cells.lookup x)->Caps X scope cl r->Caps X scope cl ((x,j) :: r)
theorem Caps.get {scope:Scope} {cl:List (Str × Addr)}:∀ {caps:List (Str × Nat)},Caps X scope cl caps->∀ q ∈ caps,X.N[q.2]? = some q.1/\(X.env.kindOf q.1 = some .cell\/X.env.kindOf q.1 = some .free)/\cl.lookup q.1 = X.env.cells.lookup q.1
  | _,.nil,q,h=>by cases h
  | _,.cons a b c r,q,h=>by
    rcases List.mem_cons.mp h with rfl | h
    · exact ⟨a,b,c⟩
    · exact r.get q h
def capV (σ:St) (caps:List (Str × Nat)):St:=caps.map λp=>(σ[p.2]?).join
def PIf (X:Cx) (ifs:List Expr) (t:TT):Prop:=
  ∀ (pins:List (Addr × Obj)) (s:Shared) (σ:St) (H:Hp) (Q:Bool->Hp->Prop),Inv X pins σ H s->t σ H Q ->
    wpAny (model X.prog X.w) X.A (forIn ifs true λc r=>if r = true then do let ok <- isTrue c X.env (eval c X.env); pure (ForInStep.yield ok) else pure (ForInStep.yield r)) (TP X pins σ Q) X.xe s
def tYes:TT:=λ_ H Q=>Q true H
theorem zi1:PIf X [] tYes:=λ_ _ _ H _ I h=>wpAny_tests_nil ⟨H,I,h⟩
theorem zj2 {c:Expr} {t:TT} (h:PT X c t):PIf X [c] t:=λpins s σ H Q I hw=>wpAny_tests_one (h pins s σ H Q I hw)
def tLG (n:Nat) (caps:List (Str × Nat)) (wi:TI) (g:TG) (tt:TT) (te:TE):TE:=λσ H Q=>wi σ H λJ H1=>∀ D,H1 D = none ->
  ∃ W:Nat->Nat->St->Hp->Prop,(∃ m,W 0 m (List.replicate n none ++ capV σ caps) (upd H1 D (.lst [])))/\∀ i m σ' H',W i m σ' H' ->
    (J.stop i H'/\Q (.ref D) H')\/(J.go i H'/\∃ N:St->Hp->Prop,(∀ σ2 H2,N σ2 H2->∃ m',m' < m/\W (i + 1) m' σ2 H2) /\
      ∀ x H2,J.yld i H' x H2->g x σ' H2 λσ3 H3=>tt σ3 H3 λb H4=>if b = true then te σ3 H4 λy H5=>∃ xs,H5 D = some (.lst xs)/\xs.length < sizeLine/\N σ3 (upd H5 D (.lst (xs ++ [y]))) else N σ3 H4)
structure LcOk (X:Cx) (scope:Scope) (cl:List (Str × Addr)) (caps:List (Str × Nat)):Prop where
  kind:scope.kind = .function
  cell:∀ x ∈ scope.names,x.2 ≠ .cell
  names:∀ x ∈ scope.names,x.2 = .local->scope.names.lookup x.1 = some .local
  clos:closureFor scope X.env = pure cl
  cap:Caps X scope cl caps
  sub:(cl.all λp=>caps.any λq=>q.1 == p.1) = true
  has:((relabel scope X.env).names.all λp=>p.2 == .local || p.2 == .globalImplicit || (cl.lookup p.1).isSome) = true
  own:(caps.all λq=>((relabel scope X.env).names.lookup q.1 == some .cell) || ((relabel scope X.env).names.lookup q.1 == some .free)) = true
theorem LcOk.at {scope:Scope} {cl:List (Str × Addr)} {caps:List (Str × Nat)} (h:LcOk X scope cl caps) {x:Str} {c:Addr} (e:cl.lookup x = some c):X.env.cells.lookup x = some c:=by
  have h1:=List.all_eq_true.mp h.sub _ (PySem.mem_of_lookup e)
  obtain ⟨q,hq,e1⟩:=List.any_eq_true.mp h1
  have e2:q.1 = x:=by simpa using e1
  have:=(h.cap.get q hq).2.2
  rw [e2] at this
  rw [<- this]; exact e
theorem yy8 {pins:List (Addr × Obj)} {σ:St} {H:Hp} {s:Shared} {h4:Heap} {m:Str->Option Value} {tk:Nat} {own:List Str} {caps:List (Str × Nat)} {cl:List (Str × Addr)} {scope:Scope} {fp:List Addr} (hc:X.calm = true) (I:Inv X pins σ H s)
    (f:∀ b ∈ fp,FpOk X pins H b) (fo:∀ b ∈ fp,∃ o,s.heap.get? b = some o) (L:LcOk X scope cl caps)
    (hn:h4.Ns s.heap.objs.size m) (kp:∀ b o,s.heap.get? b = some o->h4.get? b = some o):Inv (cxLG X (own ++ caps.map (·.1)) scope cl s H fp) [] (List.replicate own.length none ++ capV σ caps) H { s with heap:=h4,toks:=tk }:=by
  refine ⟨⟨I.ok.mod,L.kind,I.ok.glob,I.ok.blt,Nat.le_refl _,λx y c e1 e2=>I.ok.inj x y c (L.at e1) (L.at e2),λx z=>?_,(λx c e=>by cases e),λ_=>I.ok.hd hc,I.ok.frames,.inl rfl,λb hb=>⟨?_,λx c e=>?_⟩,I.bs,
    Nat.le_trans I.ok.bsz I.sz,λb o e hb=>?_,λb hb hm=>?_,I.stack,I.stkFree⟩,rfl,I.bare,Un.kept kp,⟨m,hn,λi x v e1 e2 e3=>?_⟩,λx c e=>?_,I.hok.fresh (Nat.le_refl _),λx c e=>I.freeC x c (L.at e),(λp hp=>nomatch hp),I.hok.kept kp,?_⟩
  · have z':(relabel scope X.env).names.lookup x = some .cell\/(relabel scope X.env).names.lookup x = some .free:=z
    have key:∀ k,(k = NameKind.cell\/k = NameKind.free)->(relabel scope X.env).names.lookup x = some k->∃ c,cl.lookup x = some c:=by
      intro k hk hz
      have h1:=List.all_eq_true.mp L.has _ (PySem.mem_of_lookup hz)
      rcases hk with rfl | rfl
      · have:(cl.lookup x).isSome = true:=by simpa using h1
        exact Option.isSome_iff_exists.mp this
      · have:(cl.lookup x).isSome = true:=by simpa using h1
        exact Option.isSome_iff_exists.mp this
    rcases z' with z' | z'
    · exact key _ (.inl rfl) z'
    · exact key _ (.inr rfl) z'
  · obtain ⟨o,e⟩:=fo b hb
    exact Nat.ne_of_lt (Heap.lt_size e)
  · exact (f b hb).2.2.2.2.1 x c (L.at e)
  · obtain ⟨_,_,_,z,_⟩:=f b hb
    rcases z with z | z
    · exact I.ok.noex b o e z
    · exact absurd (Nat.lt_of_lt_of_le (Heap.lt_size e) (Nat.le_trans I.ok.bsz z)) (Nat.lt_irrefl _)
  · obtain ⟨_,z1,z2,_⟩:=f b hb
    rcases List.mem_cons.mp (I.stkSub b hm) with z | z
    · exact z1 z
    · exact z2 z
  · have hlt:own.length<=i:=by
      rcases Nat.lt_or_ge i own.length with z | z
      · rw [List.getElem?_append_left (by simpa using z),List.getElem?_replicate] at e2
        rw [if_pos z] at e2; cases e2
      · exact z
    rw [List.getElem?_append_right (by simpa using hlt),List.length_replicate] at e2
    have e1':(caps.map (·.1))[i - own.length]? = some x:=by
      have:(own ++ caps.map (·.1))[i]? = some x:=e1
      rw [List.getElem?_append_right hlt] at this; exact this
    unfold capV at e2
    rw [List.getElem?_map] at e1' e2
    cases hq:caps[i - own.length]? with
    | none=>rw [hq] at e1'; cases e1'
    | some q=>
      rw [hq] at e1' e2
      have ex:q.1 = x:=Option.some.inj e1'
      have hqm:=List.mem_of_getElem? hq
      obtain ⟨a1,a2,a3⟩:=L.cap.get q hqm
      have hv:(σ[q.2]?).join = some v:=Option.some.inj e2
      have hv2:σ[q.2]? = some (some v):=by
        cases z:σ[q.2]? with
        | none=>rw [z] at hv; cases hv
        | some w=>rw [z] at hv; exact congrArg some hv
      obtain ⟨m0,hn0,hl0⟩:=I.loc
      rw [ex] at a1 a2 a3
      obtain ⟨u,ru,lk⟩:=hl0 q.2 x v a1 hv2 (by rcases a2 with a2 | a2; exact .inr (.inl a2); exact .inr (.inr a2))
      refine ⟨u,ru,.inr ⟨?_,?_⟩⟩
      · have h1:=List.all_eq_true.mp L.own q hqm
        rw [ex] at h1
        show (relabel scope X.env).names.lookup x = some .cell\/(relabel scope X.env).names.lookup x = some .free
        simpa using h1
      · rcases lk with ⟨k,_⟩ | ⟨_,c,ec,ic⟩
        · rcases a2 with a2 | a2 <;> rw [a2] at k <;> cases k
        · refine ⟨c,a3.trans ec,?_⟩
          obtain ⟨o,ho,hd⟩:=ic
          exact ⟨o,kp _ _ ho,hd⟩
  · obtain ⟨v,o,ho,hd⟩:=I.cell x c (L.at e)
    exact ⟨v,o,kp _ _ ho,hd⟩
  · show _ = (own ++ caps.map (·.1)).length
    simp [capV]
theorem yz0 {pins:List (Addr × Obj)} {σ σ':St} {H H':Hp} {s s':Shared} {h':Heap} {N':List Str} {scope:Scope} {cl:List (Str × Addr)} {fp:List Addr} (I:Inv X pins σ H s) (f:∀ b ∈ fp,FpOk X pins H b)
    (J:Inv (cxLG X N' scope cl s H fp) [] σ' H' s') (sb:Heap.SameBut s.heap.objs.size s'.heap h'):Inv X pins σ H' { s' with heap:=h' }:=by
  have U:Un (frs X.stack) fp H H' s.heap s'.heap:=J.base
  have ne:∀ b o,s.heap.get? b = some o->b ≠ s.heap.objs.size:=λb o e=>Nat.ne_of_lt (Heap.lt_size e)
  have nH:∀ b o,H' b = some o->b ≠ s.heap.objs.size:=λb o e z=>by
    have q:H' s.heap.objs.size = none:=J.free
    rw [z,q] at e
    cases e
  have U':Un (frs X.stack) fp H H' s.heap h':=⟨λb o e n hb hx=>(sb.2 b (ne b o e)).trans (U.keep b o e n hb hx),λb o e n hb hx=>by
      obtain ⟨sl,z⟩:=U.slot b o e n hb hx
      exact ⟨sl,(sb.2 b (ne b o e)).trans z⟩,U.free,λb o e hx=>by
      obtain ⟨o',z⟩:=U.there b o e hx
      exact ⟨o',(sb.2 b (ne b o e)).trans z⟩,U.tups,U.frzs,U.tbls⟩
  have hok:HOk X.prog X.w H' h':=λa o e=>(J.hok a o e).stay (λb u hb q=>(sb.2 b (by
      rcases hb with hb | hb
      · rw [hb]; exact nH a o e
      · exact nH b _ hb)).trans q) (λ_ q=>q) λ_ _ q=>q
  refine I.call' (s':={ s' with heap:=h' }) (ch:=fp) J.os U' hok J.bare λb hb=>?_
  obtain ⟨_,z1,z2,z3,z4,z5⟩:=f b hb
  exact ⟨z3,z1,z4,z5⟩
theorem yo0 {elt target iter:Expr} {ifs:List Expr} {scope:Scope} {cl:List (Str × Addr)} {pos:Pos} {own:List Str} {caps:List (Str × Nat)} {wi:TI} {g:TG} {tt:TT} {te:TE} {use:Option (Value->Sem Unit)} (hc:X.calm = true) (hi:PI X target iter wi) (L:LcOk X scope cl caps)
    (hg:∀ s H ex,PG (cxLG X (own ++ caps.map (·.1)) scope cl s H ex) target g) (ht:∀ s H ex,PIf (cxLG X (own ++ caps.map (·.1)) scope cl s H ex) ifs tt) (he:∀ s H ex,PE (cxLG X (own ++ caps.map (·.1)) scope cl s H ex) elt te)
    {pins:List (Addr × Obj)} {s:Shared} {σ:St} {H:Hp} {Q:VK} {Q':Value->Shared->Prop} (I:Inv X pins σ H s) (h:tLG own.length caps wi g tt te σ H Q)
    (hs:∀ x,foldedSetIterable iter X.env x = pure x)
    (fin:∀ (D:Addr) (s3 s':Shared) (H3 H':Hp) (σ':St) (fp:List Addr),Inv X pins σ H3 s3->(∀ b ∈ fp,FpOk X pins H3 b)->Inv (cxLG X (own ++ caps.map (·.1)) scope cl s3 H3 fp) [] σ' H' s'->Q (.ref D) H' ->
      compPost (model X.prog X.w) X.A X.xe use Q' (.ref D) s3.heap.objs.size (.ok .next) s') :
    wpAny (model X.prog X.w) X.A (comprehension (.ListComp elt [⟨target,iter,ifs,0⟩] scope pos) scope X.env iter.pos (newList []) false (eval iter X.env) use) Q' X.xe s:=by
  refine wpAny_comprehension_free (g:=⟨target,iter,ifs,0⟩) (gs:=[]) rfl hs L.clos L.kind L.names (thn (hi pins s σ H _ I h) λv s1 h1=>thn h1 λitv s2 h2=>?_)
  obtain ⟨it,fp,tn,J,H2,rfl,I2,T,st2,f2,R⟩:=h2
  have hD:H2 s2.heap.objs.size = none:=I2.hok.fresh (Nat.le_refl _)
  obtain ⟨W,⟨m0,w0⟩,turn⟩:=R _ hD
  refine wpAny_newList ?_ (Nat.zero_le _)
  have I3:Inv X pins σ (upd H2 s2.heap.objs.size (.lst [])) { s2 with heap:=s2.heap.push { cls:=.type "list",data:=.seq ([]:List Value).toArray } }:=I2.lnew (t':=s2.toks) .nil (Nat.zero_le _)
  have o2:=T.obj 0 _ st2
  have lt2:∀ b ∈ fp,b < s2.heap.objs.size:=λb hb=>by
    obtain ⟨o,e,_⟩:=o2 b hb
    exact Heap.lt_size e
  have f3:∀ b ∈ fp,FpOk X pins (upd H2 s2.heap.objs.size (.lst [])) b:=λb hb=>⟨by rw [za7 (Nat.ne_of_lt (lt2 b hb))]; exact (f2 b hb).1,(f2 b hb).2⟩
  have st3:tn 0 (s2.heap.push { cls:=.type "list",data:=.seq ([]:List Value).toArray }):=T.keep 0 _ _ st2 λb hb o e=>Heap.get?_push_of_some _ e
  generalize hs3:({ s2 with heap:=s2.heap.push { cls:=.type "list",data:=.seq ([]:List Value).toArray } }:Shared) = s3 at I3 ⊢
  have st3':tn 0 s3.heap:=by rw [<- hs3]; exact st3
  generalize hH3:upd H2 s2.heap.objs.size (.lst []) = H3 at I3 f3 w0
  generalize hDD:s2.heap.objs.size = D at *
  have o3:∀ b ∈ fp,∃ o,s3.heap.get? b = some o:=λb hb=>by
    obtain ⟨o,e,_⟩:=T.obj 0 _ st3' b hb
    exact ⟨o,e⟩
  refine wpAny_newFunctionEnv L.cell (λx hx=>nomatch hx) (λh4 hn4 sb4=>?_) L.kind
  have kp4:∀ b o,s3.heap.get? b = some o->h4.get? b = some o:=λb o e=>(sb4.2 b (Nat.ne_of_lt (Heap.lt_size e))).trans (Heap.get?_push_of_some _ e)
  have I4:Inv (cxLG X (own ++ caps.map (·.1)) scope cl s3 H3 fp) [] (List.replicate own.length none ++ capV σ caps) H3 { s3 with heap:=h4,toks:=s3.toks + ([]:List (Str × Value)).length }:=yy8 hc I3 f3 o3 L hn4 kp4
  have stat:∀ {H':Hp},(∀ b ∈ fp,H' b = none)->∀ b ∈ fp,FpOk (cxLG X (own ++ caps.map (·.1)) scope cl s3 H3 fp) [] H' b:=λhn b hb=>by
    obtain ⟨o,e⟩:=o3 b hb
    obtain ⟨_,z1,z2,_,z4,_⟩:=f3 b hb
    refine ⟨hn b hb,Nat.ne_of_lt (Heap.lt_size e),λhm=>?_,.inl hb,λx c e=>z4 x c (L.at e),(λp hp=>nomatch hp)⟩
    rcases List.mem_cons.mp (I3.stkSub b hm) with z | z
    · exact z1 z
    · exact z2 z
  have LL:∀ Rr:Result->Shared->Prop,(∀ s' H' σ',Inv (cxLG X (own ++ caps.map (·.1)) scope cl s3 H3 fp) [] σ' H' s'->Q (.ref D) H'->Rr (.ok .next) s') ->
      codeAny (model X.prog X.w) X.A (.compLoop (.ListComp elt [⟨target,iter,ifs,0⟩] scope pos) 0 (.ref it) (.ref D) (cxLG X (own ++ caps.map (·.1)) scope cl s3 H3 fp).env) Rr { s3 with heap:=h4,toks:=s3.toks + ([]:List (Str × Value)).length }:=by
    intro Rr hR
    refine codeAny_loop rfl (λn s'=>∃ i σ' H',Inv (cxLG X (own ++ caps.map (·.1)) scope cl s3 H3 fp) [] σ' H' s'/\tn i s'.heap/\(∀ b ∈ fp,H' b = none)/\W i n σ' H') ?_ m0
      ⟨0,_,H3,I4,T.keep 0 _ _ st3' λb _ o e=>kp4 b o e,λb hb=>(f3 b hb).1,w0⟩
    rintro n s5 ⟨i,σ5,H5,I5,st5,fr5,w5⟩
    show wpAny _ X.A ((compTurn (.ListComp elt [⟨target,iter,ifs,0⟩] scope pos) 0 (.ref it) (.ref D) (cxLG X (own ++ caps.map (·.1)) scope cl s3 H3 fp).env).onRaise (λx=>do noteFrame x (cxLG X (own ++ caps.map (·.1)) scope cl s3 H3 fp).env; theTreesLotGoes x)) _ _ s5
    refine wpAny_noted ?_
    rw [compTurn_list]
    refine wpAny_bind (wpAny_standAt ?_)
    rcases turn i n σ5 H5 w5 with ⟨stop,qn⟩ | ⟨go,N,hN,stp⟩
    · refine wpAny_bind (thn (T.done (cxLG X (own ++ caps.map (·.1)) scope cl s3 H3 fp) rfl rfl rfl rfl i [] s5 σ5 H5 _ I5 (stat fr5) st5 stop) λr s6 ⟨hr,I6⟩=>?_)
      subst hr
      exact wpAny_pure (hR s6 H5 σ5 I6 qn)
    · refine wpAny_bind (thn (T.item (cxLG X (own ++ caps.map (·.1)) scope cl s3 H3 fp) rfl rfl rfl rfl i [] s5 σ5 H5 _ I5 (stat fr5) st5 go) λr s6 ⟨u,hr,h6⟩=>?_)
      subst hr
      refine wpAny_bind (thn h6 λ_ s7 ⟨x,H7,I7,r7,y7,st7,fr7⟩=>?_)
      have I7':=I7.pinned (stat fr7) (T.obj _ _ st7)
      refine wpAny_bind (wpAny_mono (hg s3 H3 fp _ s7 σ5 H7 x u _ I7' r7 (stp x H7 y7)) (λ_ s8 ⟨σ8,H8,I8,q8⟩=>?_) λ_ _ z=>False.elim z)
      refine wpAny_bind (wpAny_mono (ht s3 H3 fp _ s8 σ8 H8 _ I8 q8) (λok s8' ⟨H8',I8',q8'⟩=>?_) λ_ _ z=>False.elim z)
      have back:∀ (s10:Shared) (H10:Hp),Inv (cxLG X (own ++ caps.map (·.1)) scope cl s3 H3 fp) ([] ++ yh1 fp s7.heap) σ8 H10 s10->N σ8 H10 ->
          ∃ m',m' < n/\∃ i σ' H',Inv (cxLG X (own ++ caps.map (·.1)) scope cl s3 H3 fp) [] σ' H' s10/\tn i s10.heap/\(∀ b ∈ fp,H' b = none)/\W i m' σ' H':=by
        intro s10 H10 I10 n10
        obtain ⟨m',hm,w10⟩:=hN σ8 H10 n10
        refine ⟨m',hm,i + 1,σ8,H10,I10.unpinned,T.keep _ _ _ st7 λb hb o e=>(I10.pin (b,o) (List.mem_append_right _ (List.mem_append_right _ (zn3 hb e)))).1,λb hb=>?_,w10⟩
        obtain ⟨o,e,d⟩:=T.obj _ _ st7 b hb
        exact (I10.pin (b,o) (List.mem_append_right _ (List.mem_append_right _ (zn3 hb e)))).2.1
      cases ok with
      | false=>
        have q9:N σ8 H8':=q8'
        exact wpAny_pure ⟨rfl,back _ _ I8' q9⟩
      | true=>
        have q9:=q8'
        rw [if_pos rfl] at q9
        refine wpAny_bind (wpAny_bind (wpAny_mono (he s3 H3 fp _ s8' σ8 H8' _ I8' q9) (λy s9 ⟨yv,H9,I9,r9,q9⟩=>?_) λ_ _ z=>False.elim z))
        obtain ⟨xs,hx,hz,q9⟩:=q9
        refine wpAny_bind (wpAny_mono (zp5 (X:=cxLG X (own ++ caps.map (·.1)) scope cl s3 H3 fp) _ s9 σ8 H9 (.ref D) [yv] (.ref D) [y] (λv H'=>N σ8 H') I9 rfl (.cons r9 .nil) ⟨D,xs,yv,rfl,rfl,hx,hz,q9⟩) (λ_ s10 ⟨_,H10,I10,_,n10⟩=>?_) λ_ _ z=>False.elim z)
        exact wpAny_pure (wpAny_pure ⟨rfl,back _ _ I10 n10⟩)
  have fin':∀ s' H' σ',Inv (cxLG X (own ++ caps.map (·.1)) scope cl s3 H3 fp) [] σ' H' s'->Q (.ref D) H'->compPost (model X.prog X.w) X.A X.xe use Q' (.ref D) s3.heap.objs.size (.ok .next) s':=λs' H' σ' J q=>fin D s3 s' H3 H' σ' fp I3 f3 J q
  refine codeAny_compStart_list (LL _ fin') ?_
  exact T.self _ 0 _ _ _ (T.keep 0 _ _ st3' λb _ o e=>kp4 b o e) (LL _ fin')
theorem zh6 {elt target iter:Expr} {ifs:List Expr} {scope:Scope} {cl:List (Str × Addr)} {pos:Pos} (own:List Str) {caps:List (Str × Nat)} {wi:TI} {g:TG} {tt:TT} {te:TE} (hc:X.calm = true) (hi:PI X target iter wi) (L:LcOk X scope cl caps)
    (hg:∀ s H ex,PG (cxLG X (own ++ caps.map (·.1)) scope cl s H ex) target g) (ht:∀ s H ex,PIf (cxLG X (own ++ caps.map (·.1)) scope cl s H ex) ifs tt) (he:∀ s H ex,PE (cxLG X (own ++ caps.map (·.1)) scope cl s H ex) elt te)
    (hs:∀ x,foldedSetIterable iter X.env x = pure x:=by intro _; rfl):PE X (.ListComp elt [⟨target,iter,ifs,0⟩] scope pos) (tLG own.length caps wi g tt te):=by
  intro pins s σ H Q I h
  rw [eval_ListComp]
  refine yo0 (use:=none) hc hi L hg ht he I h hs λD s3 s' H3 H' σ' fp I3 f3 J q=>?_
  obtain ⟨m,hn,_⟩:=J.loc
  exact ⟨m,hn,λh' sb=>⟨.ref D,H',yz0 I3 f3 J sb,rfl,q⟩⟩
theorem zo7 {elt target iter:Expr} {ifs:List Expr} {scope:Scope} {cl:List (Str × Addr)} {pos:Pos} {i:Nat} {y:Str} {py spos:Pos} (own:List Str) {caps:List (Str × Nat)} {wi:TI} {g:TG} {tt:TT} {te:TE} (hc:X.calm = true) (hN:X.N.Nodup) (hy:X.N[i]? = some y) (hl:X.env.scope.names.lookup y = some .local)
    (hi:PI X target iter wi) (L:LcOk X scope cl caps)
    (hg:∀ s H ex,PG (cxLG X (own ++ caps.map (·.1)) scope cl s H ex) target g) (ht:∀ s H ex,PIf (cxLG X (own ++ caps.map (·.1)) scope cl s H ex) ifs tt) (he:∀ s H ex,PE (cxLG X (own ++ caps.map (·.1)) scope cl s H ex) elt te)
    (hsw:swapsWith (.ListComp elt [⟨target,iter,ifs,0⟩] scope pos) (some (.Name y py)) spos.line X.env = pure true)
    (hs:∀ x,foldedSetIterable iter X.env x = pure x:=by intro _; rfl):PS X (.Assign [.Name y py] (.ListComp elt [⟨target,iter,ifs,0⟩] scope pos) spos) (tAsg (tLG own.length caps wi g tt te) (ye9 i)):=by
  intro pins s σ H D I h
  rw [exec_Assign_Name_used _ _ _ _ hsw]
  refine wpAny_bind (wpAny_standAt (wpAny_bind ?_))
  show wpAny _ _ (do let _ <- comprehension (.ListComp elt [⟨target,iter,ifs,0⟩] scope pos) scope X.env _ (newList []) false (eval iter X.env) (some (assign (.Name y py) X.env))) _ _ s
  refine wpAny_bind (wpAny_mono (yo0 (use:=some (assign (.Name y py) X.env)) (Q:=λv H'=>D.nx (σ.set i (some v)) H') (Q':=λ_ s'=>SP X pins D .next s') hc hi L hg ht he I h hs λD' s3 s' H3 H' σ' fp I3 f3 J q=>?_) (λ_ s' hq=>wpAny_pure (wpAny_pure hq)) λ_ _ e=>e)
  obtain ⟨m,hn,_⟩:=J.loc
  obtain ⟨oC,es,ep,hoC,hdC,hrest⟩:=id hn
  have hCC:(cxLG X (own ++ caps.map (·.1)) scope cl s3 H3 fp).env.locals = s3.heap.objs.size:=rfl
  rw [hCC] at hoC hn
  have I5:Inv X pins σ H' s':=yz0 I3 f3 J (Heap.SameBut.refl _ _)
  have fok:FpOk X pins H' s3.heap.objs.size:=I3.fpOk (Nat.le_refl _) J.free
  obtain ⟨k1,k2,k3,k4,k5,k6⟩:=fok
  have I6:Inv X (pins ++ [(s3.heap.objs.size,oC)]) σ H' s':=I5.pins_of λp hp=>by
    rcases List.mem_append.mp hp with z | z
    · exact I5.pin p (List.mem_append_right _ z)
    · have e:p = (s3.heap.objs.size,oC):=by simpa using z
      subst e
      exact ⟨hoC,k1,k2,k3,λv e=>by rw [hdC] at e; cases e⟩
  show wpAny _ _ (assign (.Name y py) X.env (.ref D')) _ _ s'
  refine wpAny_assign_Name (zi4 I6 hN hy (Or.inl hl) (show RelV (.ref D') (.ref D') from rfl) (λs'' I7=>?_) (.inr hl))
  have pC:=(I7.pin (s3.heap.objs.size,oC) (List.mem_append_right _ (List.mem_append_right _ (List.mem_singleton.mpr rfl)))).1
  refine ⟨m,⟨oC,es,ep,pC,hdC,hrest⟩,λh' sb=>?_⟩
  have I8:Inv X pins (σ.set i (some (.ref D'))) H' s'':=I7.pins_of λp hp=>I7.pin p (List.mem_append_right _ (List.mem_append_left _ hp))
  have I9:=I8.turned (t':=s''.toks) (it:=s3.heap.objs.size) (h':=h') (λb o hb e=>(sb.2 b hb).trans e) k1 k2 k4 k5 k6
  exact ⟨_,H',I9,q⟩
end
end L2
namespace L2
open PySem
def Rise (xs:Array Nat):Prop:=xs.toList.Pairwise (· < ·)
theorem Rise.lt {xs:Array Nat} (h:Rise xs) {i j:Nat} (hi:i < xs.size) (hj:j < xs.size) (hij:i < j):xs[i] < xs[j]:=by
  have:=List.pairwise_iff_getElem.mp h i j (by simpa using hi) (by simpa using hj) hij
  simpa using this
theorem yf8 {xs:Array Nat} (hr:Rise xs) (j:Nat):∀ (fuel lo hi:Nat),lo<=hi->hi<=xs.size->hi - lo<=fuel->(∀ i (h:i < xs.size),i < lo->xs[i] < j)->(∀ i (h:i < xs.size),hi<=i->j<=xs[i]) ->
    SetTable.below.go xs j fuel lo hi<=xs.size/\(∀ i (h:i < xs.size),i < SetTable.below.go xs j fuel lo hi->xs[i] < j)/\(∀ i (h:i < xs.size),SetTable.below.go xs j fuel lo hi<=i->j<=xs[i])
  | 0,lo,hi,h1,h2,h3,a,b=>by
    have e:lo = hi:=by omega
    unfold SetTable.below.go
    exact ⟨by omega,a,e ▸ b⟩
  | fuel + 1,lo,hi,h1,h2,h3,a,b=>by
    unfold SetTable.below.go
    by_cases hlt:lo < hi
    · rw [if_pos hlt]
      have hm:(lo + hi) / 2 < xs.size:=by omega
      have e:xs.getD ((lo + hi) / 2) j = xs[(lo + hi) / 2]:=by simp [hm]
      dsimp only
      rw [e]
      by_cases hc:xs[(lo + hi) / 2] < j
      · rw [if_pos hc]
        refine yf8 hr j fuel _ hi (by omega) h2 (by omega) (λi h q=>?_) b
        rcases Nat.lt_or_ge i ((lo + hi) / 2) with z | z
        · exact Nat.lt_trans (hr.lt h hm z) hc
        · have:i = (lo + hi) / 2:=by omega
          subst this; exact hc
      · rw [if_neg hc]
        refine yf8 hr j fuel lo _ (by omega) (by omega) (by omega) a (λi h q=>?_)
        rcases Nat.lt_or_ge ((lo + hi) / 2) i with z | z
        · exact Nat.le_trans (Nat.le_of_not_lt hc) (Nat.le_of_lt (hr.lt hm h z))
        · have:i = (lo + hi) / 2:=by omega
          subst this; exact Nat.le_of_not_lt hc
    · rw [if_neg hlt]
      have e:lo = hi:=by omega
      exact ⟨by omega,a,e ▸ b⟩
theorem zn7 {xs:Array Nat} (hr:Rise xs) (j:Nat):SetTable.below xs j<=xs.size/\(∀ i (h:i < xs.size),i < SetTable.below xs j->xs[i] < j)/\(∀ i (h:i < xs.size),SetTable.below xs j<=i->j<=xs[i]):=by
  unfold SetTable.below
  exact yf8 hr j _ 0 xs.size (Nat.zero_le _) (Nat.le_refl _) (by omega) (λi h q=>absurd q (Nat.not_lt_zero _)) (λi h q=>absurd h (by omega))
theorem yt4 {xs:Array Nat} (hr:Rise xs):SetTable.below xs 0 = 0:=by
  obtain ⟨h1,h2,h3⟩:=zn7 hr 0
  rcases Nat.eq_zero_or_pos (SetTable.below xs 0) with h | h
  · exact h
  · exact absurd (h2 0 (by omega) h) (Nat.not_lt_zero _)
theorem yt5 {xs:Array Nat} (hr:Rise xs) {i:Nat} (hi:i < xs.size):SetTable.below xs (xs[i] + 1) = i + 1:=by
  obtain ⟨h1,h2,h3⟩:=zn7 hr (xs[i] + 1)
  rcases Nat.lt_trichotomy (SetTable.below xs (xs[i] + 1)) (i + 1) with h | h | h
  · have:=h3 i hi (by omega); omega
  · exact h
  · have hi':i + 1 < xs.size:=by omega
    have h4:=h2 (i + 1) hi' h
    have h5:=hr.lt hi hi' (Nat.lt_succ_self i)
    omega
theorem zx2 {xs:Array Nat} (hr:Rise xs) {j:Nat} (h:xs[SetTable.below xs j]? ≠ some j):∀ i (hi:i < xs.size),xs[i] ≠ j:=by
  intro i hi e
  obtain ⟨h1,h2,h3⟩:=zn7 hr j
  have hb:SetTable.below xs j = i:=by
    rcases Nat.lt_trichotomy (SetTable.below xs j) i with z | z | z
    · have hb:SetTable.below xs j < xs.size:=by omega
      have:=h3 _ hb (Nat.le_refl _)
      have:=hr.lt hb hi z
      omega
    · exact z
    · have:=h2 i hi z; omega
  apply h
  rw [hb,Array.getElem?_eq_getElem hi,e]
theorem yj8 {xs : Array Nat} (hr : Rise xs) {j : Nat} (hj : ∀ i (hi : i < xs.size), xs[i] ≠ j) : Rise (SetTable.insertAt xs (SetTable.below xs j) j) := by
  obtain ⟨h1, h2, h3⟩ := zn7 hr j
  unfold Rise
  rw [SetTable.toList_insertAt]
  have hl : ∀ x ∈ xs.toList.take (SetTable.below xs j), x < j := by
    intro x hx
    obtain ⟨i, hi, e⟩ := List.mem_iff_getElem.mp hx
    rw [List.length_take] at hi
    rw [List.getElem_take] at e
    have hi2 : i < xs.size := by have : xs.toList.length = xs.size := by simp
                                 omega
    have := h2 i hi2 (by omega)
    rw [<- e]; simpa using this
  have hg : ∀ x ∈ xs.toList.drop (SetTable.below xs j), j < x := by
    intro x hx
    obtain ⟨i, hi, e⟩ := List.mem_iff_getElem.mp hx
    rw [List.length_drop] at hi
    rw [List.getElem_drop] at e
    have hi2 : SetTable.below xs j + i < xs.size := by have : xs.toList.length = xs.size := by simp
                                                       omega
    have a := h3 _ hi2 (by omega)
    have b := hj _ hi2
    have : xs[SetTable.below xs j + i] = x := by rw [<- e]; simp
    omega
  rw [List.pairwise_append]
  refine ⟨hr.sublist (List.take_sublist _ _), List.pairwise_cons.mpr ⟨hg, hr.sublist (List.drop_sublist _ _)⟩, fun a ha b hb => ?_⟩
  rcases List.mem_cons.mp hb with rfl | hb
  · exact hl a ha
  · exact Nat.lt_trans (hl a ha) (hg b hb)
structure TabOk (led:Bool) (t:SetTable):Prop where
  led:t.led = led
  rise:Rise t.place
  nod:t.dummies = #[]
theorem yq9 (n:Nat):Rise (Array.range n):=by
  unfold Rise
  rw [Array.toList_range]
  exact List.pairwise_lt_range
theorem TabOk.standIn {led:Bool} {t:SetTable} (h:TabOk led t) (n:Nat):TabOk led (t.standIn n):=⟨h.led,yq9 n,rfl⟩
theorem TabOk.orStandIn {led:Bool} {t:SetTable} (h:TabOk led t) (n:Nat):TabOk led (t.orStandIn n):=by
  unfold SetTable.orStandIn
  split
  · exact h
  · exact h.standIn n
theorem TabOk.unplain {led:Bool} {t:SetTable} (h:TabOk led t):TabOk led { t with plain:=false }:=⟨h.led,h.rise,h.nod⟩
theorem yo3 (j:Nat):SetTable.has #[] j = false:=by simp [SetTable.has]
theorem yg6 {t:SetTable} (h:t.dummies = #[]) (j:Nat):t.slot j ≠ .dummy:=by
  unfold SetTable.slot
  rw [h,yo3]
  dsimp only
  split
  · intro e; cases e
  · intro e; simp at e
theorem yp5 {t:SetTable} {j:Nat} (h:t.slot j = .empty):t.place[SetTable.below t.place j]? ≠ some j:=by
  intro e
  unfold SetTable.slot at h
  simp [e] at h
theorem xb8 {t:SetTable} {p:SetTable.Probe} (h:p.dummy = none):(t.advance p).dummy = none:=by
  unfold SetTable.advance
  split <;> exact h
theorem yn3 {t:SetTable} (hn:t.dummies = #[]) {hashAt:Nat->Int} {h:Int}:∀ (fuel:Nat) (p:SetTable.Probe),p.dummy = none->∀ j d,SetTable.probe.go t hashAt h fuel p = some (.empty j d)->d = none/\t.slot j = .empty
  | 0,p,_,j,d,e=>by simp [SetTable.probe.go] at e
  | fuel + 1,p,hp,j,d,e=>by
    unfold SetTable.probe.go at e
    cases hs:t.slot p.j with
    | empty=>
      rw [hs] at e
      simp at e
      obtain ⟨rfl,rfl⟩:=e
      exact ⟨hp,hs⟩
    | dummy=>exact absurd hs (yg6 hn _)
    | live i=>
      rw [hs] at e
      dsimp only at e
      split at e
      · cases e
      · exact yn3 hn fuel _ (xb8 hp) j d e
theorem xo0 {t:SetTable} (hn:t.dummies = #[]) {h:Int} {s:Nat} {b:Bool} (e:t.freeSlot h = some (s,b)):t.slot s = .empty:=by
  unfold SetTable.freeSlot SetTable.probe at e
  split at e
  · rename_i j d hq
    obtain ⟨rfl,h2⟩:=yn3 hn _ _ rfl j d hq
    simp at e
    obtain ⟨rfl,rfl⟩:=e
    exact h2
  · cases e
theorem TabOk.put {led:Bool} {t:SetTable} (h:TabOk led t) {j:Nat} (hs:t.slot j = .empty):TabOk led (t.put j).1:=by
  refine ⟨h.led,yj8 h.rise (zx2 h.rise (yp5 hs)),?_⟩
  show (if SetTable.has t.dummies j then _ else t.dummies) = #[]
  rw [h.nod,yo3]
  rfl
theorem TabOk.layNew {led:Bool} {t:SetTable} (h:TabOk led t) (es:Array (Int × Value)) (k:Int) (x:Value):TabOk led (layNew t es k x).2.1:=by
  unfold PySem.layNew
  split
  · rename_i s b hq
    exact (h.put (xo0 h.nod hq)).orStandIn _
  · exact h.standIn _
theorem yz1 {mask finger moves:Nat} {led plain:Bool} {hashes:Array Int} {t:SetTable} {o:Array Nat} (e:SetTable.laid mask finger moves led plain hashes = some (t,o)):TabOk led t:=by
  unfold SetTable.laid at e
  cases hq:SetTable.layClean mask hashes with
  | none=>rw [hq] at e; cases e
  | some owner=>
    rw [hq] at e
    have e':=Option.some.inj e
    have e1:=(Prod.mk.inj e').1
    subst e1
    refine ⟨rfl,?_,rfl⟩
    show List.Pairwise (· < ·) (((List.range (mask + 1)).filterMap λj=>(owner.getD j none).map (j,·)).map (·.1)).toArray.toList
    rw [List.map_filterMap]
    have hs:∀ l:List Nat,(l.filterMap λx=>Option.map (λx=>x.1) ((owner.getD x none).map (x,·))).Sublist l:=by
      intro l
      induction l with
      | nil=>exact .slnil
      | cons a r ih=>
        rw [List.filterMap_cons]
        cases owner.getD a none with
        | none=>exact ih.cons _
        | some v=>exact ih.cons₂ _
    exact (List.pairwise_lt_range (n:=mask + 1)).sublist (hs _)
theorem TabOk.relayAll {led:Bool} {t:SetTable} (h:TabOk led t) (es:Array (Int × Value)) (n:Nat):TabOk led (relayAll t es n).2.1:=by
  unfold PySem.relayAll
  split
  · rename_i t' o hq
    dsimp only
    split
    · have:=yz1 hq
      rw [h.led] at this
      exact this
    · exact h.standIn _
  · exact h.standIn _
theorem zk0 {α β:Type} {R:α->β->Prop} {l2 l2':List β} (p:l2.Perm l2'):∀ {l1:List α},Paired R l1 l2->∃ l1',l1.Perm l1'/\Paired R l1' l2':=by
  induction p with
  | nil=>intro l1 h; exact ⟨l1,.refl _,h⟩
  | cons x _ ih=>
    intro l1 h
    cases h with
    | cons r t=>obtain ⟨l,p,q⟩:=ih t; exact ⟨_ :: l,p.cons _,.cons r q⟩
  | swap x y l=>
    intro l1 h
    cases h with
    | cons r t=>cases t with | cons r' t'=>exact ⟨_,.swap _ _ _,.cons r' (.cons r t')⟩
  | trans _ _ ih1 ih2=>
    intro l1 h
    obtain ⟨l,p,q⟩:=ih1 h
    obtain ⟨l',p',q'⟩:=ih2 q
    exact ⟨l',p.trans p',q'⟩
theorem zg2 {α β:Type} {R:α->β->Prop}:∀ {xs:List α} {ys:List β},Paired R xs ys->xs.length = ys.length
  | _,_,.nil=>rfl
  | _,_,.cons _ t=>by rw [List.length_cons,List.length_cons,zg2 t]
theorem zp1 {α β:Type} {R:α->β->Prop}:∀ {xs:List α} {ys:List β} {a:α} {b:β},Paired R xs ys->R a b->Paired R (xs ++ [a]) (ys ++ [b])
  | _,_,_,_,.nil,r=>.cons r .nil
  | _,_,_,_,.cons q t,r=>.cons q (zp1 t r)
section
variable {prog:Program} {w:World} {K:Type} [DecidableEq K] (knd:KeyKind prog w K)
def SetW (h:Heap) (a:Addr) (ks:List K):Prop:=
  ∃ o es ep t,h.get? a = some o/\o.ExactSet/\o.data = .set es ep t/\ElemsOf knd es.toList/\Paired (λ(k:K) (e:Int × Value)=>knd.is k e.2 = true) ks es.toList/\ks.Nodup /\
    es.size < scanBound/\t.fits es.size = true/\TabOk (!w.params.followText "set-order") t
variable {knd}
variable {A:Around} {E:Value->Shared->Prop} {s:Shared}
theorem SetW.at' {h h':Heap} {a:Addr} {ks:List K} (x:SetW knd h a ks) (k:∀ o,h.get? a = some o->h'.get? a = some o):SetW knd h' a ks:=by
  obtain ⟨o,es,ep,t,ho,r⟩:=x
  exact ⟨o,es,ep,t,k o ho,r⟩
theorem SetW.typeIs {a:Addr} {ks:List K} (x:SetW knd s.heap a ks):s.TypeIs (.ref a) "set":=by
  obtain ⟨o,es,ep,t,ho,hx,r⟩:=x
  exact ⟨o,ho,hx.1⟩
theorem xs3 {ks:List K}:∀ {es:List (Int × Value)},Paired (λ(k:K) (e:Int × Value)=>knd.is k e.2 = true) ks es->∀ k,k ∈ ks ↔ ∃ e ∈ es,knd.is k e.2 = true:=by
  induction ks with
  | nil=>intro es h k; cases h; simp
  | cons a r ih=>
    intro es h k
    cases h with
    | @cons _ b _ t r' p=>
      rw [List.mem_cons,ih p k]
      constructor
      · rintro (rfl | ⟨e,he,hk⟩)
        · exact ⟨b,List.mem_cons_self,r'⟩
        · exact ⟨e,List.mem_cons_of_mem _ he,hk⟩
      · rintro ⟨e,he,hk⟩
        rcases List.mem_cons.mp he with rfl | he
        · exact .inl (knd.inj _ _ _ hk r')
        · exact .inr ⟨e,he,hk⟩
theorem zz5 {h:Heap} {a:Addr} {o:Obj} {es:Array (Int × Value)} {ep:Nat} {t:SetTable} (ho:h.get? a = some o) (hex:o.ExactSet) (hd:o.data = .set es ep t)
    {es':Array (Int × Value)} {t':SetTable} {ks:List K} (hel:ElemsOf knd es'.toList) (hp:Paired (λ(k:K) (e:Int × Value)=>knd.is k e.2 = true) ks es'.toList) (hn:ks.Nodup) (hb:es'.size < scanBound) (hf:t'.fits es'.size = true)
    (ht:TabOk (!w.params.followText "set-order") t') :
    (h.update a (Obj.putSet es' t')).get? a = some { o with data:=.set es' (ep + 1) t' }/\SetW knd (h.update a (Obj.putSet es' t')) a ks:=by
  have hg:(h.update a (Obj.putSet es' t')).get? a = some { o with data:=.set es' (ep + 1) t' }:=by
    have:=Heap.get?_update_self (Obj.putSet es' t') ho (by rw [putSet_of es' t' hd]; rfl)
    rw [putSet_of es' t' hd] at this; exact this
  exact ⟨hg,_,es',ep + 1,t',hg,hex,rfl,hel,hp,hn,hb,hf,ht⟩
theorem yg2 {g:Bool->Sem Unit} (hg:∀ (b:Bool) (s₁:Shared) (Q':Unit->Shared->Prop),Q' () s₁->wpAny (model prog w) A (g b) Q' E s₁)
    {a:Addr} {o:Obj} {es:Array (Int × Value)} {ep:Nat} {t:SetTable} (ho:s.heap.get? a = some o) (hex:o.ExactSet) (hd:o.data = .set es ep t)
    {es1:Array (Int × Value)} {t2:SetTable} {ks:List K} (hel1:ElemsOf knd es1.toList) (hp1:Paired (λ(k:K) (e:Int × Value)=>knd.is k e.2 = true) ks es1.toList) (hn1:ks.Nodup)
    (hb1:es1.size < scanBound) (hf2:t2.fits es1.size = true) (ht2:TabOk (!w.params.followText "set-order") t2) {wasDummy:Bool} {R:Option Bool->Shared->Prop}
    (h:∀ h' ks',Heap.SameBut a s.heap h'->ks.Perm ks'->SetW knd h' a ks'->R (some true) { s with heap:=h' }) :
    wpAny (model prog w) A (do
        storeSet a es1 t2
        if (!wasDummy && t2.tooFull) = true then do
            g (relayAll t2 es1 (SetTable.grown es1.size)).2.2
            storeSet a (relayAll t2 es1 (SetTable.grown es1.size)).1 (relayAll t2 es1 (SetTable.grown es1.size)).2.1
            pure (some true)
          else pure (some true)) R E s:=by
  refine wpAny_bind (wpAny_storeSet_of ho hd ?_ (fits_of_scanBound hb1))
  obtain ⟨ho1,hS1⟩:=zz5 (knd:=knd) ho hex hd hel1 hp1 hn1 hb1 hf2 ht2
  have hsb1:=Heap.SameBut.update s.heap a (Obj.putSet es1 t2)
  split
  · have hp:=relayAll_perm t2 es1 (SetTable.grown es1.size)
    have hfr:=relayAll_fits t2 es1 (SetTable.grown es1.size)
    have htr:=ht2.relayAll es1 (SetTable.grown es1.size)
    generalize hRl:relayAll t2 es1 (SetTable.grown es1.size) = Rl at hp hfr htr ⊢
    obtain ⟨es2,t3,gave2⟩:=Rl
    dsimp only at hp hfr htr ⊢
    have hel2:ElemsOf knd es2.toList:=hel1.perm hp
    obtain ⟨ks2,pk,hp2⟩:=zk0 hp.symm hp1
    have hsz:es2.size = es1.size:=by rw [<- Array.length_toList,hp.length_eq,Array.length_toList]
    have hb2:es2.size < scanBound:=by rw [hsz]; exact hb1
    refine wpAny_bind (hg _ _ _ ?_)
    refine wpAny_bind (wpAny_storeSet_of ho1 rfl ?_ (fits_of_scanBound hb2))
    obtain ⟨_,hS2⟩:=zz5 (knd:=knd) ho1 hex rfl hel2 hp2 (pk.nodup_iff.mp hn1) hb2 hfr htr
    exact wpAny_pure (h _ _ (hsb1.trans (Heap.SameBut.update _ a _)) pk hS2)
  · exact wpAny_pure (h _ _ hsb1 (.refl _) hS1)
def yt7 (ks:List K) (k:K) (ks':List K):Prop:=(k ∈ ks/\ks' = ks)\/(k ∉ ks/\(ks ++ [k]).Perm ks')
theorem yt7.mem {ks ks':List K} {k:K} (h:yt7 ks k ks') (x:K):x ∈ ks' ↔ x ∈ ks\/x = k:=by
  rcases h with ⟨a,rfl⟩ | ⟨_,p⟩
  · exact ⟨.inl,λz=>z.elim id (λe=>e ▸ a)⟩
  · rw [<- p.mem_iff,List.mem_append,List.mem_singleton]
theorem yt7.len {ks ks':List K} {k:K} (h:yt7 ks k ks'):ks'.length<=ks.length + 1:=by
  rcases h with ⟨a,rfl⟩ | ⟨_,p⟩
  · exact Nat.le_succ _
  · rw [<- p.length_eq,List.length_append]; exact Nat.le_refl _
theorem xh3 {a:Addr} {ks:List K} {k:K} {x:Value} {Q:Bool->Shared->Prop} (hkey:knd.is k x = true) (hsc:x.scannable = true) (hS:SetW knd s.heap a ks) (hroom:ks.length + 1 < scanBound)
    (h:∀ b h' ks',Heap.SameBut a s.heap h'->SetW knd h' a ks'->yt7 ks k ks'->Q b { s with heap:=h' }) :
    wpAny (model prog w) A (setAddHashed a x (knd.hash k)) Q E s:=by
  obtain ⟨o,es,ep,t,ho,hex,hd,hel,hpr,hnd,hb,hf,ht⟩:=hS
  have hmem:=xs3 (knd:=knd) hpr
  have hlen:ks.length = es.size:=by rw [zg2 hpr]; simp
  have hb1:es.size + 1 < scanBound:=by omega
  unfold setAddHashed setAddHashedIn
  refine wpAny_holding (wpAny_bind (wpAny_setState_of ho hd hf ?_))
  dsimp only
  rw [byScan_of hsc hb hel]
  simp only [↓reduceIte]
  unfold setAddByScan
  refine wpAny_bind ?_
  refine wpAny_bind (wpAny_rule ?_)
  refine wpAny_bind (wpAny_setScan_of hkey ho hd hf hel ?_)
  cases hr:List.findIdx? (λe=>knd.is k e.2) es.toList with
  | some j=>
    dsimp only
    obtain ⟨hj,hpj,_⟩:=List.findIdx?_eq_some_iff_getElem.mp hr
    have hSk:k ∈ ks:=(hmem k).mpr ⟨es.toList[j],List.getElem_mem hj,hpj⟩
    refine wpAny_pure (wpAny_pure ?_)
    have e:s = { s with heap:=s.heap }:=by cases s; rfl
    rw [e]
    exact h _ s.heap ks (Heap.SameBut.refl a s.heap) ⟨o,es,ep,t,ho,hex,hd,hel,hpr,hnd,hb,hf,ht⟩ (.inl ⟨hSk,rfl⟩)
  | none=>
    dsimp only
    have hSk:k ∉ ks:=by
      intro hk
      obtain ⟨e,he,hp⟩:=(hmem k).mp hk
      have:=List.findIdx?_eq_none_iff.mp hr e he; rw [hp] at this; exact Bool.noConfusion this
    have hgw:∀ (b:Bool) {s₁:Shared} {Q':Unit->Shared->Prop},Q' () s₁->wpAny (model prog w) A (match b with | true=>rule "set.scan.the-table-gave-way" | false=>pure ()) Q' E s₁:=
      λb s₁ Q' hq=>by cases b <;> first | exact wpAny_pure hq | exact wpAny_rule hq
    have hperm:=layNew_perm t es (knd.hash k) x
    have hfits:=layNew_fits t es (knd.hash k) x
    have htab:=ht.layNew es (knd.hash k) x
    generalize hL:layNew t es (knd.hash k) x = L at hperm hfits htab ⊢
    obtain ⟨es1,t1,wasDummy,gave⟩:=L
    dsimp only at hperm hfits htab ⊢
    rw [Array.toList_push] at hperm
    have hel1:ElemsOf knd es1.toList:=(hel.push hkey hsc).perm hperm
    obtain ⟨ks1,pk,hp1⟩:=zk0 hperm.symm (zp1 hpr (a:=k) (b:=(knd.hash k,x)) hkey)
    have hn1:ks1.Nodup:=pk.nodup_iff.mp (by
      rw [List.nodup_append]
      exact ⟨hnd,by simp,λa ha b hb e=>by simp at hb; subst hb; subst e; exact hSk ha⟩)
    have hb1':es1.size < scanBound:=by rw [<- Array.length_toList,hperm.length_eq,List.length_append,Array.length_toList]; simpa using hb1
    refine wpAny_bind (hgw _ ?_)
    have hend:∀ h' ks',Heap.SameBut a s.heap h'->ks1.Perm ks'->SetW knd h' a ks'->Q true { s with heap:=h' }:=by
      intro h' ks' hsb p hS'; exact h true h' ks' hsb hS' (.inr ⟨hSk,pk.trans p⟩)
    split
    · refine wpAny_bind ?_
      rw [hashByValue_scannable 8 hsc]
      refine wpAny_pure ?_
      refine yg2 ?_ ho hex hd hel1 hp1 hn1 hb1' ?_ ?_ ?_
      · intro b s₁ Q' hq; cases b <;> first | exact wpAny_pure hq | exact wpAny_rule hq
      · split
        · exact hfits
        · exact SetTable.fits_plain_off hfits
      · split
        · exact htab
        · exact htab.unplain
      · intro h' ks' hsb p hS'; dsimp only; exact wpAny_pure (hend h' ks' hsb p hS')
    · refine wpAny_bind (wpAny_pure ?_)
      simp only [↓reduceIte]
      refine yg2 ?_ ho hex hd hel1 hp1 hn1 hb1' hfits htab ?_
      · intro b s₁ Q' hq; cases b <;> first | exact wpAny_pure hq | exact wpAny_rule hq
      · intro h' ks' hsb p hS'; dsimp only; exact wpAny_pure (hend h' ks' hsb p hS')
end
end L2
namespace L2
open PySem PySem.Spec PyProof.Rows
section
variable {prog:Program} {w:World} {K:Type} [DecidableEq K] {knd:KeyKind prog w K}
def yj3 (val:Nat->K) (i:Nat) (ks:List K):Prop:=(∀ k,k ∈ ks ↔ ∃ j,j < i/\val j = k)/\ks.length<=i
theorem ys9 (val:Nat->K):yj3 val 0 []:=⟨λk=>⟨(λh=>nomatch h),λ⟨j,hj,_⟩=>absurd hj (Nat.not_lt_zero _)⟩,Nat.le_refl _⟩
theorem yj3.add {val:Nat->K} {i:Nat} {ks ks':List K} (h:yj3 val i ks) (a:yt7 ks (val i) ks'):yj3 val (i + 1) ks':=by
  refine ⟨λk=>?_,Nat.le_trans a.len (Nat.succ_le_succ h.2)⟩
  rw [a.mem,h.1]
  constructor
  · rintro (⟨j,hj,e⟩ | rfl)
    · exact ⟨j,Nat.lt_succ_of_lt hj,e⟩
    · exact ⟨i,Nat.lt_succ_self _,rfl⟩
  · rintro ⟨j,hj,e⟩
    rcases Nat.lt_succ_iff_lt_or_eq.mp hj with hj | rfl
    · exact .inl ⟨j,hj,e⟩
    · exact .inr e.symm
variable {A:Around} {R:Result->Shared->Prop} {I:Addr} {fp wr:List Addr} {G:Array GenState->Array GenState->Prop} {n:Nat} {P:Nat->Value->Prop} {St:Nat->Shared->Prop}
theorem zv8 (W:WalksS prog w A.in1 I fp wr G n P St) (S:Addr) (hSf:S ∉ fp)
    (val:Nat->K) (hval:∀ i v,P i v->knd.is (val i) v = true/\v.scannable = true) (hb:n + 1 < scanBound) :
    ∀ (k i:Nat) (s:Shared) (ks:List K),n - i = k->i<=n->St i s->SetW knd s.heap S ks->yj3 val i ks ->
      (∀ s' ks',Moved (S :: wr) G s s'->SetW knd s'.heap S ks'->yj3 val n ks'->R (.ok (.ret .none)) s') ->
      codeAny (model prog w) A (.builtin "set.update.loop" ⟨[.ref S,.ref I],[]⟩) R s:=by
  have hSw:S ∉ wr:=λh=>hSf (W.sub _ h)
  have hsub:∀ b ∈ wr,b ∈ S :: wr:=λb hb=>List.mem_cons_of_mem _ hb
  intro k
  induction k with
  | zero=>
    intro i s ks hk hi hst hS hD hR
    have hin:i = n:=by omega
    subst hin
    refine codeAny_builtin F.entry_set_update_loop ?_
    rw [Around.under_plainId F.plain_set_update_loop _]
    show wpAny _ A.in1 (pyNext (.ref I) >>= _) _ _ s
    refine wpAny_bind (W.done s _ _ hst λs' hm=>?_)
    show wpAny _ A.in1 (ret Value.none) _ _ s'
    exact wpAny_pure (hR s' ks (hm.mono hsub) (hS.at' λo e=>hm.heap S _ hSw e) hD)
  | succ k ih=>
    intro i s ks hk hi hst hS hD hR
    have hlt:i < n:=by omega
    refine codeAny_builtin F.entry_set_update_loop ?_
    rw [Around.under_plainId F.plain_set_update_loop _]
    show wpAny _ A.in1 (pyNext (.ref I) >>= _) _ _ s
    refine wpAny_bind (W.item i s _ _ hlt hst λv s' hP hst' hm=>?_)
    obtain ⟨hkv,hsc⟩:=hval i v hP
    have hS':SetW knd s'.heap S ks:=hS.at' λo e=>hm.heap S _ hSw e
    show wpAny _ A.in1 (holding [v] (setAdd S v) >>= _) _ _ s'
    refine wpAny_bind (wpAny_holding ?_)
    unfold setAdd
    refine wpAny_holding ?_
    refine wpAny_bind (knd.pyHash (k:=val i) hkv ?_)
    have hroom:ks.length + 1 < scanBound:=by have:=hD.2; omega
    refine xh3 (knd:=knd) (s:={ s' with toks:=s'.toks + 1 }) hkv hsc hS' hroom λb h' ks' hsb hS2 ha=>?_
    refine wpAny_pure ⟨plainId_quiet F.plain_set_update_loop _,ih (i + 1) _ ks' (by omega) hlt (W.frame _ s' _ _ hst' (Nat.le_succ _) λb hb o e=>?_) hS2 (hD.add ha) λs'' ks'' hm'' hS'' hD''=>?_⟩
    · rw [hsb.2 b (λh:b = S=>hSf (by rw [<- h]; exact hb))]; exact e
    · refine hR s'' ks'' (Moved.trans W.gtrans ((hm.mono hsub).then_heap (Nat.le_succ _) λb o hb e=>?_) hm'') hS'' hD''
      rw [hsb.2 b (λh:b = S=>hb (by rw [h]; exact List.mem_cons_self))]; exact e
variable {E:Value->Shared->Prop} {s:Shared}
theorem yv4 (a:Value) {Q₁:Value->Shared->Prop}
    (h:Q₁ (.ref s.heap.objs.size) { s with heap:=s.heap.push { cls:=.type "set",dict:=none,data:=.set #[] 0 (.fresh 0 0 (!w.params.followText "set-order")) } }) :
    codeAny (model prog w) A (.call (.builtin "set.__new__") ⟨[.type "set",a],[]⟩) (wants Q₁ E) s:=by
  refine codeAny_of_tree ?_
  show wpAny _ A.in1 (do checkBuiltinCall "set.__new__" ⟨[.type "set",a],[]⟩; again (.builtin "set.__new__" ⟨[.type "set",a],[]⟩)) _ _ s
  refine wpAny_bind (wpAny_of_eq (PySem.F.newCall_set_1 a) (wpAny_pure ⟨plainId_quiet PySem.F.plain_set_new _,codeAny_builtin PySem.F.entry_set_new ?_⟩))
  rw [Around.under_plainId PySem.F.plain_set_new _]
  unfold Builtin.«set.__new__» Builtin.Frozenset.newClass
  have hsub:=sub_set_self
  obtain ⟨hp,g,d,tk,os⟩:=s
  dsimp only
  wp_walk
  refine wpAny_askSetting (wpAny_pure ?_)
  dsimp only
  simp only [newObj]
  refine wpAny_bind (wpAny_alloc (wpAny_pure ?_))
  exact wpAny_pure h
theorem yp8 {h:Heap}:SetW knd (h.push { cls:=.type "set",dict:=none,data:=.set #[] 0 (.fresh 0 0 (!w.params.followText "set-order")) }) h.objs.size []:=
  ⟨_,#[],0,_,Heap.get?_push_size _ rfl,⟨rfl,rfl,rfl⟩,rfl,λe he=>by simp at he,.nil,List.nodup_nil,by decide,by rfl,⟨rfl,by simp [Rise,SetTable.fresh],rfl⟩⟩
set_option maxHeartbeats 3200000 in
theorem yf5 {l:Addr} {items:Array Value} {val:Nat->K} {Q:Value->Shared->Prop}
    (hh:A.handled = none) (hl:s.heap.IsList l items) (hi:∀ i v,items[i]? = some v->knd.is (val i) v = true/\v.scannable = true) (hb:items.size + 1 < scanBound)
    (h:∀ (h':Heap) (tk:Nat) (ks:List K),SetW knd h' s.heap.objs.size ks->yj3 val items.size ks ->
      (∀ b o,b < s.heap.objs.size->s.heap.get? b = some o->h'.get? b = some o)->Q (.ref s.heap.objs.size) { s with heap:=h',toks:=tk }) :
    wpAny (model prog w) A (call (.type "set") [.ref l]) Q E s:=by
  obtain ⟨c,tl,hmro⟩:=PySem.F.called_set.mro
  have hmade:=PySem.F.called_set.made
  have hsub:=PySem.F.called_set.sub
  refine wpAny_call (codeAny_of_tree ?_)
  show wpAny _ _ (callAny (.type "set") _) _ _ _
  refine wpAny_pure ⟨Code.quiet_builtin _ (by decide +kernel),codeAny_builtin PySem.F.entry_type_call ?_⟩
  rw [Around.under_plain (weight_type_call_type "set" [.ref l] []) rfl]
  have h1:=PySem.F.called_set.notType
  have h2:=PySem.F.called_set.canCreate
  have hct:=PySem.F.typeCall_set_1 (.ref l)
  repeat (any_goals (first | assumption | wp_step))
  refine codeAny_mono (yv4 (.ref l) (E:=E) (Q₁:=λobj s₁=>obj = .ref s.heap.objs.size/\s₁ = { s with heap:=s.heap.push { cls:=.type "set",dict:=none,data:=.set #[] 0 (.fresh 0 0 (!w.params.followText "set-order")) } }) ⟨rfl,rfl⟩) λr s₁ hr=>?_
  cases r with
  | error e=>exact hr
  | ok fl=>
    cases fl with
    | ret obj=>
      obtain ⟨rfl,rfl⟩:=hr
      generalize hled:(!w.params.followText "set-order") = led at *
      have hS:(s.heap.push { cls:=.type "set",dict:=none,data:=.set #[] 0 (.fresh 0 0 led) }).get? s.heap.objs.size = some { cls:=.type "set",dict:=none,data:=.set #[] 0 (.fresh 0 0 led) }:=Heap.get?_push_size _ rfl
      have hT:Shared.TypeIs { s with heap:=s.heap.push { cls:=.type "set",dict:=none,data:=.set #[] 0 (.fresh 0 0 led) } } (.ref s.heap.objs.size) "set":=⟨_,hS,rfl⟩
      have hli:=PySem.F.called_set.init.lookup
      have hbi:=PySem.F.called_set.init.bind (.ref s.heap.objs.size)
      repeat (any_goals (first | assumption | wp_step))
      refine codeAny_mono (codeAny_call_builtin (R:=wants (λr s₂=>r = .none/\∃ h' tk ks,s₂ = { s with heap:=h',toks:=tk } /\
          SetW knd h' s.heap.objs.size ks/\yj3 val items.size ks /\
          (∀ b o,b < s.heap.objs.size->s.heap.get? b = some o->h'.get? b = some o)) E) PySem.F.called_set.init.plain PySem.F.entry_set_init (check_set_init_1 hT ?_)) λr₂ s₂ hr₂=>?_
      · obtain ⟨ol,hol,hcl,nl,hdl⟩:=hl
        obtain ⟨ocls,odict,odata,oslots⟩:=ol
        simp only at hcl hdl
        subst hcl; subst hdl
        have hol':(s.heap.push { cls:=.type "set",dict:=none,data:=.set #[] 0 (.fresh 0 0 led) }).get? l = some { cls:=.type "list",dict:=odict,data:=.seq items nl,slots:=oslots }:=Heap.get?_push_of_some _ hol
        have hsls:=PySem.F.sub_list_set
        have hslf:=PySem.F.sub_list_frozenset
        have hne:(Value.type "list" == Value.type "dict") = false:=by decide
        have hl1:(s.heap.push { cls:=.type "set",dict:=none,data:=.set #[] 0 (.fresh 0 0 led) }).IsList l items:=⟨_,hol',rfl,nl,rfl⟩
        unfold Builtin.«set.__init__» noKeywords Builtin.Frozenset.updateFrom
        generalize hPI:pyIter = PI
        wp_walk
        subst hPI
        refine wpAny_pyIter_list hl1 ?_
        refine wpAny_bind (wpAny_runValue ?_)
        have hlS:l < s.heap.objs.size:=Heap.lt_size hol
        have hh3:A.in1.in1.in1.handled = none:=by simp [hh]
        have hneI:l ≠ (s.heap.push { cls:=.type "set",dict:=none,data:=.set #[] 0 (.fresh 0 0 led) }).objs.size:=by
          rw [Heap.size_push]; exact Nat.ne_of_lt (Nat.lt_succ_of_lt hlS)
        have hSf:s.heap.objs.size ∉ [(s.heap.push { cls:=.type "set",dict:=none,data:=.set #[] 0 (.fresh 0 0 led) }).objs.size,l]:=by
          rw [Heap.size_push]; simp only [List.mem_cons,List.mem_singleton,List.not_mem_nil,or_false,not_or]
          exact ⟨Nat.ne_of_lt (Nat.lt_succ_self _),Nat.ne_of_gt hlS⟩
        refine zv8 (knd:=knd) ((Walks.list hh3 _ l hneI items).toS) s.heap.objs.size
          hSf val hi hb (items.size - 0) 0 _ [] (by omega) (Nat.zero_le _)
          ⟨⟨_,Heap.get?_push_size _ rfl,rfl,rfl⟩,(hl1.push _)⟩ ?hS0 (ys9 val) ?hR
        case hS0=>
          refine SetW.at' (h:=s.heap.push { cls:=.type "set",dict:=none,data:=.set #[] 0 (.fresh 0 0 led) }) (hled ▸ yp8) λo e=>Heap.get?_push_of_some _ e
        case hR=>
          intro s' ks' hm hS' hD'
          obtain ⟨h',g',d',tk',os'⟩:=s'
          have eg:g' = s.gens:=hm.gens
          have ed:d' = s.drawn:=hm.drawn
          have eo:os' = s.os:=hm.os
          subst eg; subst ed; subst eo
          show wpAny _ _ _ _ _ _
          refine wpAny_pure ?_
          show wpAny _ _ (ret Value.none) _ _ _
          refine wpAny_pure ⟨rfl,h',tk',ks',rfl,hS',hD',λb o hb e=>?_⟩
          have hb1:b ≠ s.heap.objs.size:=Nat.ne_of_lt hb
          have hb2:b ≠ (s.heap.push { cls:=.type "set",dict:=none,data:=.set #[] 0 (.fresh 0 0 led) }).objs.size:=by
            rw [Heap.size_push]; exact Nat.ne_of_lt (Nat.lt_succ_of_lt hb)
          exact hm.heap b o (by simp only [List.mem_cons,List.mem_singleton,List.not_mem_nil,or_false,not_or]; exact ⟨hb1,hb2⟩) (Heap.get?_push_of_some _ (Heap.get?_push_of_some _ e))
      · cases r₂ with
        | error e=>exact hr₂
        | ok fl₂=>
          cases fl₂ with
          | ret r=>
            obtain ⟨rfl,h',tk,ks,rfl,hS',hD',hk'⟩:=hr₂
            repeat (any_goals (first | assumption | wp_step))
            exact h _ _ _ hS' hD' hk'
          | _=>exact hr₂.elim
    | _=>exact hr.elim
end
theorem zd2:Slot "set_iterator" "__next__" "set_iterator.__next__" :=
  .of (owner:="set_iterator") (n:="__next__") (by rw [typeLookup_type,builtinLookup_eq_fast]; kernel_rfl) (by decide +kernel) (by decide +kernel) (by decide +kernel)
    (by first | exact .inl (by decide +kernel) | exact .inr (by decide +kernel)) (by rw [isSubtype_type]; kernel_rfl)
theorem zk6:entryFor table "set_iterator.__next__" = some Builtin.«set_iterator.__next__»:=entryFor_of_tree (by kernel_rfl)
theorem zx0:Manifest.owners.lookup (String.ofList ['r','o','t','a','r','e','t','i','_','t','e','s'].reverse) = some Manifest.sig_set_iterator:=by kernel_rfl
theorem zm8 (a:Value):argsOk "set_iterator.__next__" ⟨[a],[]⟩:=by
  unfold argsOk; rw [signature?_of (id:="set_iterator.__next__") (n:=['_','_','t','x','e','n','_','_']) (o:=['r','o','t','a','r','e','t','i','_','t','e','s']) (by kernel_rfl) zx0]; kernel_rfl
theorem zl4:Slot "set_iterator" "__iter__" "set_iterator.__iter__" :=
  .of (owner:="set_iterator") (n:="__iter__") (by rw [typeLookup_type,builtinLookup_eq_fast]; kernel_rfl) (by decide +kernel) (by decide +kernel) (by decide +kernel)
    (by first | exact .inl (by decide +kernel) | exact .inr (by decide +kernel)) (by rw [isSubtype_type]; kernel_rfl)
theorem zt7:entryFor table "set_iterator.__iter__" = some Builtin.«dict_keyiterator.__iter__»:=entryFor_alias (id':="dict_keyiterator.__iter__") (by kernel_rfl) rfl (by decide +kernel) (by kernel_rfl)
theorem zy9 (a:Value):argsOk "set_iterator.__iter__" ⟨[a],[]⟩:=by
  unfold argsOk; rw [signature?_of (id:="set_iterator.__iter__") (n:=['_','_','r','e','t','i','_','_']) (o:=['r','o','t','a','r','e','t','i','_','t','e','s']) (by kernel_rfl) zx0]; kernel_rfl
theorem zy1:entryFor table "set.__iter__" = some Builtin.«frozenset.__iter__»:=entryFor_alias (id':="frozenset.__iter__") (by kernel_rfl) rfl (by decide +kernel) (by kernel_rfl)
theorem zs9 {α:Type}:∀ {l:List α} {i:Nat} (h:i < l.length),(l[i] :: l.eraseIdx i).Perm l
  | a :: r,0,_=>.refl _
  | a :: r,i + 1,h=>by
    have ih:=zs9 (l:=r) (i:=i) (by simpa using h)
    have h2:((a :: r)[i + 1] :: (a :: r).eraseIdx (i + 1)) = r[i]'(by simpa using h) :: a :: r.eraseIdx i:=rfl
    rw [h2]
    exact (List.Perm.swap _ _ _).trans (ih.cons a)
theorem yw1 {α:Type} (next:Nat->Nat):∀ (fuel k:Nat) (left:List α) (out:Array α),left.length<=fuel->∃ l:List α,(pickOrder.go next fuel k left out).toList = out.toList ++ l/\l.Perm left
  | 0,k,left,out,h=>by
    have:left = []:=List.eq_nil_of_length_eq_zero (by omega)
    subst this
    exact ⟨[],by simp [pickOrder.go],.refl _⟩
  | fuel + 1,k,[],out,h=>⟨[],by simp [pickOrder.go],.refl _⟩
  | fuel + 1,k,a :: r,out,h=>by
    unfold pickOrder.go
    have hlt:next k % (a :: r).length < (a :: r).length:=Nat.mod_lt _ (by simp)
    rw [List.getElem?_eq_getElem hlt]
    dsimp only
    obtain ⟨l,e,p⟩:=yw1 next fuel (k + 1) ((a :: r).eraseIdx (next k % (a :: r).length)) (out.push (a :: r)[next k % (a :: r).length]) (by rw [List.length_eraseIdx_of_lt hlt]; simp at h ⊢; omega)
    refine ⟨(a :: r)[next k % (a :: r).length] :: l,by rw [e]; simp,?_⟩
    exact (p.cons _).trans (zs9 hlt)
theorem yh2 {α:Type} (next:Nat->Nat) (xs:Array α):(pickOrder next xs).toList.Perm xs.toList:=by
  obtain ⟨l,e,p⟩:=yw1 next xs.size 0 xs.toList #[] (by simp)
  unfold pickOrder
  rw [e]
  simpa using p
theorem yg0 {M:Model} {A:Around} {E:Value->Shared->Prop} {s:Shared} {src:Source} {n:Nat} {Q:Nat->Shared->Prop} (hn:n ≠ 0) (h:∀ i d,i < n->Q i { s with drawn:=d }):wpAny M A (choose src n) Q E s:=λ_ _ _=>
  ⟨hn,h _ _ (Nat.mod_lt _ (Nat.pos_of_ne_zero hn))⟩
theorem zl0 {α:Type} {M:Model} {A:Around} {E:Value->Shared->Prop}:∀ (n:Nat) (xs:List α) {s:Shared} {Q:List α->Shared->Prop},xs.length<=n->(∀ l d,l.Perm xs->Q l { s with drawn:=d })->wpAny M A (drawOrder n xs) Q E s
  | 0,xs,s,Q,hl,h=>by
    have:xs = []:=List.eq_nil_of_length_eq_zero (by omega)
    subst this
    have e:s = { s with drawn:=s.drawn }:=by cases s; rfl
    unfold drawOrder
    rw [e]
    exact wpAny_pure (h [] _ (.refl _))
  | n + 1,[],s,Q,hl,h=>by
    have e:s = { s with drawn:=s.drawn }:=by cases s; rfl
    unfold drawOrder
    rw [e]
    exact wpAny_pure (h [] _ (.refl _))
  | n + 1,a :: r,s,Q,hl,h=>by
    unfold drawOrder
    refine wpAny_bind (yg0 (by simp) λi d hi=>?_)
    rw [List.getElem?_eq_getElem hi]
    dsimp only
    refine wpAny_bind (zl0 n _ (by rw [List.length_eraseIdx_of_lt hi]; simp at hl ⊢; omega) λl d' p=>wpAny_pure ?_)
    exact h _ _ ((p.cons _).trans (zs9 hi))
structure SetIt (w:World) (h:Heap) (it a tp:Addr) (vs:List Value) (i:Nat):Prop where
  it:∃ (o:Obj) (es:Array (Int × Value)) (ep:Nat) (t:SetTable) (first:Value) (oi:Obj),h.get? a = some o/\o.data = .set es ep t/\t.fits es.size = true/\TabOk (!w.params.followText "set-order") t/\vs.length = es.size /\
    h.get? it = some oi/\oi.cls = .type "set_iterator"/\oi.data = .fields #[first,rawInt (i:Int),.ref a,rawInt (es.size:Int),rawInt (ep:Int)] /\
    ((w.params.followText "set-order" = true/\first = rawInt 0/\vs = (pickOrder (w.params.setOrder a ep) es).toList.map (·.2)) \/
     (w.params.followText "set-order" = false/\∃ (ps:List Nat) (ot:Obj),first = .ref tp/\h.get? tp = some ot/\ot.data = .seq (ps.map λ(p:Nat)=>rawInt (p:Int)).toArray 0/\Paired (λ(p:Nat) (v:Value)=>(es[p]?).map (·.2) = some v) ps vs) \/
     (w.params.followText "set-order" = false/\(!t.plain && decide (es.size > 1)) = false/\∃ slot:Nat,first = rawInt (slot:Int)/\SetTable.below t.place slot = i/\vs = es.toList.map (·.2)))
theorem SetIt.typeIs {w:World} {s:Shared} {it a tp:Addr} {vs:List Value} {i:Nat} (x:SetIt w s.heap it a tp vs i):s.TypeIs (.ref it) "set_iterator":=by
  obtain ⟨_,_,_,_,_,oi,_,_,_,_,_,h,c,_⟩:=x
  exact ⟨oi,h,c⟩
theorem SetIt.frame {w:World} {h h':Heap} {it a tp:Addr} {vs:List Value} {i:Nat} (x:SetIt w h it a tp vs i) (k:∀ b,b = it\/b = a\/b = tp->∀ o,h.get? b = some o->h'.get? b = some o):SetIt w h' it a tp vs i:=by
  obtain ⟨o,es,ep,t,first,oi,h1,h2,h3,h4,h5,h6,h7,h8,h9⟩:=x
  refine ⟨o,es,ep,t,first,oi,k a (.inr (.inl rfl)) _ h1,h2,h3,h4,h5,k it (.inl rfl) _ h6,h7,h8,?_⟩
  rcases h9 with z | ⟨z,ps,ot,z1,z2,z3⟩ | z
  · exact .inl z
  · exact .inr (.inl ⟨z,ps,ot,z1,k tp (.inr (.inr rfl)) _ z2,z3⟩)
  · exact .inr (.inr z)
section
variable {prog:Program} {w:World} {A:Around} {E:Value->Shared->Prop} {s:Shared}
theorem zf1 {h:Heap} {a:Addr} {o:Obj} {vs:Array Value} {i:Nat} {x:Value} (ho:h.get? a = some o) (hd:o.data = .fields vs):∃ o',(h.update a (Obj.mapFields (·.setIfInBounds i x))).get? a = some o'/\o'.cls = o.cls/\o'.data = .fields (vs.setIfInBounds i x):=
  ⟨_,Heap.get?_update_self _ ho (Obj.isFreed_of_fields (Obj.data_mapFields hd _)),Obj.cls_mapFields ..,Obj.data_mapFields hd _⟩
theorem yb6 {α β:Type} {R:α->β->Prop}:∀ {xs:List α} {ys:List β},Paired R xs ys->∀ {i:Nat} {y:β},ys[i]? = some y->∃ x,xs[i]? = some x/\R x y
  | _,_,.nil,i,x,e=>by simp at e
  | _,_,.cons r t,0,x,e=>by simp at e; subst e; exact ⟨_,rfl,r⟩
  | _,_,.cons r t,i + 1,x,e=>by
    obtain ⟨y,h1,h2⟩:=yb6 t (i:=i) (y:=x) (by simpa using e)
    exact ⟨y,by simpa using h1,h2⟩
theorem yp6 {it a tp:Addr} {vs:List Value} {i:Nat} {x:Value} {Q:Option Value->Shared->Prop} (hne:a ≠ it) (hnt:tp ≠ it) (hit:SetIt w s.heap it a tp vs i) (hx:vs[i]? = some x)
    (hQ:∀ h',SetIt w h' it a tp vs (i + 1)->Heap.SameBut it s.heap h'->Q (some x) { s with heap:=h' }):wpAny (model prog w) A (pyNext (.ref it)) Q E s:=by
  have hT:=hit.typeIs
  obtain ⟨o,es,ep,t,first,oi,h1,h2,h3,h4,h5,h6,h7,h8,h9⟩:=hit
  have hi:i < es.size:=by
    rw [<- h5]
    exact (List.getElem?_eq_some_iff.mp hx).1
  unfold pyNext
  refine wpAny_bind (wpAny_attempt (wpAny_callSpecial?_slot (name:=Str.ofString "__next__") hT zd2
    (wpAny_call_entry zd2 hT zk6 ?_ (zm8 _))))
  unfold Builtin.«set_iterator.__next__»
  refine wpAny_bind (wpAny_pure ?_)
  dsimp only
  refine wpAny_bind (wpAny_fieldsOf h6 h8 ?_)
  show wpAny _ _ (setEntries a >>= _) _ _ s
  refine wpAny_bind (wpAny_setEntries_of h1 h2 h3 ?_)
  rw [if_neg (by simp)]
  have sb:∀ (h':Heap) (b:Addr) (o:Obj),Heap.SameBut it s.heap h'->b ≠ it->s.heap.get? b = some o->h'.get? b = some o:=λh' b o z hb e=>(z.2 b hb).trans e
  rcases h9 with ⟨z1,rfl,rfl⟩ | ⟨z1,ps,ot,rfl,z3,z4,z5⟩ | ⟨z1,zd,slot,rfl,z3,rfl⟩
  · show wpAny _ _ (setNext a (0:Int).toNat ((i:Int)).toNat ((ep:Int)).toNat >>= _) _ _ s
    refine wpAny_bind ?_
    unfold setNext
    refine wpAny_bind (wpAny_setState_of h1 h2 h3 ?_)
    dsimp only
    unfold setsByText
    refine wpAny_bind (wpAny_bind (wpAny_askSetting (wpAny_pure ?_)))
    show wpAny _ _ (if w.params.followText "set-order" = true then _ else _) _ _ s
    rw [if_pos z1]
    rw [if_neg (by simp)]
    refine wpAny_bind ?_
    unfold setWalk
    refine wpAny_bind (wpAny_setState_of h1 h2 h3 ?_)
    dsimp only
    unfold setsByText
    refine wpAny_bind (wpAny_bind (wpAny_askSetting (wpAny_pure ?_)))
    show wpAny _ _ (if w.params.followText "set-order" = true then _ else _) _ _ s
    rw [if_pos z1]
    refine wpAny_bind (wpAny_askSetting (wpAny_pure ?_))
    refine wpAny_pure ?_
    have ex:((pickOrder (w.params.setOrder a ep) es)[((i:Int)).toNat]?).map (λe=>(e.2,(0:Int).toNat)) = some (x,0):=by
      rw [List.getElem?_map] at hx
      rw [Int.toNat_natCast,<- Array.getElem?_toList]
      cases e:(pickOrder (w.params.setOrder a ep) es).toList[i]? with
      | none=>rw [e] at hx; cases hx
      | some y=>rw [e] at hx; simp at hx; subst hx; rfl
    show wpAny _ _ (match ((pickOrder (w.params.setOrder a ep) es)[((i:Int)).toNat]?).map (λe=>(e.2,(0:Int).toNat)) with | some (x,next)=>_ | none=>_) _ _ s
    rw [ex]
    dsimp only
    refine wpAny_bind (wpAny_setField h6 h8 (by simp) ?_)
    obtain ⟨o1,g1,c1,d1⟩:=zf1 (i:=0) (x:=rawInt ((0:Nat):Int)) h6 h8
    refine wpAny_bind (wpAny_setField (s:={ s with heap:=_ }) g1 d1 (by simp) ?_)
    obtain ⟨o2,g2,c2,d2⟩:=zf1 (i:=1) (x:=rawInt ((i:Int) + 1)) g1 d1
    have S:=(Heap.SameBut.update s.heap it (Obj.mapFields (·.setIfInBounds 0 (rawInt ((0:Nat):Int))))).trans (Heap.SameBut.update _ it (Obj.mapFields (·.setIfInBounds 1 (rawInt ((i:Int) + 1)))))
    refine wpAny_pure ⟨x,rfl,wpAny_pure (hQ _ ?_ S)⟩
    exact ⟨o,es,ep,t,rawInt 0,o2,sb _ _ _ S hne h1,h2,h3,h4,h5,g2,c2.trans (c1.trans h7),by rw [d2]; simp,.inl ⟨z1,rfl,rfl⟩⟩
  · obtain ⟨p,hp,hv⟩:=yb6 z5 hx
    show wpAny _ _ (seqItems? (.ref tp) >>= _) _ _ s
    refine wpAny_bind (wpAny_seqItems z3 z4 ?_)
    dsimp only
    have ex:(ps.map λ(p:Nat)=>rawInt (p:Int)).toArray[((i:Int)).toNat]? = some (.int (p:Int) 0):=by
      rw [Int.toNat_natCast]
      simp [hp,rawInt]
    show wpAny _ _ (match (ps.map λ(p:Nat)=>rawInt (p:Int)).toArray[((i:Int)).toNat]? with | some (.int place _)=>_ | some _=>_ | none=>_) _ _ s
    rw [ex]
    dsimp only
    refine wpAny_bind ?_
    unfold setNextDrawn
    refine wpAny_bind (wpAny_setState_of h1 h2 h3 ?_)
    dsimp only
    rw [if_neg (by simp)]
    cases e:es[p]? with
    | none=>rw [e] at hv; cases hv
    | some y=>
      rw [e] at hv
      have hv':y.2 = x:=Option.some.inj hv
      subst hv'
      rw [Int.toNat_natCast,e]
      refine wpAny_pure ?_
      refine wpAny_bind (wpAny_setField h6 h8 (by simp) ?_)
      obtain ⟨o2,g2,c2,d2⟩:=zf1 (i:=1) (x:=rawInt ((i:Int) + 1)) h6 h8
      have S:=Heap.SameBut.update s.heap it (Obj.mapFields (·.setIfInBounds 1 (rawInt ((i:Int) + 1))))
      refine wpAny_pure ⟨y.2,rfl,wpAny_pure (hQ _ ?_ S)⟩
      exact ⟨o,es,ep,t,.ref tp,o2,sb _ _ _ S hne h1,h2,h3,h4,h5,g2,c2.trans h7,by rw [d2]; simp,.inr (.inl ⟨z1,ps,ot,rfl,sb _ _ _ S hnt z3,z4,z5⟩)⟩
  · show wpAny _ _ (setNext a ((slot:Int)).toNat ((i:Int)).toNat ((ep:Int)).toNat >>= _) _ _ s
    refine wpAny_bind ?_
    unfold setNext
    refine wpAny_bind (wpAny_setState_of h1 h2 h3 ?_)
    dsimp only
    unfold setsByText
    refine wpAny_bind (wpAny_bind (wpAny_askSetting (wpAny_pure ?_)))
    show wpAny _ _ (if w.params.followText "set-order" = true then _ else _) _ _ s
    rw [if_neg (by rw [z1]; exact Bool.false_ne_true)]
    show wpAny _ _ (if (!t.plain && decide (es.size > 1)) = true then _ else _) _ _ s
    rw [if_neg (by rw [zd]; exact Bool.false_ne_true)]
    have hled:t.led = true:=by rw [h4.led,z1]; rfl
    show wpAny _ _ ((if (!t.led && !es.isEmpty) = true then _ else _) >>= _) _ _ s
    rw [if_neg (by rw [hled]; simp)]
    refine wpAny_bind (wpAny_pure ?_)
    refine wpAny_pure ?_
    have hps:t.place.size = es.size:=by
      simp only [SetTable.fits,Bool.and_eq_true,beq_iff_eq] at h3
      exact h3.1
    have hx':es[i].2 = x:=by
      rw [List.getElem?_map] at hx
      have e:es.toList[i]? = some es[i]:=by rw [Array.getElem?_toList,Array.getElem?_eq_getElem hi]
      rw [e] at hx
      exact Option.some.inj hx
    rw [Int.toNat_natCast,z3,Array.getElem?_eq_getElem hi,Array.getElem?_eq_getElem (by omega:i < t.place.size)]
    dsimp only
    refine wpAny_bind (wpAny_setField h6 h8 (by simp) ?_)
    obtain ⟨o1,g1,c1,d1⟩:=zf1 (i:=0) (x:=rawInt ((t.place[i]'(by omega) + 1:Nat):Int)) h6 h8
    refine wpAny_bind (wpAny_setField (s:={ s with heap:=_ }) g1 d1 (by simp) ?_)
    obtain ⟨o2,g2,c2,d2⟩:=zf1 (i:=1) (x:=rawInt ((i:Int) + 1)) g1 d1
    have S:=(Heap.SameBut.update s.heap it (Obj.mapFields (·.setIfInBounds 0 (rawInt ((t.place[i]'(by omega) + 1:Nat):Int))))).trans (Heap.SameBut.update _ it (Obj.mapFields (·.setIfInBounds 1 (rawInt ((i:Int) + 1)))))
    subst hx'
    refine wpAny_pure ⟨es[i].2,rfl,wpAny_pure (hQ _ ?_ S)⟩
    exact ⟨o,es,ep,t,rawInt ((t.place[i]'(by omega) + 1:Nat):Int),o2,sb _ _ _ S hne h1,h2,h3,h4,h5,g2,c2.trans (c1.trans h7),by rw [d2]; simp,.inr (.inr ⟨z1,zd,_,rfl,yt5 h4.rise (by omega),rfl⟩)⟩
theorem yv3 {it a tp:Addr} {vs:List Value} {Q:Option Value->Shared->Prop} (hh:A.handled = none) (hne:a ≠ it) (hit:SetIt w s.heap it a tp vs vs.length)
    (hQ:∀ h',Heap.ExtBut it s.heap h'->Q none { s with heap:=h' }):wpAny (model prog w) A (pyNext (.ref it)) Q E s:=by
  have hT:=hit.typeIs
  obtain ⟨o,es,ep,t,first,oi,h1,h2,h3,h4,h5,h6,h7,h8,h9⟩:=hit
  have fin:∀ (h':Heap),Heap.ExtBut it s.heap h'->wpAny (model prog w) A.in1 (newExc (.type "StopIteration") [] >>= λe=>raiseNew e) (λ(_:Fin) _=>False) (λe s'=>(∃ oe,s'.heap.get? (match e with | .ref b=>b | _=>0) = some oe/\oe.cls = .type "StopIteration"/\∃ b,e = .ref b)/\∃ h2,s' = { s with heap:=h2 }/\Heap.ExtBut it s.heap h2) { s with heap:=h' }:=by
    intro h' he
    refine wpAny_bind ?_
    simp only [newExc,newTuple]
    refine wpAny_bind (wpAny_newObj_type ?_ (by size_fits))
    refine wpAny_bind (m:=firstArgMember _ _) (wpAny_of_eq (a:=Value.none) (by first | rfl | (simp only [firstArgMember]; rfl)) ?_)
    refine wpAny_newObj_type ?_ (by size_fits)
    simp only [raiseNew]
    refine wpAny_bind (wpAny_handled ?_)
    rw [show A.in1.handled = none from hh]
    refine wpAny_bind (wpAny_pure (wpAny_throw ?_))
    exact ⟨⟨_,Heap.get?_push_size _ rfl,rfl,_,rfl⟩,_,rfl,(he.push _).push _⟩
  have fin2:∀ (e:Value) (s':Shared),((∃ oe,s'.heap.get? (match e with | .ref b=>b | _=>0) = some oe/\oe.cls = .type "StopIteration"/\∃ b,e = .ref b)/\∃ h2,s' = { s with heap:=h2 }/\Heap.ExtBut it s.heap h2) ->
      wpAny (model prog w) A (do if <- isInstance e (.type "StopIteration") then pure none else throw e) Q E s':=by
    rintro e s' ⟨⟨oe,e1,e2,b,rfl⟩,h2,rfl,e3⟩
    refine wpAny_bind (wpAny_isInstance (T:="StopIteration") (b:=true) ⟨_,e1,e2⟩ isSubtype_stop ?_)
    exact wpAny_pure (hQ _ e3)
  unfold pyNext
  refine wpAny_bind (wpAny_attempt (wpAny_mono (wpAny_callSpecial?_slot (Q:=λ_ _=>False) (name:=Str.ofString "__next__") hT zd2
    (wpAny_call_entry zd2 hT zk6 ?_ (zm8 _))) (λ_ _ z=>z.elim) λe s' z=>fin2 e s' z))
  unfold Builtin.«set_iterator.__next__»
  refine wpAny_bind (wpAny_pure ?_)
  dsimp only
  refine wpAny_bind (wpAny_fieldsOf h6 h8 ?_)
  show wpAny _ _ (setEntries a >>= _) _ _ s
  refine wpAny_bind (wpAny_setEntries_of h1 h2 h3 ?_)
  rw [if_neg (by simp)]
  rcases h9 with ⟨z1,rfl,hvs⟩ | ⟨z1,ps,ot,rfl,z3,z4,z5⟩ | ⟨z1,zd,slot,rfl,z3,hvs⟩
  · show wpAny _ _ (setNext a (0:Int).toNat ((vs.length:Int)).toNat ((ep:Int)).toNat >>= _) _ _ s
    refine wpAny_bind ?_
    unfold setNext
    refine wpAny_bind (wpAny_setState_of h1 h2 h3 ?_)
    dsimp only
    unfold setsByText
    refine wpAny_bind (wpAny_bind (wpAny_askSetting (wpAny_pure ?_)))
    show wpAny _ _ (if w.params.followText "set-order" = true then _ else _) _ _ s
    rw [if_pos z1]
    rw [if_neg (by simp)]
    refine wpAny_bind ?_
    unfold setWalk
    refine wpAny_bind (wpAny_setState_of h1 h2 h3 ?_)
    dsimp only
    unfold setsByText
    refine wpAny_bind (wpAny_bind (wpAny_askSetting (wpAny_pure ?_)))
    show wpAny _ _ (if w.params.followText "set-order" = true then _ else _) _ _ s
    rw [if_pos z1]
    refine wpAny_bind (wpAny_askSetting (wpAny_pure ?_))
    refine wpAny_pure ?_
    have ex:((pickOrder (w.params.setOrder a ep) es)[((vs.length:Int)).toNat]?).map (λe=>(e.2,(0:Int).toNat)) = none:=by
      rw [Int.toNat_natCast,Array.getElem?_eq_none]
      · rfl
      · rw [hvs,List.length_map,Array.length_toList]; exact Nat.le_refl _
    show wpAny _ _ (match ((pickOrder (w.params.setOrder a ep) es)[((vs.length:Int)).toNat]?).map (λe=>(e.2,(0:Int).toNat)) with | some (x,next)=>_ | none=>_) _ _ s
    rw [ex]
    dsimp only
    refine wpAny_bind (wpAny_setField h6 h8 (by simp) ?_)
    exact wpAny_mono (fin _ (Heap.SameBut.update ..).extBut) (λ_ _ z=>z.elim) λ_ _ z=>z
  · show wpAny _ _ (seqItems? (.ref tp) >>= _) _ _ s
    refine wpAny_bind (wpAny_seqItems z3 z4 ?_)
    dsimp only
    have ex:(ps.map λ(p:Nat)=>rawInt (p:Int)).toArray[((vs.length:Int)).toNat]? = none:=by
      rw [Int.toNat_natCast,Array.getElem?_eq_none]
      simp [zg2 z5]
    show wpAny _ _ (match (ps.map λ(p:Nat)=>rawInt (p:Int)).toArray[((vs.length:Int)).toNat]? with | some (.int place _)=>_ | some _=>_ | none=>_) _ _ s
    rw [ex]
    dsimp only
    refine wpAny_bind (wpAny_setField h6 h8 (by simp) ?_)
    obtain ⟨o1,g1,c1,d1⟩:=zf1 (i:=0) (x:=rawInt 0) h6 h8
    refine wpAny_bind (wpAny_setField (s:={ s with heap:=_ }) g1 d1 (by simp) ?_)
    exact wpAny_mono (fin _ ((Heap.SameBut.update ..).trans (Heap.SameBut.update ..)).extBut) (λ_ _ z=>z.elim) λ_ _ z=>z
  · show wpAny _ _ (setNext a ((slot:Int)).toNat ((vs.length:Int)).toNat ((ep:Int)).toNat >>= _) _ _ s
    refine wpAny_bind ?_
    unfold setNext
    refine wpAny_bind (wpAny_setState_of h1 h2 h3 ?_)
    dsimp only
    unfold setsByText
    refine wpAny_bind (wpAny_bind (wpAny_askSetting (wpAny_pure ?_)))
    show wpAny _ _ (if w.params.followText "set-order" = true then _ else _) _ _ s
    rw [if_neg (by rw [z1]; exact Bool.false_ne_true)]
    show wpAny _ _ (if (!t.plain && decide (es.size > 1)) = true then _ else _) _ _ s
    rw [if_neg (by rw [zd]; exact Bool.false_ne_true)]
    have hled:t.led = true:=by rw [h4.led,z1]; rfl
    show wpAny _ _ ((if (!t.led && !es.isEmpty) = true then _ else _) >>= _) _ _ s
    rw [if_neg (by rw [hled]; simp)]
    refine wpAny_bind (wpAny_pure ?_)
    refine wpAny_pure ?_
    rw [Int.toNat_natCast,z3,Array.getElem?_eq_none (by omega:es.size<=vs.length)]
    dsimp only
    refine wpAny_bind (wpAny_setField h6 h8 (by simp) ?_)
    exact wpAny_mono (fin _ (Heap.SameBut.update ..).extBut) (λ_ _ z=>z.elim) λ_ _ z=>z
end
section
variable {prog:Program} {w:World} {K:Type} [DecidableEq K] {knd:KeyKind prog w K} {A:Around} {E:Value->Shared->Prop} {s:Shared}
theorem yb5 {α β γ:Type} {R:α->γ->Prop} {f:β->γ}:∀ {xs:List α} {ys:List β},Paired (λa b=>R a (f b)) xs ys->Paired R xs (ys.map f)
  | _,_,.nil=>.nil
  | _,_,.cons r t=>.cons r (yb5 t)
theorem yh5 (es:Array (Int × Value)):Paired (λ(p:Nat) (v:Value)=>(es[p]?).map (·.2) = some v) (List.range es.size) (es.toList.map (·.2)):=by
  have gen:∀ (l:List (Int × Value)) (k:Nat),(∀ j,es[k + j]? = l[j]?)->Paired (λ(p:Nat) (v:Value)=>(es[p]?).map (·.2) = some v) ((List.range l.length).map (k + ·)) (l.map (·.2)):=by
    intro l
    induction l with
    | nil=>intro k _; exact .nil
    | cons a r ih=>
      intro k h
      rw [List.length_cons,List.range_succ_eq_map,List.map_cons,List.map_map,List.map_cons]
      refine .cons ?_ ?_
      · have:=h 0
        simp at this
        show (es[k + 0]?).map (·.2) = _
        rw [Nat.add_zero,this]; rfl
      · have:=ih (k + 1) (λj=>by have:=h (j + 1); simp at this; rw [Nat.add_assoc,Nat.add_comm 1 j]; exact this)
        have e:((λx=>k + x) ∘ Nat.succ) = (λx=>k + 1 + x):=by funext x; show k + (x + 1) = _; omega
        rw [e]
        exact this
  have h:=gen es.toList 0 (λj=>by simp)
  have e1:(List.range es.toList.length).map (0 + ·) = List.range es.size:=by
    have:(λx:Nat=>0 + x) = id:=by funext x; simp
    rw [this,List.map_id,Array.length_toList]
  rw [e1] at h
  exact h
theorem yh6 {α β:Type} {R:α->β->Prop} {l1 l1':List α} (p:l1.Perm l1'):∀ {l2:List β},Paired R l1 l2->∃ l2',l2.Perm l2'/\Paired R l1' l2':=by
  induction p with
  | nil=>intro l1 h; exact ⟨l1,.refl _,h⟩
  | cons x _ ih=>
    intro l1 h
    cases h with
    | cons r t=>obtain ⟨l,p,q⟩:=ih t; exact ⟨_ :: l,p.cons _,.cons r q⟩
  | swap x y l=>
    intro l1 h
    cases h with
    | cons r t=>cases t with | cons r' t'=>exact ⟨_,.swap _ _ _,.cons r' (.cons r t')⟩
  | trans _ _ ih1 ih2=>
    intro l1 h
    obtain ⟨l,p,q⟩:=ih1 h
    obtain ⟨l',p',q'⟩:=ih2 q
    exact ⟨l',p.trans p',q'⟩
theorem yj9 {a:Addr} {ks:List K} {Q:Value->Shared->Prop} (hS:SetW knd s.heap a ks)
    (h:∀ it tp h' d vs,(∀ b o,s.heap.get? b = some o->h'.get? b = some o)->a ≠ it->tp ≠ it->s.heap.objs.size<=it->(tp = a\/s.heap.objs.size<=tp)->SetIt w h' it a tp vs 0->(∃ ks':List K,ks.Perm ks'/\Paired (λ(k:K) (v:Value)=>knd.is k v = true) ks' vs)->Q (.ref it) { s with heap:=h',drawn:=d }) :
    wpAny (model prog w) A (pyIter (.ref a)) Q E s:=by
  have hT:=hS.typeIs
  obtain ⟨o,es,ep,t,ho,hex,hd,hel,hpr,hnd,hb,hf,ht⟩:=hS
  have hpv:=yb5 (f:=λ(e:Int × Value)=>e.2) (R:=λ(k:K) (v:Value)=>knd.is k v = true) hpr
  have halt:a < s.heap.objs.size:=Heap.lt_size ho
  refine wpAny_pyIter_slot hT PySem.F.slot_set_iter (wpAny_call_entry PySem.F.slot_set_iter hT zy1 ?_ (PySem.F.args_set_iter_1 _))
  unfold Builtin.«frozenset.__iter__»
  show wpAny _ _ (Builtin.Frozenset.sizeOf a >>= _) _ _ s
  unfold Builtin.Frozenset.sizeOf
  refine wpAny_bind (wpAny_bind (wpAny_setEntries_of ho hd hf (wpAny_pure ?_)))
  refine wpAny_bind ?_
  refine wpAny_bind (wpAny_setState_of ho hd hf ?_)
  dsimp only
  unfold setsByText
  refine wpAny_bind (wpAny_bind (wpAny_askSetting (wpAny_pure ?_)))
  refine wpAny_pure ?_
  show wpAny _ _ (if (!w.params.followText "set-order" && (!t.plain && decide (es.size > 1))) = true then _ else _) _ _ s
  by_cases hc:(!w.params.followText "set-order" && (!t.plain && decide (es.size > 1))) = true
  · rw [if_pos hc]
    have hbt:w.params.followText "set-order" = false:=by simp at hc; exact hc.1
    refine wpAny_bind (zl0 es.size (List.range es.size) (by simp) λl d p=>?_)
    have hll:l.length = es.size:=by rw [p.length_eq,List.length_range]
    refine wpAny_bind (wpAny_newTuple ?_ (by rw [List.length_map,hll]; exact fits_of_scanBound hb))
    have ho1:=Heap.get?_push_of_some ({ cls:=.type "tuple",data:=.seq (l.map λ(i:Nat)=>rawInt (i:Int)).toArray }:Obj) ho
    refine wpAny_bind ?_
    unfold setEpoch
    refine wpAny_bind (wpAny_setState_of (s:={ s with heap:=_,drawn:=d }) ho1 hd hf (wpAny_pure ?_))
    refine wpAny_bind (wpAny_newObj_type (wpAny_pure ⟨_,rfl,"set_iterator",_,⟨_,Heap.get?_push_size _ rfl,rfl⟩,zd2.lookup,?_⟩))
    obtain ⟨vs,pv,hvs⟩:=yh6 p.symm (yh5 es)
    have hv2:=zk0 pv hpv
    dsimp only
    refine h (s.heap.push { cls:=.type "tuple",data:=.seq (l.map λ(i:Nat)=>rawInt (i:Int)).toArray }).objs.size s.heap.objs.size _ d vs (λb o e=>Heap.get?_push_of_some _ (Heap.get?_push_of_some _ e)) ?_ ?_ ?_ (.inr (Nat.le_refl _)) ?_ hv2
    · rw [Heap.size_push]; exact Nat.ne_of_lt (Nat.lt_succ_of_lt halt)
    · rw [Heap.size_push]; exact Nat.ne_of_lt (Nat.lt_succ_self _)
    · rw [Heap.size_push]; exact Nat.le_succ _
    · exact ⟨o,es,ep,t,.ref s.heap.objs.size,_,Heap.get?_push_of_some _ ho1,hd,hf,ht,by rw [<- zg2 hvs,hll],Heap.get?_push_size _ rfl,rfl,rfl,.inr (.inl ⟨hbt,l,_,rfl,Heap.get?_push_of_some _ (Heap.get?_push_size _ rfl),rfl,hvs⟩)⟩
  · rw [if_neg hc]
    refine wpAny_bind (wpAny_pure ?_)
    refine wpAny_bind ?_
    unfold setEpoch
    refine wpAny_bind (wpAny_setState_of ho hd hf (wpAny_pure ?_))
    refine wpAny_bind (wpAny_newObj_type (wpAny_pure ⟨_,rfl,"set_iterator",_,⟨_,Heap.get?_push_size _ rfl,rfl⟩,zd2.lookup,?_⟩))
    have hit:∀ vs,vs.length = es.size->((w.params.followText "set-order" = true/\(rawInt 0:Value) = rawInt 0/\vs = (pickOrder (w.params.setOrder a ep) es).toList.map (·.2)) \/
       (w.params.followText "set-order" = false/\(!t.plain && decide (es.size > 1)) = false/\∃ slot:Nat,(rawInt 0:Value) = rawInt (slot:Int)/\SetTable.below t.place slot = 0/\vs = es.toList.map (·.2))) ->
       SetIt w (s.heap.push { cls:=.type "set_iterator",data:=.fields [rawInt 0,rawInt 0,.ref a,rawInt (es.size:Int),rawInt (ep:Int)].toArray }) s.heap.objs.size a a vs 0:=λvs hl z=>
      ⟨o,es,ep,t,rawInt 0,_,Heap.get?_push_of_some _ ho,hd,hf,ht,hl,Heap.get?_push_size _ rfl,rfl,rfl,z.elim .inl λz=>.inr (.inr z)⟩
    have e:s = { s with drawn:=s.drawn }:=by cases s; rfl
    have fin:∀ vs,(∃ ks':List K,ks.Perm ks'/\Paired (λ(k:K) (v:Value)=>knd.is k v = true) ks' vs)->SetIt w (s.heap.push { cls:=.type "set_iterator",data:=.fields [rawInt 0,rawInt 0,.ref a,rawInt (es.size:Int),rawInt (ep:Int)].toArray }) s.heap.objs.size a a vs 0 ->
        Q (.ref s.heap.objs.size) { s with heap:=s.heap.push { cls:=.type "set_iterator",data:=.fields [rawInt 0,rawInt 0,.ref a,rawInt (es.size:Int),rawInt (ep:Int)].toArray } }:=λvs hv z=>
      h s.heap.objs.size a _ s.drawn vs (λb o e=>Heap.get?_push_of_some _ e) (Nat.ne_of_lt halt) (Nat.ne_of_lt halt) (Nat.le_refl _) (.inl rfl) z hv
    by_cases hbt:w.params.followText "set-order" = true
    · have pp:=(yh2 (w.params.setOrder a ep) es).map (λ(e:Int × Value)=>e.2)
      exact fin _ (zk0 pp.symm hpv) (hit _ (by rw [List.length_map,(yh2 _ es).length_eq,Array.length_toList]) (.inl ⟨hbt,rfl,rfl⟩))
    · have hbt':w.params.followText "set-order" = false:=by simpa using hbt
      have hdr:(!t.plain && decide (es.size > 1)) = false:=by
        rw [hbt'] at hc
        simpa using hc
      exact fin _ ⟨ks,.refl _,hpv⟩ (hit _ (by rw [List.length_map,Array.length_toList]) (.inr ⟨hbt',hdr,0,rfl,yt4 ht.rise,rfl⟩))
theorem yu0 (hh:A.handled = none) {it a tp:Addr} (hne:a ≠ it) (hnt:tp ≠ it) (vs:List Value):Walks prog w A it [it,a,tp] [it] vs.length (λi v=>vs[i]? = some v) (λi h=>SetIt w h it a tp vs i) where
  sub:=λb hb=>by simp at hb; simp [hb]
  frame:=λ_ _ _ st hk=>st.frame λb hb o e=>hk b (by simp; exact hb) o e
  item:=λi s Q E hi st hQ=>by
    refine yp6 hne hnt st (List.getElem?_eq_getElem hi) λh' st' sb=>?_
    exact hQ _ h' s.toks (List.getElem?_eq_getElem hi) st' λb o hb e=>sb.extBut b o (λh=>hb (by simp [h])) e
  done:=λs Q E st hQ=>yv3 hh hne st λh' he'=>hQ h' s.toks λb o hb e=>he' b o (λh=>hb (by simp [h])) e
  self:=λi s Q E st hQ=>by
    have hT:=SetIt.typeIs (s:=s) st
    refine wpAny_pyIter_slot hT zl4 (wpAny_call_entry zl4 hT zt7 ?_ (zy9 _))
    show wpAny _ _ (ret (.ref it)) _ _ s
    exact wpAny_pure ⟨_,rfl,"set_iterator",_,hT,zd2.lookup,hQ⟩
theorem xg0 {r:Addr} {Q:Bool->Shared->Prop} (hT:s.TypeIs (.ref r) "set") (h:Q false s):wpAny (model prog w) A (Builtin.List.listLengthHint (.ref r)) Q E s:=by
  unfold Builtin.List.listLengthHint
  refine wpAny_bind (wpAny_specialOf hT PySem.F.slot_set_len.lookup ?_)
  generalize hid:("set.__len__" : String) = id0
  wp_delta
  rw [show splitId id0 = some ("set","__len__") from by subst hid; decide +kernel]
  subst hid
  refine wpAny_bind (wpAny_isInstance (T:="set") (b:=true) hT (by rw [isSubtype_type]; kernel_rfl) ?_)
  refine wpAny_ite_split (λhab=>absurd hab (by decide)) (λ_=>?_)
  refine wpAny_ite_split (λ_=>?_) (λhab=>absurd (by decide +kernel) hab)
  refine wpAny_bind (wpAny_typeOf hT ?_)
  exact wpAny_pure h
theorem yi8 {a:Addr} {ks:List K} {R:List Value->Shared->Prop} (hh:A.handled = none) (hS:SetW knd s.heap a ks) (hn:ks.length<=sizeLine)
    (h:∀ (h':Heap) tk d vs,(∀ b o,s.heap.get? b = some o->h'.get? b = some o)->s.heap.objs.size<=h'.objs.size->(∃ ks':List K,ks.Perm ks'/\Paired (λ(k:K) (v:Value)=>knd.is k v = true) ks' vs)->R vs { s with heap:=h',toks:=tk,drawn:=d }) :
    wpAny (model prog w) A (collect (.ref a)) R E s:=by
  obtain ⟨ol,_,_,_,hol,_⟩:=id hS
  have hlt:a < s.heap.objs.size:=Heap.lt_size hol
  unfold collect
  refine wpAny_bind (wpAny_runValue (codeAny_builtin entry_proto_collect' ?_))
  rw [Around.under_plainId PySem.F.plain_proto_collect _]
  show wpAny _ A.in1 (newList [] >>= λl=>again (.builtin "list.__iadd__" ⟨[l,.ref a],[]⟩)) _ _ s
  refine wpAny_bind (wpAny_newObj_type ?_)
  refine wpAny_pure ⟨plainId_quiet PySem.F.plain_list_iadd _,codeAny_builtin entry_list_iadd' ?_⟩
  rw [Around.under_plainId PySem.F.plain_list_iadd _]
  generalize hH1:s.heap.push { cls:=.type "list",data:=.seq ([]:List Value).toArray } = H1
  have hS₁:H1.get? s.heap.objs.size = some { cls:=.type "list",data:=.seq #[] }:=hH1 ▸ Heap.get?_push_size _ rfl
  have k1:∀ b o,s.heap.get? b = some o->H1.get? b = some o:=λb o e=>hH1 ▸ Heap.get?_push_of_some _ e
  have hsz:H1.objs.size = s.heap.objs.size + 1:=by rw [<- hH1,Heap.size_push]
  have hS1:SetW knd H1 a ks:=hS.at' λo e=>k1 _ _ e
  show wpAny _ A.in1 (Builtin.List.listExtendWith (.ref s.heap.objs.size) (.ref a) (.ref s.heap.objs.size)) _ _ { s with heap:=H1 }
  have haS:a ≠ s.heap.objs.size:=Nat.ne_of_lt hlt
  have hltS:∀ b o,s.heap.get? b = some o->b ≠ s.heap.objs.size:=λb o e=>Nat.ne_of_lt (Heap.lt_size e)
  have hlti:∀ b o (it:Addr),s.heap.get? b = some o->H1.objs.size<=it->b ≠ it:=λb o it e hi=>Nat.ne_of_lt (Nat.lt_of_lt_of_le (Heap.lt_size (k1 b o e)) hi)
  have hSi:∀ it:Addr,H1.objs.size<=it->s.heap.objs.size ≠ it:=λit hi=>Nat.ne_of_lt (Nat.lt_of_lt_of_le (Heap.lt_size hS₁) hi)
  generalize hSS:s.heap.objs.size = S at *
  unfold Builtin.List.listExtendWith
  refine wpAny_bind (wpAny_typeOf (T:="set") (SetW.typeIs (s:={ s with heap:=H1 }) hS1) ?_)
  have h1:Builtin.List.listSameRef (.ref S) (.ref a) = false:=by simp [Builtin.List.listSameRef,haS.symm]
  have h2:(Value.type "set" == Value.type "list") = false:=by decide
  have h3:(Value.type "set" == Value.type "tuple") = false:=by decide
  simp only [h1,h2,h3,Bool.or_false,Bool.false_eq_true,if_false]
  refine wpAny_bind (yj9 (knd:=knd) (s:={ s with heap:=H1 }) hS1 λit tp h' d vs k2 n1 n2 n3 n4 st hv=>?_)
  have hSit:S ≠ it:=hSi it n3
  have hStp:S ≠ tp:=by
    rcases n4 with rfl | n4
    · exact haS.symm
    · exact hSi tp n4
  have hSf:S ∉ [it,a,tp]:=by simp only [List.mem_cons,List.not_mem_nil,or_false,not_or]; exact ⟨hSit,haS.symm,hStp⟩
  have W:=yu0 (prog:=prog) (w:=w) (A:=A.in1) (by simp [hh]) n1 n2 vs
  have hvl:vs.length = ks.length:=by
    obtain ⟨ks',p,q⟩:=hv
    rw [<- zg2 q,p.length_eq]
  have key:∀ (h:Heap) (c₁ tk:Nat),SetIt w h it a tp vs 0->(∀ b o,b ≠ S->s.heap.get? b = some o->h.get? b = some o) ->
      h.get? S = some { cls:=.type "list",data:=.seq #[] c₁ }->codeAny (model prog w) A (.builtin "list.extend.loop" ⟨[.ref S,.ref it,.ref S],[]⟩)
        (λ(q:Result) (s':Shared)=>∃ (h':Heap) (tk:Nat) (acc':Array Value) (c':Nat),q = .ok (.ret (.ref S))/\s' = { s with heap:=h',toks:=tk,drawn:=d } /\
      (∀ b o,b ≠ S->b ≠ it->s.heap.get? b = some o->h'.get? b = some o)/\h'.get? S = some { cls:=.type "list",dict:=none,data:=.seq acc' c',slots:=#[] }/\acc'.toList = vs) { s with heap:=h,toks:=tk,drawn:=d }:=by
    intro h c₁ tk hst hk hS₁
    refine codeAny_extend_loopS W.toS (by rw [hvl]; exact hn) S hSf (.ref S) vs.length 0 _ #[] c₁ rfl (Nat.zero_le _) hst hS₁ (ItemsOf.nil _) λs' acc' c' hm hS' hacc=>?_
    rw [Moved.eq_with hm]
    refine ⟨s'.heap,s'.toks,acc',c',rfl,rfl,λb o hb hbi e=>hm.heap b o (λhmem=>?_) (hk b o hb e),hS',?_⟩
    · rcases List.mem_cons.mp hmem with e' | hmem
      · exact hb e'
      · exact hbi (List.mem_singleton.mp hmem)
    · apply List.ext_getElem
      · rw [Array.length_toList,hacc.1]
      · intro j j1 j2
        have:vs[j]? = some acc'.toList[j]:=hacc.2 j acc'.toList[j] (by rw [<- Array.getElem?_toList,List.getElem?_eq_getElem j1])
        rw [List.getElem?_eq_getElem j2] at this
        exact (Option.some.inj this).symm
  have fin:∀ (q:Result) (s':Shared),(∃ (h':Heap) (tk:Nat) (acc':Array Value) (c':Nat),q = .ok (.ret (.ref S))/\s' = { s with heap:=h',toks:=tk,drawn:=d } /\
      (∀ b o,b ≠ S->b ≠ it->s.heap.get? b = some o->h'.get? b = some o)/\h'.get? S = some { cls:=.type "list",dict:=none,data:=.seq acc' c',slots:=#[] }/\acc'.toList = vs) ->
      q = .ok (.ret (.ref S))/\wpAny (model prog w) A (load S >>= λo=>(match o.data with | .seq xs _=>pure xs.toList | _=>unsupported "internal:collect")) R E s':=by
    rintro q s' ⟨h',tk,acc',c',rfl,rfl,hk,hS',rfl⟩
    refine ⟨rfl,?_⟩
    refine wpAny_bind (wpAny_load hS' ?_)
    refine wpAny_pure (h h' tk d _ (λb o e=>hk b o ?_ ?_ e) (Nat.le_of_lt (Heap.lt_size hS')) hv)
    · exact hltS b o e
    · exact hlti b o it e n3
  have S2:=k2 _ _ hS₁
  refine wpAny_bind (wpAny_holding (xg0 (s:={ s with heap:=h',drawn:=d }) (SetW.typeIs (knd:=knd) (s:={ s with heap:=h',drawn:=d }) (hS1.at' λo e=>k2 _ _ e)) ?_))
  refine wpAny_ite_split (λ_=>?_) (λ_=>wpAny_pure ⟨plainId_quiet PySem.F.plain_extend_loop _,codeAny_mono (key _ 0 s.toks st (λb o _ e=>k2 _ _ (k1 _ _ e)) S2) λq s' y=>?_⟩)
  · refine wpAny_bind (wpAny_rule ?_)
    refine wpAny_bind ?_
    show wpAny _ _ (updateSeq S (·.push .none) >>= λ_=>updateSeq S (·.pop)) _ _ _
    refine wpAny_bind (wpAny_updateSeq S2 rfl ?_)
    have S3:=Heap.get?_update_self (Obj.mapSeq (·.push Value.none)) S2 rfl
    refine wpAny_updateSeq (hz:=by seq_fits) S3 rfl ?_
    have S4:=Heap.get?_update_self (Obj.mapSeq (·.pop)) S3 rfl
    refine wpAny_pure ⟨plainId_quiet PySem.F.plain_extend_loop _,codeAny_mono (key _ _ s.toks ?_ (λb o hb e=>?_) S4) λq s' y=>?_⟩
    · refine st.frame λb hb o e=>?_
      have hbS:b ≠ S:=by rcases hb with rfl | rfl | rfl; exact hSit.symm; exact haS; exact hStp.symm
      exact (Heap.get?_update_other _ _ (Ne.symm hbS)).trans ((Heap.get?_update_other _ _ (Ne.symm hbS)).trans e)
    · exact (Heap.get?_update_other _ _ (Ne.symm hb)).trans ((Heap.get?_update_other _ _ (Ne.symm hb)).trans (k2 _ _ (k1 _ _ e)))
    · obtain ⟨rfl,z⟩:=fin q s' y
      exact z
  · obtain ⟨rfl,z⟩:=fin q s' y
    exact z
end
section
variable {prog:Program} {w:World} {K:Type} [DecidableEq K] {knd:PySem.KeyKind prog w K} {A:Around} {E:Value->Shared->Prop} {s:Shared}
theorem zv7 {a:Addr} {ks:List K} {Q:Value->Shared->Prop} (hh:A.handled = none) (hS:SetW knd s.heap a ks) (hn:ks.length<=sizeLine)
    (h:∀ (h':Heap) (tk:Nat) (d:Drawn) (vs:List Value),(∀ b o,s.heap.get? b = some o->h'.get? b = some o)->s.heap.objs.size<=h'.objs.size->(∃ ks':List K,ks.Perm ks'/\Paired (λ(k:K) (v:Value)=>knd.is k v = true) ks' vs) ->
      wpAny (model prog w) A.in1.in1 (Builtin.«list.sort» ⟨[.ref h'.objs.size],[]⟩) (λr s'=>r = .done (.ret .none)/\Q (.ref h'.objs.size) s') E { s with heap:=h'.push (seqObj "list" vs.toArray 0),toks:=tk,drawn:=d }) :
    wpAny (model prog w) A (call (.builtin "sorted") [.ref a]) Q E s:=by
  refine Calls.call_function_entry kind_sorted plain_sorted entry_sorted (args_sorted1 _) ?_
  unfold Builtin.«sorted»
  refine wpAny_bind (m:=checkCount "sorted" 1 1 _) (wpAny_pure ?_)
  refine wpAny_bind (yi8 (knd:=knd) (A:=A.in1) (by simp [hh]) hS hn λh' tk d vs k hle hv=>?_)
  have hvl:vs.length<=sizeLine:=by
    obtain ⟨ks',p,q⟩:=hv
    rw [<- zg2 q,<- p.length_eq]; exact hn
  refine wpAny_bind (wpAny_newList ?_ hvl)
  show wpAny _ _ _ _ _ { s with heap:=h'.push (seqObj "list" vs.toArray 0),toks:=tk,drawn:=d }
  have hoL:(h'.push (seqObj "list" vs.toArray 0)).get? h'.objs.size = some (seqObj "list" vs.toArray 0):=Heap.get?_push_size _ rfl
  refine wpAny_bind (wpAny_holding (wpAny_call_entry slot_list_sort ⟨_,hoL,rfl⟩ entry_list_sort (wpAny_mono (h h' tk d vs k hle hv) (λr s' z=>?_) λ_ _ z=>z) (args_list_sort _)))
  obtain ⟨rfl,z⟩:=z
  exact ⟨_,rfl,wpAny_pure ⟨_,rfl,z⟩⟩
end
def SetO (P:Program) (w:World) (a:Addr) (ks:List Key):HO:=.ext λh=>SetW (zd5 P w) h a ks
section
variable {X:Cx}
theorem xj5 {P:Program} {w:World} {H:Hp} {h:Heap} {a:Addr} {ks:List Key} (x:SetW (zd5 P w) h a ks):zd7 P w H h a (SetO P w a ks):=by
  refine ⟨x,?_,λh1 h2 y k=>y.at' λo e=>k o e⟩
  obtain ⟨o,_,_,_,ho,_⟩:=x
  exact ⟨o,ho⟩
theorem xs8 {P:Program} {w:World} {k:Key} {v:Value} (r:RelV (kV k) v):(zd5 P w).is k v = true/\v.scannable = true:=by
  cases k with
  | inl i=>obtain ⟨t,rfl⟩:=(show ∃ t,v = Value.int i t from r); exact ⟨yi1 i t,rfl⟩
  | inr x=>obtain ⟨t,rfl⟩:=(show ∃ t,v = Value.str x t from r); exact ⟨yi0 x t,rfl⟩
theorem zk3 (hc:X.calm = true):zn0 X (.type "set") (λxs H Q=>∃ (p:Addr) (kys:List Key),xs = [.ref p]/\SqL X.K H p (kys.map kV)/\kys.length<=4000 /\
    ∀ (l:Addr) (ks:List Key),H l = none->ks.Nodup->(∀ k,k ∈ ks ↔ k ∈ kys)->Q (.ref l) (upd H l (SetO X.prog X.w l ks))):=by
  intro pins s σ H xs us Q I r h
  obtain ⟨p,kys,rfl,hq,hl,q⟩:=h
  obtain ⟨u,rfl,rx⟩:=zt6 r
  cases rx
  obtain ⟨its,r',pl,hz⟩:=I.list hq
  have hlen:=r'.length
  rw [List.length_map] at hlen
  have hh:X.A.handled = none:=I.ok.hd hc
  refine yf5 (knd:=zd5 X.prog X.w) (val:=λi=>kys.getD i (.inl 0)) hh pl.isList (λi v e=>?_) (by simp only [List.size_toArray]; unfold scanBound; omega) λh' tk ks hS hD hk=>?_
  · have e':its[i]? = some v:=by simpa using e
    have hi:i < kys.length:=by
      have:=(List.getElem?_eq_some_iff.mp e').1
      omega
    obtain ⟨u,hu,ru⟩:=r'.get (i:=i) (x:=kV kys[i]) (by rw [List.getElem?_map,List.getElem?_eq_getElem hi]; rfl)
    rw [e'] at hu
    cases hu
    have e2:kys.getD i (.inl 0) = kys[i]:=by rw [List.getD_eq_getElem?_getD,List.getElem?_eq_getElem hi]; rfl
    rw [e2]
    exact xs8 ru
  · have hf:H s.heap.objs.size = none:=I.hok.fresh (Nat.le_refl _)
    have hnd:ks.Nodup:=by obtain ⟨_,_,_,_,_,_,_,_,_,z,_⟩:=hS; exact z
    refine ⟨.ref s.heap.objs.size,_,I.laid (t':=tk) (o:=SetO X.prog X.w s.heap.objs.size ks) (λb ob z=>hk b ob (Heap.lt_size z) z) (Nat.le_refl _) (xj5 hS),rfl,q _ ks hf hnd λk=>?_⟩
    rw [hD.1]
    simp only [List.size_toArray]
    constructor
    · rintro ⟨j,hj,rfl⟩
      have hj':j < kys.length:=by omega
      rw [List.getD_eq_getElem?_getD,List.getElem?_eq_getElem hj']
      exact List.getElem_mem hj'
    · intro hm
      obtain ⟨j,hj,e⟩:=List.mem_iff_getElem.mp hm
      exact ⟨j,by omega,by rw [List.getD_eq_getElem?_getD,List.getElem?_eq_getElem hj,<- e]; rfl⟩
theorem Inv.laidD {pins:List (Addr × Obj)} {σ:St} {H:Hp} {s:Shared} {h':Heap} {a:Addr} {o:HO} {tk:Nat} {d:Drawn} (I:Inv X pins σ H s) (k:∀ b u,s.heap.get? b = some u->h'.get? b = some u) (hp:s.heap.objs.size<=a)
    (new:zd7 X.prog X.w (upd H a o) h' a o):Inv X pins σ (upd H a o) { s with heap:=h',toks:=tk,drawn:=d }:=by
  refine I.call' (s':={ s with heap:=h',toks:=tk,drawn:=d }) (ch:=[]) rfl (Un.mono (Un.laid k hp (I.hok.fresh hp)) (λ_ z=>z) (λ_ z=>z)) (I.hok.laid k hp new) I.bare (λb hb=>nomatch hb)
theorem zz7 {pins:List (Addr × Obj)} {σ:St} {H:Hp} {s:Shared} {Q:VK} {h':Heap} {tk:Nat} {d:Drawn} {vs:List Value} {out:Array Value} {ys:List V} (I:Inv X pins σ H s) (k:∀ b u,s.heap.get? b = some u->h'.get? b = some u)
    (hle:s.heap.objs.size<=h'.objs.size) (hv:Vals ys out.toList) (hz:ys.length<=sizeLine) (q:∀ l:Addr,H l = none->Q (.ref l) (upd H l (.lst ys))) :
    EP X pins σ Q (.ref h'.objs.size) { s with heap:=sortedHeap (h'.push (seqObj "list" vs.toArray 0)) h'.objs.size vs out,toks:=tk,drawn:=d }:=by
  obtain ⟨e,he⟩:=sortedHeap_at (h:=h'.push (seqObj "list" vs.toArray 0)) (a:=h'.objs.size) (vs:=vs) (n:=0) (out:=out) (Heap.get?_push_size _ rfl)
  refine ⟨.ref h'.objs.size,_,I.laidD (o:=.lst ys) (λb u z=>?_) hle ⟨hz,out.toList,e,hv,by simpa using he⟩,rfl,q _ (I.hok.fresh hle)⟩
  have z':=k b u z
  rw [sortedHeap_old (Nat.ne_of_lt (Heap.lt_size z')) (by rw [Heap.size_push]; exact Nat.lt_succ_of_lt (Heap.lt_size z'))]
  exact Heap.get?_push_of_some _ z'
theorem xj1 {ks:List Str}:∀ {vs:List Value},Paired (λ(k:Key) (v:Value)=>(zd5 X.prog X.w).is k v = true) (ks.map Sum.inr) vs->StrsAre vs ks:=by
  induction ks with
  | nil=>intro vs h; cases h; exact .nil
  | cons a r ih=>
    intro vs h
    cases h with
    | cons q t=>
      rw [yb8] at q
      rcases zd4 q with ⟨i,t',e,_⟩ | ⟨x,t',e,e'⟩
      · cases e
      · cases e; subst e'; exact .cons _ _ (ih t)
theorem xn5 {ks:List Int}:∀ {vs:List Value},Paired (λ(k:Key) (v:Value)=>(zd5 X.prog X.w).is k v = true) (ks.map Sum.inl) vs->IntsAre vs ks:=by
  induction ks with
  | nil=>intro vs h; cases h; exact .nil
  | cons a r ih=>
    intro vs h
    cases h with
    | cons q t=>
      rw [yb8] at q
      rcases zd4 q with ⟨i,t',e,e'⟩ | ⟨x,t',e,_⟩
      · cases e; subst e'; exact .cons _ _ (ih t)
      · cases e
theorem zv2:∀ {vs:List Value} {ss:List Str},StrsAre vs ss->Vals (ss.map V.str) vs
  | _,_,.nil=>.nil
  | _,_,.cons _ t h=>.cons ⟨t,rfl⟩ (zv2 h)
theorem zt4 {α β:Type} {f:α->β}:∀ {l:List α} {l':List β},(l.map f).Perm l'->∃ m:List α,l' = m.map f/\l.Perm m:=by
  intro l l' p
  generalize e:l.map f = k at p
  induction p generalizing l with
  | nil=>exact ⟨[],rfl,by cases l with | nil=>exact .refl _ | cons _ _=>cases e⟩
  | cons x p ih=>
    cases l with
    | nil=>cases e
    | cons a r=>
      obtain ⟨e1,e2⟩:=List.cons.inj e
      obtain ⟨m,h1,h2⟩:=ih e2
      exact ⟨a :: m,by rw [h1,<- e1]; rfl,h2.cons a⟩
  | swap x y q=>
    cases l with
    | nil=>cases e
    | cons a r=>
      cases r with
      | nil=>cases (List.cons.inj e).2
      | cons b r=>
        obtain ⟨e1,e2⟩:=List.cons.inj e
        obtain ⟨e3,e4⟩:=List.cons.inj e2
        exact ⟨b :: a :: r,by rw [<- e1,<- e3,<- e4]; rfl,.swap _ _ _⟩
  | trans _ _ ih1 ih2=>
    obtain ⟨m,h1,h2⟩:=ih1 e
    obtain ⟨m',h3,h4⟩:=ih2 h1.symm
    exact ⟨m',h3,h2.trans h4⟩
theorem zk7 (hc:X.calm = true):zn0 X (.builtin "sorted") (λxs H Q=>∃ (p:Addr) (ks:List Str),xs = [.ref p]/\H p = some (SetO X.prog X.w p (ks.map Sum.inr))/\ks.length < 64 /\
    ∀ (l:Addr) (ks':List Str),H l = none->ks'.Perm ks->sortedS ks' = true->Q (.ref l) (upd H l (.lst (ks'.map V.str)))):=by
  intro pins s σ H xs us Q I r h
  obtain ⟨p,ks,rfl,hp,hl,q⟩:=h
  obtain ⟨u,rfl,rx⟩:=zt6 r
  cases rx
  have hS:SetW (zd5 X.prog X.w) s.heap p (ks.map Sum.inr):=(I.hok p _ hp).1
  refine zv7 (knd:=zd5 X.prog X.w) (I.ok.hd hc) hS (by rw [List.length_map]; exact Nat.le_of_lt (zb5 (by omega))) λh' tk d vs k hle hv=>?_
  obtain ⟨ks',pk,hpv⟩:=hv
  obtain ⟨ks2,rfl,pk2⟩:=zt4 pk
  have hst:=xj1 (X:=X) hpv
  have hvl:vs.length = ks.length:=by rw [<- zg2 hpv,List.length_map,pk2.length_eq]
  refine list_sort_treeK strKind_oneLt (n:=0) (Heap.get?_push_size _ rfl) hst.keysOf (λv₁ v₂ rest e=>keyKind_strs (by rw [<- e]; exact hst)) (by omega) λst' a1 a2=>?_
  obtain ⟨ss',b1,b2,b3⟩:=sorted_out_str hst a1 a2
  refine ⟨rfl,zz7 (s:=s) (tk:=tk) (d:=d) I k hle (zv2 b1) ?_ λl hl'=>q l ss' hl' (b2.trans pk2.symm) b3⟩
  rw [List.length_map,b2.length_eq,<- pk2.length_eq]
  exact Nat.le_of_lt (zb5 (by omega))
theorem zk8 (hc:X.calm = true):zn0 X (.builtin "sorted") (λxs H Q=>∃ (p:Addr) (ks:List Int),xs = [.ref p]/\H p = some (SetO X.prog X.w p (ks.map Sum.inl))/\ks.length < 64 /\
    ∀ (l:Addr) (ks':List Int),H l = none->ks'.Perm ks->ks'.Pairwise (·<=·)->Q (.ref l) (upd H l (.lst (ks'.map V.int)))):=by
  intro pins s σ H xs us Q I r h
  obtain ⟨p,ks,rfl,hp,hl,q⟩:=h
  obtain ⟨u,rfl,rx⟩:=zt6 r
  cases rx
  have hS:SetW (zd5 X.prog X.w) s.heap p (ks.map Sum.inl):=(I.hok p _ hp).1
  refine zv7 (knd:=zd5 X.prog X.w) (I.ok.hd hc) hS (by rw [List.length_map]; exact Nat.le_of_lt (zb5 (by omega))) λh' tk d vs k hle hv=>?_
  obtain ⟨ks',pk,hpv⟩:=hv
  obtain ⟨ks2,rfl,pk2⟩:=zt4 pk
  have hst:=xn5 (X:=X) hpv
  have hvl:vs.length = ks.length:=by rw [<- zg2 hpv,List.length_map,pk2.length_eq]
  refine list_sort_tree (n:=0) (Heap.get?_push_size _ rfl) hst (by omega) λout ns' b1 b2 b3=>?_
  refine ⟨rfl,zz7 (s:=s) (tk:=tk) (d:=d) I k hle (zv3 b1) ?_ λl hl'=>q l ns' hl' (b2.trans pk2.symm) b3⟩
  rw [List.length_map,b2.length_eq,<- pk2.length_eq]
  exact Nat.le_of_lt (zb5 (by omega))
end
section
variable {X:Cx}
theorem ye5 {K:PySem.W.Frag} {a D:Addr} {xs:List V} {g:TG} {tt:TT} {te:TE} {Q:VK} {σ0:St} {H1:Hp} (Pv:Nat->St->Hp->Prop) (h0:Pv 0 σ0 (upd H1 D (.lst []))) (hl:∀ i σ H,i<=xs.length->Pv i σ H->SqL K H a xs)
    (hs:∀ i x σ H,xs[i]? = some x->Pv i σ H->g x σ H λσ3 H3=>tt σ3 H3 λb H4=>if b = true then te σ3 H4 λy H5=>∃ zs,H5 D = some (.lst zs)/\zs.length < sizeLine/\Pv (i + 1) σ3 (upd H5 D (.lst (zs ++ [y]))) else Pv (i + 1) σ3 H4) (hd:∀ σ H,Pv xs.length σ H->Q (.ref D) H) :
    ∃ W:Nat->Nat->St->Hp->Prop,(∃ m,W 0 m σ0 (upd H1 D (.lst [])))/\∀ i m σ' H',W i m σ' H' ->
      ((Itl K a).stop i H'/\Q (.ref D) H')\/((Itl K a).go i H'/\∃ N:St->Hp->Prop,(∀ σ2 H2,N σ2 H2->∃ m',m' < m/\W (i + 1) m' σ2 H2) /\
        ∀ x H2,(Itl K a).yld i H' x H2->g x σ' H2 λσ3 H3=>tt σ3 H3 λb H4=>if b = true then te σ3 H4 λy H5=>∃ zs,H5 D = some (.lst zs)/\zs.length < sizeLine/\N σ3 (upd H5 D (.lst (zs ++ [y]))) else N σ3 H4):=by
  refine ⟨λi m σ H=>m = xs.length - i/\i<=xs.length/\Pv i σ H,⟨xs.length,rfl,Nat.zero_le _,h0⟩,?_⟩
  rintro i m σ H ⟨rfl,hi,p⟩
  have q:=hl i σ H hi p
  rcases Nat.lt_or_ge i xs.length with hlt | hge
  · refine .inr ⟨⟨xs,xs[i],q,List.getElem?_eq_getElem hlt⟩,Pv (i + 1),λσ' H' p'=>⟨xs.length - (i + 1),by omega,rfl,hlt,p'⟩,λx H' y=>?_⟩
    obtain ⟨e,y⟩:=y
    subst e
    exact hs i x σ _ (y xs q) p
  · have e:i = xs.length:=Nat.le_antisymm hi hge
    subst e
    exact .inl ⟨⟨xs,q,Nat.le_refl _⟩,hd σ H p⟩
theorem xn1 {K:PySem.W.Frag} {a D:Addr} {xs:List V} {g:TG} {tt:TT} {te:TE} {Q:VK} {σ0:St} {H1:Hp} (Pv:Nat->St->Hp->Prop) (h0:Pv 0 σ0 (upd H1 D (.lst []))) (hl:∀ i σ H,i<=xs.length->Pv i σ H->SqT K H a xs)
    (hs:∀ i x σ H,xs[i]? = some x->Pv i σ H->g x σ H λσ3 H3=>tt σ3 H3 λb H4=>if b = true then te σ3 H4 λy H5=>∃ zs,H5 D = some (.lst zs)/\zs.length < sizeLine/\Pv (i + 1) σ3 (upd H5 D (.lst (zs ++ [y]))) else Pv (i + 1) σ3 H4) (hd:∀ σ H,Pv xs.length σ H->Q (.ref D) H) :
    ∃ W:Nat->Nat->St->Hp->Prop,(∃ m,W 0 m σ0 (upd H1 D (.lst [])))/\∀ i m σ' H',W i m σ' H' ->
      ((Itt K a).stop i H'/\Q (.ref D) H')\/((Itt K a).go i H'/\∃ N:St->Hp->Prop,(∀ σ2 H2,N σ2 H2->∃ m',m' < m/\W (i + 1) m' σ2 H2) /\
        ∀ x H2,(Itt K a).yld i H' x H2->g x σ' H2 λσ3 H3=>tt σ3 H3 λb H4=>if b = true then te σ3 H4 λy H5=>∃ zs,H5 D = some (.lst zs)/\zs.length < sizeLine/\N σ3 (upd H5 D (.lst (zs ++ [y]))) else N σ3 H4):=by
  refine ⟨λi m σ H=>m = xs.length - i/\i<=xs.length/\Pv i σ H,⟨xs.length,rfl,Nat.zero_le _,h0⟩,?_⟩
  rintro i m σ H ⟨rfl,hi,p⟩
  have q:=hl i σ H hi p
  rcases Nat.lt_or_ge i xs.length with hlt | hge
  · refine .inr ⟨⟨xs,xs[i],q,List.getElem?_eq_getElem hlt⟩,Pv (i + 1),λσ' H' p'=>⟨xs.length - (i + 1),by omega,rfl,hlt,p'⟩,λx H' y=>?_⟩
    obtain ⟨e,y⟩:=y
    subst e
    exact hs i x σ _ (y xs q) p
  · have e:i = xs.length:=Nat.le_antisymm hi hge
    subst e
    exact .inl ⟨⟨xs,q,Nat.le_refl _⟩,hd σ H p⟩
theorem yy9 {lo:Int} {n:Nat} {D:Addr} {g:TG} {tt:TT} {te:TE} {Q:VK} {σ0:St} {H1:Hp} (Pv:Nat->St->Hp->Prop) (h0:Pv 0 σ0 (upd H1 D (.lst [])))
    (hs:∀ i σ H,i < n->Pv i σ H->g (.int (lo + i)) σ H λσ3 H3=>tt σ3 H3 λb H4=>if b = true then te σ3 H4 λy H5=>∃ zs,H5 D = some (.lst zs)/\zs.length < sizeLine/\Pv (i + 1) σ3 (upd H5 D (.lst (zs ++ [y]))) else Pv (i + 1) σ3 H4) (hd:∀ σ H,Pv n σ H->Q (.ref D) H) :
    ∃ W:Nat->Nat->St->Hp->Prop,(∃ m,W 0 m σ0 (upd H1 D (.lst [])))/\∀ i m σ' H',W i m σ' H' ->
      ((Itr lo n).stop i H'/\Q (.ref D) H')\/((Itr lo n).go i H'/\∃ N:St->Hp->Prop,(∀ σ2 H2,N σ2 H2->∃ m',m' < m/\W (i + 1) m' σ2 H2) /\
        ∀ x H2,(Itr lo n).yld i H' x H2->g x σ' H2 λσ3 H3=>tt σ3 H3 λb H4=>if b = true then te σ3 H4 λy H5=>∃ zs,H5 D = some (.lst zs)/\zs.length < sizeLine/\N σ3 (upd H5 D (.lst (zs ++ [y]))) else N σ3 H4):=by
  refine ⟨λi m σ H=>m = n - i/\i<=n/\Pv i σ H,⟨n,rfl,Nat.zero_le _,h0⟩,?_⟩
  rintro i m σ H ⟨rfl,hi,p⟩
  rcases Nat.lt_or_ge i n with hlt | hge
  · refine .inr ⟨hlt,Pv (i + 1),λσ' H' p'=>⟨n - (i + 1),by omega,rfl,hlt,p'⟩,λx H' y=>?_⟩
    obtain ⟨rfl,rfl⟩:=y
    exact hs i σ _ hlt p
  · have e:i = n:=Nat.le_antisymm hi hge
    subst e
    exact .inl ⟨Nat.le_refl _,hd σ H p⟩
def yu5 (dom:Addr->Prop) (m:Str) (sp:Addr->Sp) (E:XK) (ta:TE) (t:TA):TE:=λσ H Q=>ta σ H λx H1=>∃ a C dx fs,x = .ref a/\H1 a = some (.ins C dx fs)/\dom C/\fs.lookup m = none/\t σ H1 λvs H2=>sp C (x :: vs) H2 Q E
def Fam (P:Program) (w:World) (K:W.Frag) (mg:Str->Option Value) (base:Heap) (CX:CXT) (k:Nat) (dom:Addr->Prop) (m:Str) (ps:List Str) (sp:Addr->Sp):Prop:=
  ∀ C,dom C->∃ f fd,Cls K C/\Meth K C m f/\FnOk P w K mg base CX k f fd ps (sp C)/\zi3 K fd ps []
theorem zu5 {pl:Sem Bool} {CX:CXT} {k:Nat} {ps:List Str} {dom:Addr->Prop} {sp:Addr->Sp} {E:XK} {m:Str} {pos apos:Pos} {e o:Expr} {es:List Expr} {ta:TE} {t:TA} (he:PE X o ta) (F:Fam X.prog X.w X.K X.mg X.base CX k dom m ps sp) (hr:Room k X.A) (hx:zp8 CX X E) (ha:PA X (e :: es) t)
    (hst:starEach (e :: es) X.env = (false,eval e X.env) :: starEach es X.env:=by rfl) (hpl:(backTo pos (starEach es X.env)).any (·.1) = false:=by rfl)
    (ht:eval (.Call (.Attribute o m apos) (e :: es) [] pos) X.env = (do
      let ov <- eval o X.env
      standAt apos.atName
      let (f,first) <- holding [ov] (getMethod ov m pl)
      callWith pos f first (backTo pos (starEach (e :: es) X.env)) (backToKw pos (keywordEach [] X.env))):=by rfl) :
    PE X (.Call (.Attribute o m apos) (e :: es) [] pos) (yu5 dom m sp E ta t):=by
  intro pins s σ H Q I h
  refine W.methodCall_KW (pl:=pl) (thn (he pins s σ H _ I h) λu s1 ⟨x,H1,I1,rx,a,C,dx,fs,ex,ea,hd,l,q⟩=>?_) ht
  subst ex
  obtain rfl:u = Value.ref a:=rx
  obtain ⟨f,fd,c,hm,G,hb⟩:=F C hd
  refine yc3 I1 ea c hm l ?_
  refine W.callWith_K (first:=[.ref a]) (h₀:=X.base) I.ok.mod.kin hm.kp (thn (ha pos pins s1 σ H1 _ I1 q) λus s2 ⟨vs,H2,I2,r,q2⟩=>⟨I2.kIn,?_⟩) hst hpl
  exact ym8 (us:=.ref a :: us) (vs:=.ref a :: vs) G hr hb .nil hx I2 (.cons rfl r) (by rw [List.append_nil]; exact q2)
theorem za8 {pl:Sem Bool} {CX:CXT} {k:Nat} {ps:List Str} {dom:Addr->Prop} {sp:Addr->Sp} {E:XK} {m:Str} {pos apos:Pos} {o:Expr} {ta:TE} (he:PE X o ta) (F:Fam X.prog X.w X.K X.mg X.base CX k dom m ps sp) (hr:Room k X.A) (hx:zp8 CX X E)
    (ht:eval (.Call (.Attribute o m apos) [] [] pos) X.env = (do
      let ov <- eval o X.env
      standAt apos.atName
      let (f,first) <- holding [ov] (getMethod ov m pl)
      callWith pos f first (backTo pos (starEach [] X.env)) (backToKw pos (keywordEach [] X.env))):=by rfl) :
    PE X (.Call (.Attribute o m apos) [] [] pos) (yu5 dom m sp E ta tNil):=by
  intro pins s σ H Q I h
  refine W.methodCall_KW (pl:=pl) (thn (he pins s σ H _ I h) λu s1 ⟨x,H1,I1,rx,a,C,dx,fs,ex,ea,hd,l,q⟩=>?_) ht
  subst ex
  obtain rfl:u = Value.ref a:=rx
  obtain ⟨f,fd,c,hm,G,hb⟩:=F C hd
  refine yc3 I1 ea c hm l ?_
  exact W.callWith_K0 (first:=[.ref a]) I1.kIn hm.kp (ym8 (us:=[.ref a]) (vs:=[.ref a]) G hr hb .nil hx I1 (.cons rfl .nil) q)
structure ClsFn (K:W.Frag) (C:Addr) (mc:Value) (m:Str) (f:Addr):Prop where
  ga:W.specialIn K (.ref C) "__getattribute__" = some (some (.builtin "type.__getattribute__"))
  rd:W.readsIn K C mc = true
  at_:W.findCls K (.ref C) mc m = some (.val (.ref f))
  kp:W.keepIn K (.ref f) = true
theorem zp0 {pl:Sem Bool} {CX:CXT} {k:Nat} {f C:Addr} {fd:FuncData} {mc:Value} {ps:List Str} {sp:Sp} {E:XK} {x m:Str} {p pos apos:Pos} {e:Expr} {es:List Expr} {t:TA} (c:ClsFn X.K C mc m f) (G:FnOk X.prog X.w X.K X.mg X.base CX k f fd ps sp) (hr:Room k X.A) (hg:Gl X x) (hm:X.mg x = some (.ref C))
    (hb:zi3 X.K fd ps []) (hx:zp8 CX X E) (ha:PA X (e :: es) t) (hdb:(x == ("__debug__" : Str)) = false:=by decide)
    (hst:starEach (e :: es) X.env = (false,eval e X.env) :: starEach es X.env:=by rfl) (hpl:(backTo pos (starEach es X.env)).any (·.1) = false:=by rfl)
    (ht:eval (.Call (.Attribute (.Name x p) m apos) (e :: es) [] pos) X.env = (do
      let ov <- eval (.Name x p) X.env
      standAt apos.atName
      let (f,first) <- holding [ov] (getMethod ov m pl)
      callWith pos f first (backTo pos (starEach (e :: es) X.env)) (backToKw pos (keywordEach [] X.env))):=by rfl) :
    PE X (.Call (.Attribute (.Name x p) m apos) (e :: es) [] pos) (yg3 sp [] E t):=by
  intro pins s σ H Q I h
  refine W.methodCall_KW (pl:=pl) (zk2 I hg hm ?_ hdb) ht
  refine W.method_cls I.kIn c.ga (W.cls_value I.kIn c.rd c.at_ rfl ?_)
  have I1:=I.tok (s.toks + 1)
  refine W.callWith_K (first:=[]) (h₀:=X.base) I.ok.mod.kin c.kp (thn (ha pos pins _ σ H _ I1 h) λus s2 ⟨vs,H2,I2,r,q2⟩=>⟨I2.kIn,?_⟩) hst hpl
  exact ym8 (us:=us) (vs:=vs) G hr hb .nil hx I2 r q2
theorem yf7:zn0 X (.builtin "isinstance") (λxs H Q=>∃ (x cv:V) (c t:Value) (b:Bool),xs = [x,cv]/\(∀ u,RelV cv u->u = c)/\TyOf X.K H x t/\W.kitOne X.K t c = some b/\Q (.bl b) H):=by
  intro pins s σ H xs us Q I r h
  obtain ⟨x,cv,c,t,b,rfl,hc,ty,e,q⟩:=h
  obtain ⟨u,w',rfl,r1,r2⟩:=xc0 r
  have:=hc _ r2
  subst this
  exact yz5 I r1 ty e λtk=>⟨.bl b,H,I.tok tk,rfl,q⟩
theorem yz2 (K:W.Frag) (n:String):W.kitOne K (.type n) (.type n) = some true:=by
  unfold W.kitOne
  rw [if_pos (by simp)]
section
open AutoSeq1 (wpAny_loadPart')
open MeetsSeq MeetsSeq2 MeetsSeq3 AutoSeq1
theorem zx5 (l:Addr) (items:Array Value) (n:Nat) (b:Addr) (items2:Array Value) (n2:Nat) (d2:Option Addr) (s2:Array (Option Value)) (hs0:¬(!items.isEmpty && Builtin.List.listTooLong (items.size + items2.size)) = true) (hs1:items.size<=sizeLine) (hs2:items.size + items2.size<=sizeLine + 1) :
    Meets (Builtin.«list.extend» ⟨[.ref l,.ref b],[]⟩) (λ_ R s=>s.heap.get? l = some { cls:=.type "list",dict:=none,data:=.seq items n,slots:=#[] }/\s.heap.get? b = some { cls:=.type "tuple",dict:=d2,data:=.seq items2 n2,slots:=s2 }/\R (.ok (.ret Value.none)) { s with heap:=s.heap.update l (Obj.mapSeq λx=>x ++ items2),toks:=s.toks }):=
  .of_wp λprog w A R s h=>by
    obtain ⟨hp,g,d,tk,os⟩:=s; obtain ⟨hl,hb,h⟩:=h; have f1:=idx_int; have f2:=AutoSeq1.sub_tuple_tuple; have f3:=AutoSeq1.sub_list_list; have f4:=AutoSeq1.sub_tuple_list; have f5:=AutoSeq1.sub_list_tuple;
    have hz':(items ++ items2).size<=sizeLine + 1:=by rw [Array.size_append]; exact hs2
    wp_walk using (wpAny_updateSeq hl rfl (hz:=hs1) (_hz':=hz')),wpAny_loadPart' hl,wpAny_loadPart' hb; exact ⟨_,rfl,h⟩
end
theorem zj7:MtM X "list.extend" (λx vs H Q=>∃ l b xs zs,x = .ref l/\vs = [.ref b]/\H l = some (.lst xs)/\SqT X.K H b zs/\xs.length + zs.length<=sizeLine/\Q .non (upd H l (.lst (xs ++ zs)))):=by
  intro pins s σ H x vs v us Q I rx rv h
  obtain ⟨l,b,xs,zs,rfl,rfl,hH,hB,hz,q⟩:=h
  cases rx
  obtain ⟨u,rfl,ru⟩:=rv.one
  cases ru
  obtain ⟨z,its,n,r,hl,e⟩:=I.lstM hH
  obtain ⟨its2,r2,p2,z2⟩:=I.tuple hB
  have hl2:=r2.length
  obtain ⟨⟨c2,d2,t2,o2⟩,e2,f2,n2,m2⟩:=id p2
  simp only at f2 m2
  subst f2 m2
  have hsz:its.toArray.size + its2.toArray.size<=sizeLine:=by rw [List.size_toArray,List.size_toArray]; omega
  have hlong:¬ (!its.toArray.isEmpty && Builtin.List.listTooLong (its.toArray.size + its2.toArray.size)) = true:=by
    rw [yn6 hsz,Bool.and_false]
    exact Bool.false_ne_true
  refine call_meets PySem.F.slot_list_extend ⟨_,e,rfl⟩ PySem.F.entry_list_extend (PySem.F.args_list_extend_2 _ _)
    (zx5 l its.toArray n b its2.toArray n2 d2 o2 hlong (by rw [List.size_toArray]; omega) (by omega)) ⟨e,e2,?_⟩
  refine ⟨.non,_,I.lset (its':=its ++ its2) hH e (by simp) (r.append r2) ?_,rfl,q⟩
  rw [List.length_append]
  omega
theorem zw6 (ns:List Int):∀ n:Nat,n<=ns.length->preSum (λi=>ns.getD i 0) n = (ns.take n).sum
  | 0,_=>rfl
  | n + 1,h=>by
    show preSum (λi=>ns.getD i 0) n + ns.getD n 0 = _
    have hn:n < ns.length:=h
    rw [zw6 ns n (by omega),List.take_add_one,List.getElem?_eq_getElem hn,List.sum_append,List.getD_eq_getElem?_getD,List.getElem?_eq_getElem hn]
    simp
theorem zp7 (hc:X.calm = true):zn0 X (.builtin "sum") (λxs H Q=>∃ (p:Addr) (ns:List Int),xs = [.ref p]/\SqL X.K H p (ns.map V.int)/\Q (.int ns.sum) H):=by
  intro pins s σ H xs us Q I r h
  obtain ⟨p,ns,rfl,hq,q⟩:=h
  obtain ⟨u,rfl,rx⟩:=zt6 r
  cases rx
  obtain ⟨its,r',pl,hz⟩:=I.list hq
  have hlen:=r'.length
  rw [List.length_map] at hlen
  have hi:=ys4 r'
  obtain ⟨op,hop,_⟩:=id pl.isList
  have hlt:p < s.heap.objs.size:=Heap.lt_size hop
  have hh:X.A.in1.handled = none:=by simp [I.ok.hd hc]
  refine call_sum_walkAnyS (wpAny_pyIter_list pl.isList ⟨s.heap.objs.size,_,_,_,its.toArray.size,_,_,λi=>ns.getD i 0,rfl,(Walks.list hh _ p (Nat.ne_of_lt hlt) its.toArray).toS,⟨⟨_,Heap.get?_push_size _ rfl,rfl,rfl⟩,pl.isList.push _⟩,λb hb=>?_,λi v e=>?_,λs' t' hm=>?_⟩)
  · show b < (s.heap.push _).objs.size
    rw [Heap.size_push]
    rcases List.mem_cons.mp hb with e | hb
    · rw [e]; exact Nat.lt_succ_self _
    · rw [List.mem_singleton.mp hb]; exact Nat.lt_succ_of_lt hlt
  · exact PyProof.Rows.IntsAre.int_at hi i v (by simpa using e)
  · have hk:∀ b o,s.heap.get? b = some o->s'.heap.get? b = some o:=λb o e=>
      hm.heap b o (λhI=>absurd (Heap.lt_size e) (by rw [List.mem_singleton.mp hI]; exact Nat.lt_irrefl _)) (Heap.get?_push_of_some _ e)
    have e1:preSum (λi=>ns.getD i 0) its.toArray.size = ns.sum:=by
      rw [List.size_toArray,<- hlen,zw6 ns ns.length (Nat.le_refl _),List.take_length]
    rw [e1]
    rw [Moved.eq_with hm]
    exact ⟨.int ns.sum,H,I.kept (t':=s'.toks) hk,⟨_,rfl⟩,q⟩
end
section
variable {prog:Program} {w:World} {A:Around} {R:Result->Shared->Prop} {I:Addr} {fp wr:List Addr} {n:Nat} {P:Nat->Value->Prop} {St:Nat->Heap->Prop} {kw:List (Str × Value)}
end
section
variable {X:Cx}
def rIsi (K:W.Frag):List V->Hp->VK->Prop:=λxs H Q=>∃ (x cv:V) (c t:Value) (b:Bool),xs = [x,cv]/\(∀ u,RelV cv u->u = c)/\TyOf K H x t/\W.kitOne K t c = some b/\Q (.bl b) H
theorem yi9 {K:W.Frag} (hK:X.K = K):zn0 X (.builtin "isinstance") (rIsi K):=by
  subst hK; exact yf7
theorem zr9 {K:W.Frag} {e:Expr} {ta:TE} {f:Str} {pos:Pos} (hK:X.K = K) (he:PE X e ta) (hb:attributeBase e f X.env (eval e X.env) = eval e X.env):PE X (.Attribute e f pos) (tFld K ta f):=by
  subst hK; exact zd8 he hb
theorem xn3 {K:W.Frag} (hK:X.K = K):IxR X (rIxT K):=by
  subst hK; exact xi4
end
end L2
set_option maxHeartbeats 4000000
namespace L2
open PySem PySem.Spec PyProof.Rows
def DK (h h':Heap):Prop:=h.objs.size<=h'.objs.size/\∀ b o',b < h.objs.size->h'.get? b = some o'->∃ o,h.get? b = some o/\o'.dict = o.dict
theorem DK.refl (h:Heap):DK h h:=⟨Nat.le_refl _,λb o' _ e=>⟨o',e,rfl⟩⟩
theorem DK.trans {h1 h2 h3:Heap} (a:DK h1 h2) (b:DK h2 h3):DK h1 h3:=⟨Nat.le_trans a.1 b.1,λx o' hx e=>by
  obtain ⟨o2,e2,d2⟩:=b.2 x o' (Nat.lt_of_lt_of_le hx a.1) e
  obtain ⟨o1,e1,d1⟩:=a.2 x o2 hx e2
  exact ⟨o1,e1,d2.trans d1⟩⟩
theorem DK.push (h:Heap) (o:Obj):DK h (h.push o):=⟨by rw [Heap.size_push]; exact Nat.le_succ _,λb o' hb e=>by
  rcases Heap.get?_push_cases e with ⟨rfl,_⟩ | e
  · exact absurd hb (Nat.lt_irrefl _)
  · exact ⟨o',e,rfl⟩⟩
theorem DK.update (h:Heap) (a:Addr) (f:Obj->Obj) (hf:∀ o:Obj,(f o).dict = o.dict) (hs:(h.get? a).isSome):DK h (h.update a f):=⟨by rw [Heap.size_update]; exact Nat.le_refl _,λb o' hb e=>by
  by_cases hab:a = b
  · subst hab
    obtain ⟨o,ho⟩:=Option.isSome_iff_exists.mp hs
    refine ⟨o,ho,?_⟩
    obtain ⟨e1,e2⟩:=Heap.get?_some_iff.mp e
    obtain ⟨e3,_⟩:=Heap.get?_some_iff.mp ho
    have e4:(h.update a f).objs[a]? = some (f o):=by
      cases h
      simp only [Heap.update,Array.getElem?_modify,if_true]
      simp only at e3
      rw [e3]; rfl
    rw [e4] at e1
    cases e1
    exact hf o
  · rw [Heap.get?_update_other h f hab] at e
    exact ⟨o',e,rfl⟩⟩
def KD {α:Type}:Sem α->Prop
  | .pure _=>True
  | .raise _=>True
  | .unsupported _=>True
  | .finish _=>True
  | .rule _ k=>KD (k ())
  | .at _ k=>KD (k ())
  | .load _ _ k=>∀ o,KD (k o)
  | .update _ _ f k=>(∀ o:Obj,(f o).dict = o.dict)/\KD (k ())
  | .loadIfAlive _ k=>∀ o,KD (k o)
  | .point _ k=>KD (k ())
  | .register _ _=>True
  | .alloc _ k=>∀ a,KD (k a)
  | .fresh k=>∀ t,KD (k t)
  | .ask k=>∀ t,KD (k t)
  | .choose _ _ k=>∀ n,KD (k n)
  | .os _ _ k=>∀ r,KD (k r)
  | .call ..=>False
  | .handled _ k=>∀ v,KD (k v)
  | .genState _ k=>∀ v,KD (k v)
  | .newGen _ k=>∀ v,KD (k v)
  | .resume ..=>False
  | .yield ..=>True
  | .stack k=>∀ v,KD (k v)
  | .fork ..=>True
  | .thread k=>∀ v,KD (k v)
  | .await ..=>True
theorem KD.bind {α β:Type} {m:Sem α} {f:α->Sem β} (hm:KD m) (hf:∀ a,KD (f a)):KD (m >>= f):=by
  show KD (m.bind f)
  induction m with
  | pure a=>exact hf a
  | update a p g k ih=>exact ⟨hm.1,ih () hm.2⟩
  | call c h g l k ih=>exact hm.elim
  | resume g r l k ih=>exact hm.elim
  | raise e=>trivial
  | unsupported e=>trivial
  | finish e=>trivial
  | register a k ih=>trivial
  | yield v g l k ih=>trivial
  | fork c k ih=>trivial
  | await a g d l k ih=>trivial
  | rule t k ih=>exact ih () hm
  | «at» t k ih=>exact ih () hm
  | point t k ih=>exact ih () hm
  | load a p k ih=>exact λo=>ih o (hm o)
  | loadIfAlive a k ih=>exact λo=>ih o (hm o)
  | alloc a k ih=>exact λo=>ih o (hm o)
  | fresh k ih=>exact λo=>ih o (hm o)
  | ask k ih=>exact λo=>ih o (hm o)
  | choose s n k ih=>exact λo=>ih o (hm o)
  | os q l k ih=>exact λo=>ih o (hm o)
  | handled q k ih=>exact λo=>ih o (hm o)
  | genState q k ih=>exact λo=>ih o (hm o)
  | newGen q k ih=>exact λo=>ih o (hm o)
  | stack k ih=>exact λo=>ih o (hm o)
  | thread k ih=>exact λo=>ih o (hm o)
theorem xv9 {α:Type} (M:Model) (Γ:PySem.Ctx):∀ (t:Sem α),KD t->∀ (Q:α->Pos->Shared->Prop) (E:Value->Pos->Shared->Prop) (p:Pos) (s:Shared),Sem.wp M Γ t Q E p s ->
    Sem.wp M Γ t (λa p' s'=>Q a p' s'/\DK s.heap s'.heap) (λe p' s'=>E e p' s'/\DK s.heap s'.heap) p s:=by
  intro t
  have up:∀ {t:Sem α} {Q:α->Pos->Shared->Prop} {E:Value->Pos->Shared->Prop} {p:Pos} {s s1:Shared},DK s.heap s1.heap->Sem.wp M Γ t (λa p' s'=>Q a p' s'/\DK s1.heap s'.heap) (λe p' s'=>E e p' s'/\DK s1.heap s'.heap) p s1 ->
      Sem.wp M Γ t (λa p' s'=>Q a p' s'/\DK s.heap s'.heap) (λe p' s'=>E e p' s'/\DK s.heap s'.heap) p s1:=λ{t Q E p s s1} d h=>
    Sem.wp_mono M Γ t (λ_ _ _ z=>⟨z.1,d.trans z.2⟩) (λ_ _ _ z=>⟨z.1,d.trans z.2⟩) p s1 h
  induction t with
  | pure a=>intro _ Q E p s h; rw [Sem.wp] at h ⊢; exact ⟨h,DK.refl _⟩
  | raise a=>intro _ Q E p s h; rw [Sem.wp] at h ⊢; exact ⟨h,DK.refl _⟩
  | unsupported e=>intro _ Q E p s h; rw [Sem.wp] at h; exact h.elim
  | finish e=>intro _ Q E p s h; rw [Sem.wp] at h; exact h.elim
  | register a k ih=>intro _ Q E p s h; rw [Sem.wp] at h; exact h.elim
  | yield v g l k ih=>intro _ Q E p s h; rw [Sem.wp] at h; exact h.elim
  | fork c k ih=>intro _ Q E p s h; rw [Sem.wp] at h; exact h.elim
  | await a g d l k ih=>intro _ Q E p s h; rw [Sem.wp] at h; exact h.elim
  | call c h g l k ih=>intro hk; exact hk.elim
  | resume g r l k ih=>intro hk; exact hk.elim
  | rule t k ih=>intro hk Q E p s h; rw [Sem.wp] at h ⊢; exact ih () hk Q E p s h
  | «at» t k ih=>intro hk Q E p s h; rw [Sem.wp] at h ⊢; exact ih () hk Q E t s h
  | point t k ih=>intro hk Q E p s h; rw [Sem.wp] at h ⊢; exact ih () hk Q E p s h
  | load a q k ih=>intro hk Q E p s h; rw [Sem.wp] at h ⊢; obtain ⟨o,e,h⟩:=h; exact ⟨o,e,ih o (hk o) Q E p s h⟩
  | update a q f k ih=>intro hk Q E p s h; rw [Sem.wp] at h ⊢; obtain ⟨e,h⟩:=h; exact ⟨e,up (DK.update s.heap a f hk.1 e) (ih () hk.2 Q E p _ h)⟩
  | loadIfAlive a k ih=>intro hk Q E p s h; rw [Sem.wp] at h ⊢; exact ih _ (hk _) Q E p s h
  | alloc o k ih=>intro hk Q E p s h; rw [Sem.wp] at h ⊢; exact up (DK.push s.heap o) (ih _ (hk _) Q E p _ h)
  | fresh k ih=>intro hk Q E p s h; rw [Sem.wp] at h ⊢; exact ih _ (hk _) Q E p _ h
  | ask k ih=>intro hk Q E p s h; rw [Sem.wp] at h ⊢; exact ih _ (hk _) Q E p s h
  | choose src n k ih=>intro hk Q E p s h; rw [Sem.wp] at h ⊢; exact ⟨h.1,ih _ (hk _) Q E p _ h.2⟩
  | os q l k ih=>intro hk Q E p s h; rw [Sem.wp] at h ⊢; exact ih _ (hk _) Q E p _ h
  | handled q k ih=>intro hk Q E p s h; rw [Sem.wp] at h ⊢; exact ih _ (hk _) Q E p s h
  | genState g k ih=>intro hk Q E p s h; rw [Sem.wp] at h ⊢; obtain ⟨st,e,h⟩:=h; exact ⟨st,e,ih _ (hk _) Q E p s h⟩
  | newGen c k ih=>intro hk Q E p s h; rw [Sem.wp] at h ⊢; exact ih _ (hk _) Q E p _ h
  | stack k ih=>intro hk Q E p s h; rw [Sem.wp] at h ⊢; exact ih _ (hk _) Q E p s h
  | thread k ih=>intro hk Q E p s h; rw [Sem.wp] at h ⊢; exact ih _ (hk _) Q E p s h
theorem zn4 {α:Type} {M:Model} {A:Around} {t:Sem α} {Q:α->Shared->Prop} {E:Value->Shared->Prop} {s:Shared} (hk:KD t) (h:wpAny M A t Q E s):wpAny M A t (λa s'=>Q a s'/\DK s.heap s'.heap) (λe s'=>E e s'/\DK s.heap s'.heap) s:=
  λΓ p hΓ=>xv9 M Γ t hk _ _ p s (h Γ p hΓ)
theorem KD.pure {α:Type} (a:α):KD (pure a:Sem α):=trivial
theorem xn2 (f:Array Value->Array Value) (o:Obj):(Obj.mapFields f o).dict = o.dict:=by
  obtain ⟨c,d,da,sl⟩:=o
  unfold Obj.mapFields
  cases da <;> rfl
theorem KD.uns {α:Type} (w:String):KD (unsupported w:Sem α):=trivial
theorem KD.load (a:Addr):KD (PySem.load a):=λ_=>trivial
theorem yl3 (v:Value):KD (fieldsOf v):=by
  unfold fieldsOf
  cases v with
  | ref a=>
    refine KD.bind (KD.load a) λo=>?_
    split
    · exact KD.pure _
    · exact KD.uns _
  | _=>exact KD.uns _
theorem zu8 (v:Value) (i:Nat):KD (field v i):=by
  unfold field
  refine KD.bind (yl3 v) λvs=>?_
  split
  · exact KD.pure _
  · exact KD.uns _
theorem zo1 (v:Value) (i:Nat) (x:Value):KD (setField v i x):=by
  unfold setField
  cases v with
  | ref a=>
    show KD (updateField a i x)
    unfold updateField
    refine KD.bind (KD.load a) λo=>?_
    split
    · split
      · exact ⟨xn2 _,trivial⟩
      · exact KD.uns _
    · exact KD.uns _
  | _=>exact KD.uns _
theorem zm5 (e:Value) (f:Option Addr):KD (setFlight e f):=by
  unfold setFlight
  refine KD.bind (zu8 e 1) λtb=>?_
  split
  · exact zo1 _ _ _
  · exact KD.pure _
theorem ye7:KD PySem.stack:=λ_=>trivial
theorem yz4 (env:Env) (outer:List Env):KD (behindIsImport env outer):=by
  unfold behindIsImport
  split
  · exact KD.pure _
  · split
    · exact KD.pure _
    · exact KD.bind (zu8 _ _) λ_=>KD.pure _
theorem yl2 (env:Env) (b:Bool) (l:List Env):KD (keptBack env b l):=by
  unfold keptBack
  split
  · split
    · exact KD.pure _
    · refine KD.bind ?_ λ_=>?_
      · unfold underTheClaimsCaller
        exact KD.bind ye7 λ_=>KD.pure _
      · exact KD.pure _
  · exact KD.pure _
theorem yo2:∀ l:List Env,KD (readyFrames l)
  | []=>KD.pure _
  | env :: outer=>by
    unfold readyFrames
    split
    · refine KD.bind (KD.load _) λo=>?_
      split
      · exact KD.pure _
      · refine KD.bind (yz4 _ _) λ_=>KD.bind (yl2 _ _ _) λ_=>KD.bind ?_ λ_=>yo2 outer
        exact ⟨λ_=>rfl,trivial⟩
    · exact KD.uns _
theorem ys1 (env:Env):KD (PySem.frameOf env):=by
  unfold PySem.frameOf
  refine KD.bind ?_ λl=>KD.bind ?_ λf=>?_
  · unfold frameEnvs
    exact KD.bind ye7 λ_=>KD.pure _
  · unfold frameObject
    split
    · exact KD.pure _
    · exact KD.bind (yo2 _) λ_=>KD.pure _
  · split
    · exact KD.pure _
    · exact KD.uns _
theorem xf8 (f:Addr) (b:Bool):KD (entryPlaceOf f b):=by
  unfold entryPlaceOf
  refine KD.bind ye7 λ_=>?_
  split
  · exact KD.pure _
  · exact KD.pure _
theorem yi2 (ty:String) (vs:List Value):KD (newFields ty vs):=by
  unfold newFields newObj
  dsimp only
  split
  · exact KD.uns _
  · unfold newObjAsIs
    exact KD.bind (m:=alloc _) (λ_=>trivial) λ_=>KD.pure _
theorem yz3 (e:Value) (env:Env):KD (noteFrame e env):=by
  unfold noteFrame
  split
  · refine KD.bind (zu8 _ _) λhead=>?_
    have rest:∀ f:Addr,KD (do setField e 1 (<- EntryCells.newEntry head (<- PySem.frameOf env) .none (rawInt f) .none (<- entryPlaceOf f (head != .none)))):=λf=>
      KD.bind (ys1 env) λ_=>KD.bind (xf8 _ _) λ_=>KD.bind (yi2 _ _) λ_=>zo1 _ _ _
    split
    · refine KD.bind (zu8 _ _) λx=>?_
      split
      · exact KD.pure _
      · exact KD.bind (zo1 _ _ _) λ_=>rest _
    · exact rest _
  · exact KD.uns _
theorem zs3 (env:Env) (e:Value):KD (leaving env e):=KD.bind (yz3 e env) λ_=>zm5 e none
section
variable {P:Program} {w:World}
theorem zd7.have {H:Hp} {h:Heap} {a:Addr} {o:HO} (x:zd7 P w H h a o):∃ ob,h.get? a = some ob:=by
  cases o with
  | lst xs=>obtain ⟨_,_,_,_,e⟩:=x; exact ⟨_,e⟩
  | tup xs=>obtain ⟨_,_,_,ob,e,_⟩:=x; exact ⟨ob,e⟩
  | dK kvs=>obtain ⟨_,_,_,_,ob,_,_,e,_⟩:=x; exact ⟨ob,e⟩
  | dT kvs=>obtain ⟨_,_,_,_,ob,_,_,e,_⟩:=x; exact ⟨ob,e⟩
  | set S n=>obtain ⟨ob,_,_,_,e,_⟩:=x; exact ⟨ob,e⟩
  | ins C dx fs=>obtain ⟨_,_,_,e,_⟩:=x; exact ⟨_,e⟩
  | own y=>exact x
  | xd fs=>obtain ⟨_,⟨ob,_,_,e,_⟩,_⟩:=x; exact ⟨ob,e⟩
  | rng lo hi=>obtain ⟨_,_,_,e⟩:=x; exact ⟨_,e⟩
  | frz ob u=>obtain ⟨e,_⟩:=x; exact ⟨ob,e⟩
  | tbl ps=>exact ⟨_,(show h.get? a = some _ from x)⟩
  | met f y=>exact ⟨_,(show h.get? a = some _ from x)⟩
  | ext φ=>obtain ⟨_,e,_⟩:=x; exact e
def FlyB (B:Heap) (l:List Env) (H':Hp) (h h1:Heap):Prop:=∀ b o,h1.get? b = some o->(H' b ≠ none\/((∃ o₀,h.get? b = some o₀)/\b ∉ frs l))->B.get? b = some o
theorem yg8 {B:Heap} {l:List Env} {H H':Hp} {h h1 h2:Heap} (un:Un (frs l) [] H H' h h1) (ok:HOk P w H' h1) (fb:FlyB B l H' h h1) (fr:h1.FunFrames B l) (st:B.StaysIn h2) (us:h1.UpToSlots h2) :
    Un (frs l) [] H H' h h2/\HOk P w H' h2/\FlyB B l H' h h2:=by
  have nx:∀ b:Addr,b ∉ ([]:List Addr):=λb z=>by cases z
  have on:∀ b o,h1.get? b = some o->(H' b ≠ none\/((∃ o₀,h.get? b = some o₀)/\b ∉ frs l))->h2.get? b = some o:=λb o e c=>st b o (fb b o e c)
  have slots:∀ b o,b ∈ frs l->h1.get? b = some o->∃ sl,h2.get? b = some { o with slots:=sl }:=λb o hb e=>by
    obtain ⟨_,o',e',d⟩:=fr.mem hb
    rw [e] at e'; cases e'
    exact us b o e d
  have was:∀ b,(H' b ≠ none\/((∃ o₀,h.get? b = some o₀)/\b ∉ frs l))->∃ o,h1.get? b = some o:=λb c=>by
    rcases c with c | ⟨⟨o₀,c⟩,_⟩
    · cases e:H' b with
      | none=>exact absurd e c
      | some u=>exact (ok b u e).have
    · exact un.there b o₀ c (nx b)
  refine ⟨⟨λb o q n hb _=>on b o (un.keep b o q n hb (nx b)) (.inr ⟨⟨o,q⟩,hb⟩),λb o q n hb _=>?_,λb o q n hx=>un.free b o q n hx,λb o q _=>?_,un.tups,un.frzs,un.tbls⟩,λb u e=>?_,λb o e c=>?_⟩
  · obtain ⟨sl,e1⟩:=un.slot b o q n hb (nx b)
    obtain ⟨sl',e2⟩:=slots b _ hb e1
    exact ⟨sl',e2⟩
  · obtain ⟨o',e1⟩:=un.there b o q (nx b)
    by_cases hb:b ∈ frs l
    · obtain ⟨sl,e2⟩:=slots b _ hb e1
      exact ⟨_,e2⟩
    · exact ⟨o',on b o' e1 (.inr ⟨⟨o,q⟩,hb⟩)⟩
  · refine (ok b u e).stay (λc v hc z=>on c v z (.inl ?_)) (λ_ z=>z) λ_ _ z=>z
    rcases hc with rfl | hc
    · rw [e]; simp
    · rw [hc]; simp
  · obtain ⟨o1,e1⟩:=was b c
    have e2:=on b o1 e1 c
    rw [e] at e2
    cases e2
    exact fb b o e1 c
def CXe (P:Program) (w:World):CXT:=λouter H s E ev s'=>∃ (e C:Addr) (a0:Value) (H':Hp) (B:Heap) (dp:Option Addr),ev = .ref e/\s'.os = s.os/\AllBare s'.gens/\Un (frs outer) [] H H' s.heap s'.heap/\HOk P w H' s'.heap /\
  Heap.FlyingW B outer e (.ref C) a0 s'.heap/\FlyB B outer H' s.heap s'.heap/\(∀ o,s'.heap.get? e = some o->o.dict = dp)/\E (.ref C) dp H'
end
section
variable {P:Program} {w:World} {K:W.Frag} {mg:Str->Option Value} {base:Heap} {N:List Str} {qual:Str} {scope:Scope} {f:Addr} {cd:Value} {A:Around} {outer:List Env} {s0:Shared} {H0:Hp} {E:XK}
theorem yf1 {CX:CXT} {pins:List (Addr × Obj)} {σ:St} {H H':Hp} {s:Shared} {B h2:Heap} (I:Inv (cxOf CX P w K mg base N qual scope f cd A outer s0 H0 E) pins σ H s) (fb:FlyB B (cxOf CX P w K mg base N qual scope f cd A outer s0 H0 E).stack H' s.heap h2):FlyB B outer H' s0.heap h2:=λb o e c=>by
  refine fb b o e ?_
  rcases c with c | ⟨⟨o₀,c⟩,nb⟩
  · exact .inl c
  · obtain ⟨o',e'⟩:=I.base.there b o₀ c (λz=>by cases z)
    refine .inr ⟨⟨o',e'⟩,λz=>?_⟩
    have z':b ∈ s0.heap.objs.size :: frs outer:=z
    rcases List.mem_cons.mp z' with z' | z'
    · exact absurd (z' ▸ Heap.lt_size c) (Nat.lt_irrefl _)
    · exact nb z'
theorem xp9 {pins:List (Addr × Obj)} {σ:St} {H:Hp} {s:Shared} {h':Heap} {e C:Addr} {vs:List Value} (I:Inv (cxOf (CXe P w) P w K mg base N qual scope f cd A outer s0 H0 E) pins σ H s) (hx:Heap.MadeExcOf s.heap h' e (.ref C) vs) (q:E (.ref C) none H) :
    (cxOf (CXe P w) P w K mg base N qual scope f cd A outer s0 H0 E).xe (.ref e) { s with heap:=h' }:=by
  have hin:∀ env ∈ (cxOf (CXe P w) P w K mg base N qual scope f cd A outer s0 H0 E).stack,∀ b,env.frame = some b->b ∈ frs (cxOf (CXe P w) P w K mg base N qual scope f cd A outer s0 H0 E).stack:=λenv he b hb=>List.mem_filterMap.mpr ⟨env,he,hb⟩
  have hl:s.heap.FunFrames (W.hideAll s.heap (frs (cxOf (CXe P w) P w K mg base N qual scope f cd A outer s0 H0 E).stack)) (cxOf (CXe P w) P w K mg base N qual scope f cd A outer s0 H0 E).stack:=W.funFrames_hide I.stack hin
  have fb0:FlyB (W.hideAll s.heap (frs (cxOf (CXe P w) P w K mg base N qual scope f cd A outer s0 H0 E).stack)) (cxOf (CXe P w) P w K mg base N qual scope f cd A outer s0 H0 E).stack H s.heap h':=λb o eo c=>by
    rcases c with c | ⟨⟨o₀,c⟩,nb⟩
    · cases z:H b with
      | none=>exact absurd z c
      | some u=>
        obtain ⟨o1,e1⟩:=(I.hok b u z).have
        have e2:=hx.keeps b o1 e1
        rw [eo] at e2
        cases e2
        exact W.hideAll_get _ e1 λhb=>by rw [I.stkFree b hb] at z; cases z
    · have e2:=hx.keeps b o₀ c
      rw [eo] at e2
      cases e2
      exact W.hideAll_get _ c nb
  refine wpAny_mono (zn4 (zs3 _ _) (wpAny_leaves_madeW (s:={ s with heap:=h' }) (Q:=λ_ s2=>∃ h2 t,s2 = { s with heap:=h2 }/\Heap.FlyingW (W.hideAll s.heap (frs (cxOf (CXe P w) P w K mg base N qual scope f cd A outer s0 H0 E).stack)) outer e (.ref C) (.ref t) h2/\h'.UpToSlots h2) (E:=λ_ _=>False) I.ok.frames rfl (λb o z=>W.of_hideAll _ z) hl hx λh2 t fly tup nt us=>⟨h2,t,rfl,fly,us⟩)) (λ_ s2 z=>?_) (λ_ _ z=>z.1.elim)
  obtain ⟨⟨h2,t,rfl,fly,us⟩,dk⟩:=z
  obtain ⟨tt,hte,_⟩:=hx.there
  have hdp:∀ o,h2.get? e = some o->o.dict = none:=λo ho=>by
    obtain ⟨o1,e1,d1⟩:=dk.2 e o (Heap.lt_size hte) ho
    rw [show Heap.get? h' e = some o1 from e1] at hte
    cases hte
    exact d1
  have fr0:=hl.of_keeps (h':=h') λb o z _=>⟨o,hx.keeps b o z,rfl⟩
  obtain ⟨un2,ok2,fb2⟩:=yg8 (Un.kept hx.keeps) (I.hok.kept hx.keeps) fb0 fr0 fly.1 us
  have I2:=I.call (h':=h2) (g':=s.gens) (d':=s.drawn) (t':=s.toks) (ch:=[]) un2 ok2 I.bare (λb z=>by cases z)
  exact ⟨e,C,.ref t,H,_,none,rfl,I.os,I.bare,I2.base,ok2,fly,yf1 I fb2,hdp,q⟩
theorem zs0:zp8 (CXe P w) (cxOf (CXe P w) P w K mg base N qual scope f cd A outer s0 H0 E) E:=by
  rintro pins σ H s ev s' I ⟨e,C,a0,H',B,dp,rfl,os,bare,un,ok,fly,fb,hd,q⟩
  refine wpAny_mono (zn4 (zs3 _ _) (wpAny_leaves_onW (Q:=λ_ s2=>∃ h2,s2 = { s' with heap:=h2 }/\Heap.FlyingW B outer e (.ref C) a0 h2/\s'.heap.UpToSlots h2) (E:=λ_ _=>False) I.ok.frames rfl fly λh2 fly2 us=>⟨h2,rfl,fly2,us⟩)) (λ_ s2 z=>?_) (λ_ _ z=>z.1.elim)
  obtain ⟨⟨h2,rfl,fly2,us⟩,dk⟩:=z
  obtain ⟨oe,he,_⟩:=fly.there
  have hd2:∀ o,h2.get? e = some o->o.dict = dp:=λo ho=>by
    obtain ⟨o1,e1,d1⟩:=dk.2 e o (Heap.lt_size he) ho
    rw [d1]
    exact hd o1 e1
  obtain ⟨un2,ok2,fb2⟩:=yg8 un ok fb fly.2.2.1 fly2.1 us
  have I2:=I.call (h':=h2) (g':=s'.gens) (d':=s'.drawn) (t':=s'.toks) (ch:=[]) un2 ok2 bare (λb z=>by cases z)
  exact ⟨e,C,a0,H',B,dp,rfl,os.trans I.os,bare,I2.base,ok2,fly2,yf1 I fb2,hd2,q⟩
def xp2 (E:XK) (C:Addr):TS:=λ_ _ H=>E (.ref C) none H
theorem yh0 {x:Str} {C:Addr} {Bn newId initId:String} {bm:List Value} {np cpos pos:Pos} (O:OwnCls x C bm newId mg base) (FB:ExcBaseFacts Bn newId initId bm) (hg:Gl (cxOf (CXe P w) P w K mg base N qual scope f cd A outer s0 H0 E) x) (hdb:(x == ("__debug__" : Str)) = false:=by decide) :
    PS (cxOf (CXe P w) P w K mg base N qual scope f cd A outer s0 H0 E) (.Raise (some (.Call (.Name x np) [] [] cpos)) none pos) (xp2 E C):=by
  intro pins s σ H D I h
  obtain ⟨tl,Nn,nm,q,bs,hdct,sn,sub,ab,col,dd,k0,k1,k2,k3,k5,mN,hC,hN,hni,T⟩:=(O.keeps I.bk).obj
  refine wpAny_Raise_call_subT (C:=C) (nm:=nm) (q:=q) (N:=Nn) (bs:=bs) (bm:=tl) (hdct:=hdct) (sn:=sn) (sub:=sub) (ab:=ab) (col:=col) (dd:=dd) (k0:=k0) (k1:=k1) (k2:=k2) (k3:=k3) (k5:=k5)
    FB (mN:=mN) (T.hasType FB.hasBase) (I.ok.hd rfl) rfl hni ?_
  refine zk2 I hg O.bound ⟨rfl,?_⟩ hdb
  exact PyProof.Rows.evalArgs_empty ⟨rfl,Nat.zero_le _,hC,hN,T,λh' e hm=>xp9 I hm h⟩
end
def ExcO (e C:Addr) (dp:Option Addr):HO:=.ext λh=>∃ o vs,h.get? e = some o/\o.cls = .ref C/\o.dict = dp/\o.data = .fields vs
def cxT (X:Cx) (xe:Value->Shared->Prop):Cx:={ X with xe:=xe }
def cxH (X:Cx) (e:Addr):Cx:={ X with A:=X.A.mark (some (.ref e)),calm:=false,xe:=λ_ _=>False }
section
variable {X:Cx} {pins:List (Addr × Obj)} {σ:St} {H:Hp} {s:Shared}
theorem Inv.toT (I:Inv X pins σ H s) (xe:Value->Shared->Prop):Inv (cxT X xe) pins σ H s:=by
  obtain ⟨⟨a1,a2,a3,a4,a5,a6,a7,a8,a9,a10,a11,a12,a13,a14,a15,a16,a17,a18⟩,i2,i3,i4,i5,i6,i7,i8,i9,i10,i11⟩:=I
  exact ⟨⟨a1,a2,a3,a4,a5,a6,a7,a8,a9,a10,a11,a12,a13,a14,a15,a16,a17,a18⟩,i2,i3,i4,i5,i6,i7,i8,i9,i10,i11⟩
theorem Inv.ofT {xe:Value->Shared->Prop} (I:Inv (cxT X xe) pins σ H s):Inv X pins σ H s:=by
  obtain ⟨⟨a1,a2,a3,a4,a5,a6,a7,a8,a9,a10,a11,a12,a13,a14,a15,a16,a17,a18⟩,i2,i3,i4,i5,i6,i7,i8,i9,i10,i11⟩:=I
  exact ⟨⟨a1,a2,a3,a4,a5,a6,a7,a8,a9,a10,a11,a12,a13,a14,a15,a16,a17,a18⟩,i2,i3,i4,i5,i6,i7,i8,i9,i10,i11⟩
theorem Inv.toH (I:Inv X pins σ H s) (e:Addr):Inv (cxH X e) pins σ H s:=by
  obtain ⟨⟨a1,a2,a3,a4,a5,a6,a7,a8,a9,a10,a11,a12,a13,a14,a15,a16,a17,a18⟩,i2,i3,i4,i5,i6,i7,i8,i9,i10,i11⟩:=I
  exact ⟨⟨a1,a2,a3,a4,a5,a6,a7,a8,λz=>(by cases z),a10,a11,a12,a13,a14,a15,a16,a17,a18⟩,i2,i3,i4,i5,i6,i7,i8,i9,i10,i11⟩
theorem Inv.ofH {e:Addr} (hd:X.calm = true->X.A.handled = none) (I:Inv (cxH X e) pins σ H s):Inv X pins σ H s:=by
  obtain ⟨⟨a1,a2,a3,a4,a5,a6,a7,a8,a9,a10,a11,a12,a13,a14,a15,a16,a17,a18⟩,i2,i3,i4,i5,i6,i7,i8,i9,i10,i11⟩:=I
  exact ⟨⟨a1,a2,a3,a4,a5,a6,a7,a8,hd,a10,a11,a12,a13,a14,a15,a16,a17,a18⟩,i2,i3,i4,i5,i6,i7,i8,i9,i10,i11⟩
end
section
variable {X:Cx} {pins:List (Addr × Obj)} {σ:St} {H:Hp} {s:Shared}
theorem Inv.track {e:Addr} {o:HO} (I:Inv X pins σ H s) (h0:X.s₀.heap.get? e = none) (hl:e ≠ X.env.locals) (hc:∀ x c,X.env.cells.lookup x = some c->c ≠ e) (hp:∀ p ∈ X.pn ++ pins,p.1 ≠ e) (hn:H e = none) (new:zd7 X.prog X.w H s.heap e o):Inv X pins σ (upd H e o) s:=by
  have ne:∀ b u,H b = some u->b ≠ e:=λb u q z=>by rw [z,hn] at q; cases q
  have st:∀ b v,zd7 X.prog X.w H s.heap b v->zd7 X.prog X.w (upd H e o) s.heap b v:=λb v q=>q.stay (λ_ _ _ z=>z) (λc z=>by rw [za7 (ne c _ z)]; exact z) λc xs z=>by rw [za7 (ne c _ z)]; exact z
  obtain ⟨i1,i2,i3,i4,i5,i6,i7,i8,i9,i10,i11⟩:=I
  refine ⟨i1,i2,i3,⟨i4.keep,i4.slot,λb u q n hx=>?_,i4.there,λb xs q=>?_,λb u v q=>?_,λb ps q=>?_⟩,i5,i6,?_,λx c q=>?_,λp hpp=>?_,λb v q=>?_,i11⟩
  · rw [za7 (λz=>by rw [z,h0] at q; cases q)]; exact i4.free b u q n hx
  · have z:=i4.tups b xs q
    rw [za7 (ne _ _ z)]; exact z
  · have z:=i4.frzs b u v q
    rw [za7 (ne _ _ z)]; exact z
  · obtain ⟨m,z⟩:=i4.tbls b ps q
    exact ⟨m,by rw [za7 (ne _ _ z)]; exact z⟩
  · rw [za7 (Ne.symm hl)]; exact i7
  · rw [za7 (hc x c q)]; exact i8 x c q
  · obtain ⟨a1,a2,a3⟩:=i9 p hpp
    exact ⟨a1,by rw [za7 (hp p hpp)]; exact a2,a3⟩
  · by_cases hb:b = e
    · subst hb
      rw [upd_same] at q
      cases q
      exact st b _ new
    · rw [za7 hb] at q
      exact st b v (i10 b v q)
theorem Inv.drop {i:Nat} {n:Str} {h':Heap} {t':Nat} (I:Inv X pins σ H s) (hN:X.N.Nodup) (hi:X.N[i]? = some n) {m:Str->Option Value} {v:Option Value} (hv:∀ (i:Nat) (x:Str) (v:V),X.N[i]? = some x->σ[i]? = some (some v)->Vis X.env.scope x->∃ u,RelV v u/\Look X.env s.heap m x u) (hm':h'.Ns X.env.locals (λx=>if x = n then v else m x)) (sb:Heap.SameBut X.env.locals s.heap h') :
    Inv X pins (σ.set i none) H { s with heap:=h',toks:=t' }:=by
  have neL:∀ b o,X.s₀.heap.get? b = some o->b ≠ X.env.locals:=λb o e=>Nat.ne_of_lt (Nat.lt_of_lt_of_le (Heap.lt_size e) I.ok.above)
  have at_:∀ b o,b ≠ X.env.locals->s.heap.get? b = some o->h'.get? b = some o:=λb o nb e=>(sb.2 b nb).trans e
  have cne:=I.cne
  obtain ⟨i1,i2,i3,i4,i5,i6,i7,i8,i9,i10,i11⟩:=I
  refine ⟨i1,i2,i3,⟨λb o e n hb hx=>at_ b o (neL b o e) (i4.keep b o e n hb hx),λb o e n hb hx=>?_,i4.free,λb o e hx=>?_,i4.tups,i4.frzs,i4.tbls⟩,?_,λx c e=>?_,i7,i8,λp hpp=>?_,λb v q=>?_,by rw [List.length_set]; exact i11⟩
  · obtain ⟨sl,z⟩:=i4.slot b o e n hb hx
    exact ⟨sl,at_ b _ (neL b o e) z⟩
  · obtain ⟨o',z⟩:=i4.there b o e hx
    exact ⟨o',at_ b _ (neL b o e) z⟩
  · refine ⟨_,hm',λj x v' e1 e2 e3=>?_⟩
    have hji:j ≠ i:=λz=>by
      subst z
      rw [List.getElem?_set] at e2
      simp only [if_true] at e2
      split at e2 <;> cases e2
    rw [List.getElem?_set_ne (Ne.symm hji)] at e2
    obtain ⟨u,r,l⟩:=hv j x v' e1 e2 e3
    refine ⟨u,r,?_⟩
    have hxn:x ≠ n:=λz=>by
      subst z
      obtain ⟨l1,z1⟩:=List.getElem?_eq_some_iff.mp e1
      obtain ⟨l2,z2⟩:=List.getElem?_eq_some_iff.mp hi
      exact hji ((List.getElem_inj hN).mp (z1.trans z2.symm))
    rcases l with ⟨k,l⟩ | ⟨k,c,e,z⟩
    · exact .inl ⟨k,by show (if x = n then v else m x) = some u; rw [if_neg hxn]; exact l⟩
    · obtain ⟨o,ho,hd⟩:=z
      exact .inr ⟨k,c,e,o,at_ c o (cne x c e) ho,hd⟩
  · obtain ⟨v,o,ho,hd⟩:=i6 x c e
    exact ⟨v,o,at_ c o (cne x c e) ho,hd⟩
  · obtain ⟨a1,a2,a3,a4⟩:=i9 p hpp
    exact ⟨at_ p.1 p.2 a3 a1,a2,a3,a4⟩
  · refine (i10 b v q).stay (λc u hc z=>at_ c u ?_ z) (λ_ z=>z) λ_ _ z=>z
    intro y
    subst y
    rcases hc with hc | hc
    · rw [<- hc,i7] at q; cases q
    · rw [i7] at hc; cases hc
def PEa (X:Cx) (pins:List (Addr × Obj)) (σ:St) (e:Expr) (t:TE):Prop:=∀ (s:Shared) (H:Hp) (Q:VK),Inv X pins σ H s->t σ H Q->wpAny (model X.prog X.w) X.A (eval e X.env) (EP X pins σ Q) X.xe s
def xo5 (CX:CXT) (X:Cx) (pins:List (Addr × Obj)) (σ:St) (E:XK):Prop:=∀ (H:Hp) (s:Shared) (e:Value) (s':Shared),Inv X pins σ H s->CX X.stack H s E e s'->X.xe e s'
variable {CX:CXT} {k:Nat} {f C:Addr} {fd:FuncData} {ps:List Str} {sp:Sp} {dvs:List V} {ds:List Value} {E:XK} {x m:Str} {p pos apos:Pos} {e o:Expr} {es:List Expr} {ta:TE} {t:TA}
theorem xj6 {Q:VK} {us:List Value} {vs:List V} (F:FnOk X.prog X.w X.K X.mg X.base CX k f fd ps sp) (hr:Room k X.A) (hb:zi3 X.K fd ps ds) (hd:Vals dvs ds) (hx:xo5 CX X pins σ E)
    (I:Inv X pins σ H s) (r:Vals vs us) (h:sp (vs ++ dvs) H Q E):wpAny (model X.prog X.w) X.A (call (.ref f) us) (EP X pins σ Q) X.xe s:=by
  have r2:=r.append hd
  have hl:(us ++ ds).length = ps.length:=(r2.length).symm.trans (F.len _ _ _ _ h)
  refine wpAny_call (codeAny_mono (F.run X.A X.stack s H ⟨us,[]⟩ _ _ Q E hr I.env0 (hb s us I.kIn hl) r2 h) λres s' hq=>?_)
  match res,hq with
  | .error ev,hq=>exact hx H s ev s' I hq
  | .ok (.ret u),hq=>exact I.after hq
theorem zu6 (F:FnOk X.prog X.w X.K X.mg X.base CX k f fd ps sp) (hr:Room k X.A) (hg:Gl X x) (hm:X.mg x = some (.ref f)) (hk:W.keepIn X.K (.ref f) = true) (hb:zi3 X.K fd ps ds) (hd:Vals dvs ds) (hx:xo5 CX X pins σ E)
    (ha:PA X (e :: es) t) (hdb:(x == ("__debug__" : Str)) = false:=by decide) (he:starEach (e :: es) X.env = (false,eval e X.env) :: starEach es X.env:=by rfl) (hpl:(backTo pos (starEach es X.env)).any (·.1) = false:=by rfl) :
    PEa X pins σ (.Call (.Name x p) (e :: es) [] pos) (yg3 sp dvs E t):=by
  intro s H Q I h
  refine wpAny_Call_Name_kw (zk2 I hg hm ?_ hdb)
  exact W.callWith_K (h₀:=X.base) I.ok.mod.kin hk (thn (ha pos pins s σ H _ I h) λus s1 ⟨vs,H1,I1,r,q⟩=>⟨I1.kIn,xj6 F hr hb hd hx I1 r q⟩) he hpl
end
section
variable {X:Cx} {pins:List (Addr × Obj)} {σ:St} {H:Hp} {s:Shared}
theorem gone {M:Model} {A:Around} {E:Value->Shared->Prop} {i:Nat} {n:Str} {pos:Pos} {Q:Unit->Shared->Prop} (I:Inv X pins σ H s) (hN:X.N.Nodup) (hi:X.N[i]? = some n) (hloc:X.env.scope.names.lookup n = some .local)
    (h:∀ s',Inv X pins (σ.set i none) H s'->Q () s'):wpAny M A (do bindName X.env n .none; unbindBehindTheSuite X.env n pos) Q E s:=by
  refine wpAny_bind (wpAny_bindName (zi4 (v:=.non) I hN hi (Or.inl hloc) rfl (λs1 I1=>?_) (.inr hloc)))
  have hiσ:i < σ.length:=by rw [I.len]; exact (List.getElem?_eq_some_iff.mp hi).1
  obtain ⟨m,hm,hv⟩:=id I1.loc
  obtain ⟨u,r,l⟩:=hv i n .non hi (by rw [List.getElem?_set_self hiσ]) (.inl hloc)
  have hk:X.env.kindOf n = some .local:=hloc
  have hmn:m n = some u:=by
    rcases l with ⟨_,l⟩ | ⟨z,_⟩
    · exact l
    · rw [hk] at z; rcases z with z | z <;> cases z
  have hp:(X.env.scope.kind == .class || (X.env.scope.kind == .module && X.env.locals != X.env.globals)) = false:=by rw [I.ok.kind]; rfl
  unfold unbindBehindTheSuite
  refine wpAny_onRaise ?_
  unfold unbindName
  refine wpAny_bind (wpAny_point (wpAny_bind ?_))
  unfold deleteName
  simp only [hk,hp]
  rw [if_neg (by decide)]
  refine wpAny_bind (wpAny_nsDel_keeps hm λh2 v hn2 hs2=>?_)
  rw [hmn]
  simp only [if_true,Option.isSome_some,Bool.not_true,Bool.false_eq_true,if_false]
  refine wpAny_pure (wpAny_point (h _ ?_))
  have D:=I1.drop (h':=h2) (t':=s1.toks) hN hi hv hn2 hs2
  rw [List.set_set] at D
  exact D
end
structure OwnB (x:Str) (C:Addr) (bmB:List Value) (newId:String) (mg:Str->Option Value) (h:Heap):Prop where
  bound:mg x = some (.ref C)
  obj:∃ bm N nm q bs hdct sn sub ab col dd k0 k1 k2 k3 k5,h.get? C = some (excClassObj nm q C N bs bm hdct sn sub ab col dd k0 k1 k2 k3 k5 newId)/\OwnTail h bmB bm
theorem OwnB.keeps {x:Str} {C:Addr} {bmB:List Value} {newId:String} {mg:Str->Option Value} {h h':Heap} (O:OwnB x C bmB newId mg h) (hk:∀ b o,h.get? b = some o->h'.get? b = some o):OwnB x C bmB newId mg h':=by
  obtain ⟨b,bm,N,nm,q,bs,hdct,sn,sub,ab,col,dd,k0,k1,k2,k3,k5,hC,T⟩:=O
  exact ⟨b,bm,N,nm,q,bs,hdct,sn,sub,ab,col,dd,k0,k1,k2,k3,k5,hk _ _ hC,T.keeps hk⟩
end L2
namespace L2
open PySem PySem.Spec PyProof.Rows PySem.Calls
def zm9 (x D:Addr) (h:Heap):Prop:=∃ o:Obj,h.get? x = some o/\o.cls = .ref D
theorem zm9.type {M:Model} {h:Heap} {x D:Addr} (I:zm9 x D h):W.Looks M h (typeOf (.ref x)) (.ref D):=by
  obtain ⟨o,h1,h2⟩:=I
  exact h2 ▸ (W.Looks.ld h1).andThen .now
structure ClsE (K:W.Frag) (D:Addr):Prop where
  ga:W.findIn K (.ref D) "__getattribute__" = some (some (.builtin "BaseException.__getattribute__"))
  gt:W.findIn K (.ref D) "__getattr__" = some none
  bx:W.mroIn K D (.type "BaseException") = some true
  cls:(W.clsIn K D).isSome = true
  ha:W.findIn K (.ref D) "__class__" = some (some (.builtin "object.__class__"))
  hn:W.specialIn K (.builtin "object.__class__") "__get__" = some (some (.builtin "getset_descriptor.__get__"))
  htk:W.takesIn K (.builtin "object.__class__") = some true
  hm:W.mroIn K D (.type "object") = some true
section
open Builtin Builtin.ObjectAttr Builtin.Getset_descriptor PySem.W
variable {prog:Program} {w:World} {A:Around} {E:Value->Shared->Prop} {s:Shared} {K:W.Frag} {x D:Addr}
theorem xg7 {M:Model} {h:Heap} (C:ClsE K D) (X:K.In h):Looks M h (find (.ref x) (.ref D) "__class__") (.bind (.builtin "getset_descriptor.__get__") (.builtin "object.__class__")):=by
  have L1:=looks_findIn (M:=M) X C.ha
  have L2:Looks M h (getOf (some (.builtin "object.__class__"))) (some (.builtin "getset_descriptor.__get__")):=looks_specialIn X C.hn
  have L3:=looks_takesIn (M:=M) X C.htk
  refine L1.andThen (L2.andThen ?_)
  exact (show Looks M h (dataDescriptor? (some (.builtin "object.__class__")) (some (.builtin "getset_descriptor.__get__"))) (some (.builtin "getset_descriptor.__get__",.builtin "object.__class__")) from L3.andThen .now).andThen (Looks.tag .now)
theorem xo2 {tp:Value} {R:Result->Shared->Prop} (C:ClsE K D) (X:K.In s.heap) (I:zm9 x D s.heap)
    (h:R (.ok (.ret (.ref D))) s):codeAny (model prog w) A (.call (.builtin "getset_descriptor.__get__") ⟨[.builtin "object.__class__",.ref x,tp],[]⟩) R s:=by
  obtain ⟨hh,g,dr,t,os⟩:=s
  have L0:=I.type (M:=model prog w)
  have L1:=looks_mroIn (M:=model prog w) X C.hm
  refine codeAny_call_builtin KF.slot_gs.plain KF.entry_gs (KF.slot_gs.check _ _ _ _ _ _ _ _ KF.type_class (KF.args_gs _ _ _) ?_)
  unfold Builtin.«getset_descriptor.__get__» descrGet
  rw [dga_obj]
  refine wpAny_bind (wpAny_pure ?_)
  unfold descrGetter descrCheckInstance descrNameAndClass isInstance
  simp only [KF.owner_class]
  repeat lk
  refine ⟨Code.quiet_builtin _ (by decide +kernel),codeAny_builtin KF.entry_class ?_⟩
  unfold Builtin.«object.__class__» shownTypeOf
  repeat lk
  exact h
theorem xa4 {tk:Tok} {P:Value->Shared->Prop} (C:ClsE K D) (X:K.In s.heap) (I:zm9 x D s.heap)
    (h:wpAny (model prog w) A (call (.builtin "getset_descriptor.__get__") [.builtin "object.__class__",.ref x,.ref D]) P E s) :
    wpAny (model prog w) A (Builtin.«object.__getattribute__» ⟨[.ref x,.str "__class__" tk],[]⟩) (λfin s'=>∃ v,fin = .done (.ret v)/\P v s') E s:=by
  obtain ⟨hh,gg,d,t,os⟩:=s
  have L0:=I.type (M:=model prog w)
  have L1:=xg7 (M:=model prog w) (x:=x) C X
  refine wpAny_bind (wpAny_pure ?_)
  refine wpAny_bind (m:=attrName _) (wpAny_pure ?_)
  refine wpAny_bind (L0.at (wpAny_bind (L1.at ?_)))
  show wpAny _ _ (holding [.builtin "object.__class__"] (call (.builtin "getset_descriptor.__get__") [.builtin "object.__class__",.ref x,.ref D]) >>= ret) _ _ _
  exact wpAny_bind (wpAny_holding (wpAny_mono h (λv s' z=>wpAny_pure ⟨v,rfl,z⟩) λ_ _ z=>z))
theorem yi7 {nameV:Value} {Q:Unit->Shared->Prop} (C:ClsE K D) (X:K.In s.heap) (I:zm9 x D s.heap) (hq:Q () s):wpAny (model prog w) A (checkBuiltinCall "BaseException.__getattribute__" ⟨[.ref x,nameV],[]⟩) Q E s:=by
  have hk:builtinKind "BaseException.__getattribute__" = some .slot:=by decide +kernel
  have hsplit:splitId "BaseException.__getattribute__" = some ("BaseException","__getattribute__"):=by decide +kernel
  have ha:=F.args_bexc_ga (.ref x) nameV
  obtain ⟨hh,gg,d,t,os⟩:=s
  have L0:=I.type (M:=model prog w)
  have L1:=looks_mroIn (M:=model prog w) X C.bx
  have LI:Looks (model prog w) hh (isInstance (.ref x) (.type "BaseException")) true:=L0.andThen L1
  simp only [checkBuiltinCall,hk,hsplit]
  refine wpAny_bind (LI.at ?_)
  simp only [Bool.not_true,Bool.false_eq_true,if_false]
  cases hsig:Manifest.signature? "BaseException.__getattribute__" with
  | none=>exact wpAny_pure hq
  | some sig=>
    simp only [argsOk,hsig] at ha
    have h2:Bind.checkArgs "BaseException.__getattribute__" sig ⟨[.ref x,nameV],[]⟩ = pure ():=ha
    show wpAny _ _ (Bind.checkArgs "BaseException.__getattribute__" sig ⟨[.ref x,nameV],[]⟩) Q E _
    rw [h2]; exact wpAny_pure hq
theorem xg5 {Q:Option Value->Shared->Prop} (C:ClsE K D) (X:K.In s.heap) (I:zm9 x D s.heap)
    (h:wpAny (model prog w) A.in1 (call (.builtin "getset_descriptor.__get__") [.builtin "object.__class__",.ref x,.ref D]) (λv s'=>wpAny (model prog w) A (handedOut v) (λv s''=>Q (some v) s'') (λ_ _=>False) s') (λ_ _=>False) { s with toks:=s.toks + 1 }) :
    wpAny (model prog w) A (getAttr? (.ref x) "__class__") Q E s:=by
  obtain ⟨hh,g,d,t,os⟩:=s
  have L0:=I.type (M:=model prog w)
  have L1:=looks_findIn (M:=model prog w) X C.ga
  have L2:=looks_findIn (M:=model prog w) X C.gt
  have f3:=F.excAttr_ValueError.ga.bind (.ref x)
  have hx2:(Value.builtin "BaseException.__getattribute__" == Value.builtin "object.__getattribute__") = false:=by decide +kernel
  unfold getAttr? getAttrBy? getAttrBy
  refine wpAny_bind (wpAny_mkText (wpAny_bind (wpAny_attempt (wpAny_holding (wpAny_bind (L0.at (wpAny_bind (L1.at ?_))))))))
  dsimp only
  rw [if_neg (by rw [hx2,Bool.and_false]; decide)]
  unfold getAttrByItsOwn hookBefore
  refine wpAny_bind ?_
  rw [if_pos (show onTheHeap (Value.ref D) = true from rfl)]
  refine L2.at ?_
  refine wpAny_bind (wpAny_attempt (wpAny_holding ?_))
  unfold callGetattribute
  rw [if_neg (by simp)]
  unfold boundAndCalled
  rw [f3]
  refine wpAny_bind (wpAny_pure ?_)
  dsimp only
  refine wpAny_call (codeAny_call_builtin F.excAttr_ValueError.ga.plain F.entry_bexc_ga (yi7 (s:=⟨hh,g,d,t + 1,os⟩) C X I (wpAny_mono (xa4 (s:=⟨hh,g,d,t + 1,os⟩) C X I h) (λfin s' z=>?_) λ_ _ z=>z.elim)))
  obtain ⟨v,rfl,z⟩:=z
  exact wpAny_mono z (λv s'' hv=>wpAny_pure hv) (λ_ _ z=>z.elim)
theorem xa5 {Q:Option Value->Shared->Prop} (C:ClsE K D) (X:K.In s.heap) (I:zm9 x D s.heap) (h:Q (some (.ref D)) { s with toks:=s.toks + 1 }):wpAny (model prog w) A (getAttr? (.ref x) "__class__") Q E s:=
  xg5 C X I (wpAny_call (xo2 (s:={ s with toks:=s.toks + 1 }) C X I (handed_on rfl h)))
theorem yo1 (C:ClsE K D):KitX K (.ref x) (.ref D) (zm9 x D) where
  ty:=λ_ _ _ I=>I.type
  it:=λ_ _ X _=>by
    obtain ⟨cdD,hcD⟩:=Option.isSome_iff_exists.mp C.cls
    unfold clsIn at hcD
    split at hcD
    · rename_i c' d' cd' sl' ho
      intro A' Q' E' s' k q
      unfold isType loadHead
      exact wpAny_bind (wpAny_loadPart (k _ _ (X _ _ ho)) (wpAny_pure q))
    · cases hcD
  ne:=λh tp dd its n sl X htp=>by
    obtain ⟨cdD,hcD⟩:=Option.isSome_iff_exists.mp C.cls
    refine Bool.eq_false_iff.mpr λq=>?_
    have e:D = tp:=Value.ref.inj (beq_iff_eq.mp q)
    subst e
    unfold clsIn at hcD
    split at hcD
    · rename_i c' d' cd' sl' ho
      have z:=(X _ _ ho).symm.trans htp
      cases z
    · cases hcD
  ca:=λX I k=>xa5 C X I k
end
section
variable {X:Cx}
def rIsE (K:W.Frag):List V->Hp->(V->Hp->Prop)->Prop:=λxs H Q=>∃ (a D:Addr) (dp:Option Addr) (cv:V) (c:Value) (b:Bool),xs = [.ref a,cv]/\(∀ u,RelV cv u->u = c)/\H a = some (ExcO a D dp)/\ClsE K D/\W.kitOne K (.ref D) c = some b/\Q (.bl b) H
theorem ExcO.at_ {pins:List (Addr × Obj)} {σ:St} {H:Hp} {s:Shared} {a D:Addr} {dp:Option Addr} (I:Inv X pins σ H s) (e:H a = some (ExcO a D dp)):zm9 a D s.heap:=by
  obtain ⟨⟨o,vs,h1,h2,_⟩,_⟩:=(show zd7 X.prog X.w H s.heap a (.ext λh=>∃ o vs,h.get? a = some o/\o.cls = .ref D/\o.dict = dp/\o.data = .fields vs) from I.hok a _ e)
  exact ⟨o,h1,h2⟩
theorem zv1 {K:W.Frag} (hK:X.K = K):zn0 X (.builtin "isinstance") (rIsE K):=by
  subst hK
  intro pins s σ H xs us Q I r h
  obtain ⟨a,D,dp,cv,c,b,rfl,hc,ea,C,e,q⟩:=h
  obtain ⟨u,w',rfl,r1,r2⟩:=xc0 r
  have:=hc _ r2
  subst this
  obtain rfl:u = Value.ref a:=r1
  exact W.kia_one (yo1 C) I.kIn (ExcO.at_ I ea) e (λz=>nomatch z) λtk=>⟨.bl b,H,I.tok tk,rfl,q⟩
def rIsT (K:W.Frag):List V->Hp->(V->Hp->Prop)->Prop:=λxs H Q=>∃ (a D tp:Addr) (dp:Option Addr) (cvs:List V) (cs:List Value) (b:Bool),xs = [.ref a,.ref tp]/\H tp = some (.tup cvs)/\(∀ us,Vals cvs us->us = cs)/\H a = some (ExcO a D dp)/\ClsE K D/\W.kitAny K (.ref D) cs = some b/\Q (.bl b) H
theorem xh1 {K:W.Frag} (hK:X.K = K):zn0 X (.builtin "isinstance") (rIsT K):=by
  subst hK
  intro pins s σ H xs us Q I r h
  obtain ⟨a,D,tp,dp,cvs,cs,b,rfl,et,hc,ea,C,e,q⟩:=h
  obtain ⟨u,w',rfl,r1,r2⟩:=xc0 r
  obtain rfl:u = Value.ref a:=r1
  obtain rfl:w' = Value.ref tp:=r2
  obtain ⟨_,its,rv,o,h1,h2,_,n,h3⟩:=(show zd7 X.prog X.w H s.heap tp (.tup cvs) from I.hok tp _ et)
  have:=hc _ rv
  subst this
  obtain ⟨oc,odd,oda,osl⟩:=o
  dsimp only at h2 h3
  subst h2; subst h3
  exact W.kia_tup (yo1 C) I.kIn (ExcO.at_ I ea) h1 e (λz=>nomatch z) λtk=>⟨.bl b,H,I.tok tk,rfl,q⟩
end
section
open Builtin Builtin.ObjectAttr Builtin.Getset_descriptor PySem.W
variable {prog:Program} {w:World} {A:Around} {E:Value->Shared->Prop} {s:Shared} {K:W.Frag} {x D:Addr}
theorem ys7 {name:Str} {tk:Tok} {v:Value} {Q:Fin->Shared->Prop} (I:zm9 x D s.heap) (hf:Looks (model prog w) s.heap (find (.ref x) (.ref D) name) (.value v)) (h:Q (.done (.ret v)) s) :
    wpAny (model prog w) A (Builtin.«object.__getattribute__» ⟨[.ref x,.str name tk],[]⟩) Q E s:=by
  obtain ⟨hh,gg,d,t,os⟩:=s
  have L0:=I.type (M:=model prog w)
  refine wpAny_bind (wpAny_pure ?_)
  refine wpAny_bind (m:=attrName _) (wpAny_pure ?_)
  refine wpAny_bind (L0.at (wpAny_bind (hf.at ?_)))
  exact wpAny_pure h
theorem xg8 {name:Str} {v:Value} {expr:Bool} {Q:Value->Shared->Prop} (C:ClsE K D) (X:K.In s.heap) (I:zm9 x D s.heap) (hf:Looks (model prog w) s.heap (find (.ref x) (.ref D) name) (.value v)) (hv:handedIn v = true) (h:Q v { s with toks:=s.toks + 1 }) :
    wpAny (model prog w) A (getAttr (.ref x) name expr) Q E s:=by
  obtain ⟨hh,g,d,t,os⟩:=s
  have L0:=I.type (M:=model prog w)
  have L1:=looks_findIn (M:=model prog w) X C.ga
  have L2:=looks_findIn (M:=model prog w) X C.gt
  have f3:=F.excAttr_ValueError.ga.bind (.ref x)
  have hx2:(Value.builtin "BaseException.__getattribute__" == Value.builtin "object.__getattribute__") = false:=by decide +kernel
  unfold getAttr getAttrBy
  refine wpAny_bind (wpAny_mkText (wpAny_holding (wpAny_bind (L0.at (wpAny_bind (L1.at ?_))))))
  dsimp only
  rw [if_neg (by rw [hx2,Bool.and_false]; decide)]
  unfold getAttrByItsOwn hookBefore
  refine wpAny_bind ?_
  rw [if_pos (show onTheHeap (Value.ref D) = true from rfl)]
  refine L2.at ?_
  refine wpAny_bind (wpAny_attempt (wpAny_holding ?_))
  unfold callGetattribute
  rw [if_neg (by cases expr <;> decide)]
  unfold boundAndCalled
  rw [f3]
  refine wpAny_bind (wpAny_pure ?_)
  dsimp only
  refine wpAny_call (codeAny_call_builtin F.excAttr_ValueError.ga.plain F.entry_bexc_ga (yi7 (s:=⟨hh,g,d,t + 1,os⟩) C X I (ys7 (s:=⟨hh,g,d,t + 1,os⟩) I hf ?_)))
  exact handed_on hv h
end
section
variable {X:Cx} {e:Expr} {f:Str} {pos:Pos} {ta:TE}
def xu3 (K:W.Frag) (ta:TE) (f:Str):TE:=λσ H Q=>ta σ H λx H1=>∃ a C dx fs v,x = .ref a/\H1 a = some (ExcO a C (some dx))/\H1 dx = some (.xd fs)/\ClsE K C/\W.hasDictIn K C = true/\W.findIn K (.ref C) f = some none/\fs.lookup f = some v/\Q v H1
theorem yw2 {K:W.Frag} (hK:X.K = K) (he:PE X e ta) (hb:attributeBase e f X.env (eval e X.env) = eval e X.env:=by rfl):PE X (.Attribute e f pos) (xu3 K ta f):=by
  subst hK
  intro pins s σ H Q I h
  refine xb5 hb (thn (he pins s σ H _ I h) λu s1 ⟨x,H1,I1,rx,a,C,dx,fs,v,ex,ea,ed,c,hd,hn,l,q⟩=>?_)
  subst ex
  obtain rfl:u = Value.ref a:=rx
  obtain ⟨⟨o,vs,h1,h2,h3,h4⟩,_⟩:=(show zd7 X.prog X.w H1 s1.heap a (.ext λh=>∃ o vs,h.get? a = some o/\o.cls = .ref C/\o.dict = some dx/\o.data = .fields vs) from I1.hok a _ ea)
  obtain ⟨mA,hns,hr⟩:=(show zd7 X.prog X.w H1 s1.heap dx (.xd fs) from I1.hok dx _ ed)
  obtain ⟨od,ho,hl⟩:=yh8 hns
  have J:W.InstAt s1.heap a o C (some od):=⟨h1,h2,by unfold W.notCls; rw [h4],by rw [h3]; exact ho⟩
  have rr:=hr f
  rw [l] at rr
  obtain ⟨u',eu,ru⟩:=RelO.some_of rr
  refine xg8 c I1.kIn ⟨o,h1,h2⟩ (W.looks_find I1.kIn J (W.findObj_own hd hn rfl (by rw [hl,eu]))) ?_ ⟨v,H1,I1.tok _,ru,q⟩
  exact yi4 ru
end
section
open Builtin Builtin.ObjectAttr
variable {prog:Program} {w:World} {A:Around} {E:Value->Shared->Prop} {s:Shared} {K:W.Frag} {x C:Addr}
def isR:Value->Bool
  | .ref _=>true
  | _=>false
def xi2:List Value:=[.type "ValueError",.type "Exception",.type "BaseException",.type "object"]
def yn5 (K:W.Frag) (C:Addr):Bool:=(W.clsIn K C).any λk=>k.mro.dropWhile isR == xi2
theorem yh4 (u:Value) (x:Str):∀ l:List Value,refuseLoop u x l = refuseLoop u x (l.dropWhile isR)
  | []=>rfl
  | v :: r=>by
    cases v with
    | ref D=>rw [refuseLoop_ref,yh4 u x r]; rfl
    | _=>rfl
theorem xk9 (u:Value) {l:List Value} (e:(l.dropWhile isR == xi2) = true):refuseLoop u "__setattr__" l = pure ():=by
  rw [yh4,beq_iff_eq.mp e]
  exact PySem.F.store_ValueError.passes u
theorem xc4 {o:Obj} {od:Option Obj} {name:Str} {t:Tok} {v:Value} {R:Result->Shared->Prop} (X:K.In s.heap) (J:W.InstAt s.heap x o C od) (hp:yn5 K C = true) (hm:W.mroIn K C (.type "object") = some true) (ht:W.takerIn K C name = some none)
    (h:∀ b,wpAny (model prog w) A.in1 (storeInOwnDict (.ref x) (.ref C) (.str name t) name v b)
      (λq s'=>match q with | .done z=>R (.ok z) s' | .again c=>c.quiet = true/\codeAny (model prog w) A c R s') (λe s'=>R (.error e) s') s) :
    codeAny (model prog w) A (.call (.builtin "object.__setattr__") ⟨[.ref x,.str name t,v],[]⟩) R s:=by
  have S:=PySem.F.store_object
  obtain ⟨k,hk,he⟩:=W.any_some hp
  have isO:W.Looks (model prog w) s.heap (isInstance (.ref x) (.type "object")) true:=J.type.andThen (W.looks_mroIn X hm)
  have mo:W.Looks (model prog w) s.heap (mroOf (.ref C)) k.mro:=(W.looks_clsIn X hk).andThen .now
  obtain ⟨at',ha,hr⟩:=Option.bind_eq_some_iff.mp ht
  have tk:W.Looks (model prog w) s.heap (storeTaker? at') none:=by
    cases at' with
    | none=>exact .now
    | some y=>
      obtain ⟨b,hb,hn⟩:=Option.map_eq_some_iff.mp hr
      refine (W.looks_takesIn X hb).andThen ?_
      cases b with
      | false=>exact .now
      | true=>cases hn
  refine codeAny_call_builtin S.slot.plain S.entry (@W.check_slot (model prog w) _ _ s "object.__setattr__" "object" "__setattr__" (.ref x) [.str name t,v] [] _ S.kind S.split isO (S.args (.ref x) (.str name t) v) ?_)
  rw [W.osa_eq,refuse_eq]
  refine wpAny_bind (wpAny_bind (J.type.here (wpAny_bind (mo.here ?_))))
  rw [xk9 _ he]
  exact wpAny_pure (wpAny_bind (J.type.here (wpAny_bind ((W.looks_findIn X ha).here (wpAny_bind (tk.here (h _)))))))
theorem xj4 {o:Obj} {vs:Array Value} {name:Str} {v:Value} {Q:Unit->Shared->Prop} (X:K.In s.heap) (hx:s.heap.get? x = some o) (hc:o.cls = .ref C) (hn:o.dict = none) (hd:o.data = .fields vs)
    (hs:W.findIn K (.ref C) "__setattr__" = some (some (.builtin "object.__setattr__"))) (hp:yn5 K C = true) (hm:W.mroIn K C (.type "object") = some true) (ht:W.takerIn K C name = some none) (hh:W.hasDictIn K C = true)
    (h:∀ h',(∀ b u,b ≠ x->s.heap.get? b = some u->h'.get? b = some u)->h'.get? x = some { o with dict:=some s.heap.objs.size }->h'.Ns1 s.heap.objs.size (λy=>if y = name then some v else none)->Q () { s with heap:=h',toks:=s.toks + 2 }) :
    wpAny (model prog w) A (setAttr (.ref x) name v) Q E s:=by
  have J:W.InstAt s.heap x o C none:=⟨hx,hc,by unfold W.notCls; rw [hd],by rw [hn]; trivial⟩
  refine W.set_plain X J hs (xc4 (s:={ s with toks:=s.toks + 1 }) X J hp hm ht λb=>?_)
  obtain ⟨cd,hcd,hd'⟩:=W.any_some hh
  obtain ⟨oc,od,oda,osl⟩:=o
  dsimp only at hc hn hd
  subst hc hn hd
  refine wpAny_bind (wpAny_pure (wpAny_bind ?_))
  show wpAny _ _ (instanceDict x true) _ _ _
  unfold instanceDict
  refine wpAny_bind (wpAny_loadPart hx (wpAny_bind (W.Looks.here (s:={ s with toks:=s.toks + 1 }) (W.looks_clsIn X hcd) ?_)))
  rw [hd']
  rw [if_neg (by decide)]
  dsimp only
  rw [if_neg (by simp [typeHasDict])]
  obtain ⟨hh0,g,d,t,os⟩:=s
  dsimp only at *
  have hxs:x ≠ hh0.objs.size:=Nat.ne_of_lt (Heap.lt_size hx)
  have hx1:=Heap.get?_push_of_some (h:=hh0) { cls:=.type "dict",data:=.dict #[] } hx
  refine wpAny_bind (wpAny_alloc' (wpAny_bind (wpAny_update' hx1 ?_)))
  have hx2:=Heap.get?_update_self (λo:Obj=>{ o with dict:=some hh0.objs.size }) hx1 rfl
  have hd2:((hh0.push { cls:=.type "dict",data:=.dict #[] }).update x λo=>{ o with dict:=some hh0.objs.size }).get? hh0.objs.size = some { cls:=.type "dict",data:=.dict #[] }:=
    (Heap.get?_update_other _ _ hxs).trans (Heap.get?_push_size _ rfl)
  refine wpAny_bind (wpAny_pure (wpAny_pure ?_))
  have n1:((hh0.push { cls:=.type "dict",data:=.dict #[] }).update x λo=>{ o with dict:=some hh0.objs.size }).Ns1 hh0.objs.size (λ_=>none):=⟨_,#[],_,hd2,rfl,by simp [StrKeys],by simp [UniqKeys],λ_=>rfl⟩
  refine wpAny_bind (wpAny_pure (wpAny_bind ?_))
  refine wpAny_nsSet1 n1 λh' hn2 hs2=>?_
  obtain ⟨oD,esD,epD,hoD,hdD,hcD⟩:=hn2.count (PySem.Within.cons name v (show PySem.Within (λ_=>none) [] from λ_ z=>absurd rfl z))
  refine wpAny_bind (wpAny_lookBehind hoD (by rw [hdD]; exact pastItsLine_dict (Nat.le_trans hcD (by rw [List.length_cons]; decide))) ?_)
  refine wpAny_pure (h h' (λb u hb e=>?_) ?_ hn2)
  · have e1:((hh0.push { cls:=.type "dict",data:=.dict #[] }).update x λo=>{ o with dict:=some hh0.objs.size }).get? b = some u:=(Heap.get?_update_other _ _ (Ne.symm hb)).trans (Heap.get?_push_of_some _ e)
    exact (hs2.2 b (Nat.ne_of_lt (Heap.lt_size e))).trans e1
  · exact (hs2.2 x hxs).trans hx2
end
def ExcN (e C:Addr) (dp:Option Addr):HO:=.ext λh=>∃ t:Addr,h.get? e = some { cls:=.ref C,dict:=dp,data:=.fields #[.ref t,.none,.none,.none,.bool false,.none] }
structure ClsS (K:W.Frag) (C:Addr) (f:Str):Prop where
  sa:W.findIn K (.ref C) "__setattr__" = some (some (.builtin "object.__setattr__"))
  po:yn5 K C = true
  mo:W.mroIn K C (.type "object") = some true
  tk:W.takerIn K C f = some none
  hd:W.hasDictIn K C = true
section
variable {X:Cx} {o value:Expr} {f:Str} {pos pos':Pos} {ta tv:TE}
def xu8 (K:W.Frag) (ta tv:TE) (f:Str):TS:=λD σ H=>tv σ H λy H1=>ta σ H1 λx H2=>∃ a C,x = .ref a/\H2 a = some (ExcN a C none)/\ClsS K C f/\∀ dx,H2 dx = none->D.nx σ (upd (upd H2 a (ExcN a C (some dx))) dx (.xd [(f,y)]))
theorem xk4 (hex:X.ex = []) (ha:PE X o ta) (hv:PE X value tv) (hs:swapsWith value (some (.Attribute o f pos')) pos.line X.env = pure false:=by rfl):PS X (.Assign [.Attribute o f pos'] value pos) (xu8 X.K ta tv f):=by
  intro pins s σ H D I h
  refine plainObj_wpAny_Assign_Attribute (thn (hv pins s σ H _ I h) λu s1 ⟨y,H1,I1,ry,q⟩=>thn (ha pins s1 σ H1 _ I1 q) λov s2 ⟨x,H2,I2,rx,a,C,ex,ea,c,q2⟩=>?_) hs
  subst ex
  obtain rfl:ov = Value.ref a:=rx
  obtain ⟨⟨tt,h1⟩,_⟩:=(show zd7 X.prog X.w H2 s2.heap a (.ext λh=>∃ t:Addr,h.get? a = some { cls:=.ref C,dict:=none,data:=.fields #[.ref t,.none,.none,.none,.bool false,.none] }) from I2.hok a _ ea)
  refine xj4 I2.kIn h1 rfl rfl rfl c.sa c.po c.mo c.tk c.hd λh' kp hx' hn'=>?_
  have dn:H2 s2.heap.objs.size = none:=I2.hok.fresh (Nat.le_refl _)
  have gn:s2.heap.get? s2.heap.objs.size = none:=Heap.get?_none_of_le (Nat.le_refl _)
  have I3:Inv X pins σ (upd H2 a (ExcN a C (some s2.heap.objs.size))) { s2 with heap:=h',toks:=s2.toks + 2 }:=by
    refine I2.write (x:=a) (e:=a) (by rw [ea]; exact True.intro) (.inl rfl) (λb u hb e=>kp b u hb e) ⟨_,hx'⟩ ?_
    exact ⟨⟨tt,hx'⟩,⟨_,hx'⟩,λk1 k2 ⟨tz,z⟩ kk=>⟨tz,kk _ z⟩⟩
  have ane:s2.heap.objs.size ≠ a:=λz=>by rw [z,h1] at gn; cases gn
  have s0:X.s₀.heap.get? s2.heap.objs.size = none:=by
    cases z:X.s₀.heap.get? s2.heap.objs.size with
    | none=>rfl
    | some oz=>
      obtain ⟨o',e'⟩:=I2.base.there _ oz z (λy=>by rw [hex] at y; cases y)
      rw [gn] at e'; cases e'
  refine ⟨σ,_,I3.track s0 (λz=>?_) (λy' c' hy z=>?_) (λp hpp z=>?_) (by rw [za7 ane]; exact dn) (o:=.xd [(f,y)]) (show zd7 X.prog X.w _ h' s2.heap.objs.size (.xd [(f,y)]) from ⟨_,hn',λg=>?_⟩),q2 _ dn⟩
  · obtain ⟨m,⟨om,_,_,hom,_⟩,_⟩:=I2.loc
    rw [<- z,gn] at hom; cases hom
  · obtain ⟨v',o',ho',_⟩:=I2.cell y' c' hy
    rw [z,gn] at ho'; cases ho'
  · have:=(I2.pin p hpp).1
    rw [z,gn] at this; cases this
  · show RelO (List.lookup g [(f,y)]) (if g = f then some u else none)
    by_cases hg:g = f
    · subst hg
      rw [if_pos rfl,List.lookup_cons_self]
      exact ry
    · rw [if_neg hg]
      have:List.lookup g [(f,y)] = none:=by
        simp [List.lookup,beq_eq_false_iff_ne.mpr hg]
      rw [this]
      trivial
end
section
variable {prog:Program} {w:World} {A:Around} {E:Value->Shared->Prop} {h:Heap} {g:Array GenState} {d:Drawn} {t:Nat} {os:OsState}
variable {nm q:Str} {C N:Addr} {bs bm bmB:List Value} {hdct:Bool} {sn:List Str} {sub:List Value} {ab:Bool} {col:Option Bool} {dd:Option Addr} {k0 k1 k2 k3 k5:Option Value} {B newId initId:String}
theorem xg6 {mN:Str->Option Value} {rest:List Value} {fI:Addr} {oI:Obj} {Q:Value->Shared->Prop} (F:ExcBaseFacts B newId initId bmB) (T:OwnTail h bmB bm)
    (hC:h.get? C = some (excClassObj nm q C N bs bm hdct sn sub ab col dd k0 k1 k2 k3 k5 newId)) (hn:h.Ns N mN) (hi:mN "__init__" = some (.ref fI)) (hfI:h.get? fI = some oI) (hfc:oI.cls = .type "function") (hrest:rest.length<=sizeLine)
    (hq:∀ h' e,h.objs.size<=e->Heap.MadeExcOf h h' e (.ref C) rest ->
      wpAny (model prog w) (A.under (.builtin "type.__call__" ⟨.ref C :: rest,[]⟩)) (call (.ref fI) (.ref e :: rest)) (λr s'=>r = .none/\Q (.ref e) s') E ⟨h',g,d,t,os⟩) :
    wpAny (model prog w) A (call (.ref C) rest) Q E ⟨h,g,d,t,os⟩:=by
  have f1:=tc_lookup
  have f2:=tc_bind (.ref C)
  have hT:(⟨h,g,d,t,os⟩:Shared).TypeIs (.ref C) "type":=⟨_,hC,rfl⟩
  refine wpAny_call (codeAny_of_tree ?_)
  show wpAny _ _ (callAny (.ref C) _) _ _ _
  repeat (any_goals (first | assumption | with_reducible refine wpAny_loadPart_at hC ?_ | wp_step))
  refine ⟨rfl,codeAny_call_builtin_at (Code.quiet_builtin _ (by decide +kernel)) entry_typeCall (wpAny_check_type_call_sub hC ?_)⟩
  repeat (first | with_reducible refine wpAny_loadPart_at hC ?_ | with_reducible refine wpAny_madeBy_exc hC ?_ | wp_step)
  refine codeAny_call_builtin_code (Code.quiet_builtin _ F.quiet) (wpAny_check_new_subT F T hC (codeAny_exc_new_subT F T hC ?_ hrest))
  show wpAny _ _ _ _ _ _
  obtain ⟨ha,hha⟩:∃ z:Heap,z = (h.push { cls:=.type "tuple",data:=.seq rest.toArray }).push { cls:=.ref C,data:=.fields #[.ref h.objs.size,.none,.none,.none,.bool false,.none] }:=⟨_,rfl⟩
  have up:∀ b o,h.get? b = some o->ha.get? b = some o:=λb o e=>by rw [hha]; exact Heap.get?_push_of_some _ (Heap.get?_push_of_some _ e)
  have hge:ha.get? (h.objs.size + 1) = some { cls:=.ref C,data:=.fields #[.ref h.objs.size,.none,.none,.none,.bool false,.none] }:=by rw [hha]; exact Heap.get?_push_at (by simp only [Heap.size_push]) rfl
  have hgt:ha.get? h.objs.size = some { cls:=.type "tuple",data:=.seq rest.toArray }:=by rw [hha]; exact Heap.get?_push_of_some _ (Heap.get?_push_at rfl rfl)
  show wpAny _ _ _ _ _ ⟨(h.push { cls:=.type "tuple",data:=.seq rest.toArray }).push { cls:=.ref C,data:=.fields #[.ref h.objs.size,.none,.none,.none,.bool false,.none] },g,d,t,os⟩
  rw [<- hha]
  have hcC:(Value.ref C :: bm).contains (.ref C) = true:=by simp
  have T₁:=T.keeps up
  have hC₁:=up _ _ hC
  have hn₁:ha.Ns N mN:=let ⟨o,es,ep,e,r⟩:=hn; ⟨o,es,ep,up _ _ e,r⟩
  unfold isInstance
  repeat (first | with_reducible refine wpAny_loadPart_at hge ?_ | (with_reducible refine wpAny_isSubtype_exc hC₁ ?_; rw [hcC]) | wp_step)
  show wpAny _ _ (typeLookup (.ref C) _) _ _ _
  refine wpAny_typeLookup_tail hC₁ hn₁ T₁ F.mroIs F.init.lookup ?_
  rw [hi]
  refine wpAny_holding (wpAny_bind ?_)
  unfold bindSpecial
  refine wpAny_bind (wpAny_typeOf (T:="function") ⟨_,up _ _ hfI,hfc⟩ ?_)
  rw [if_pos (by decide)]
  refine wpAny_pure (wpAny_bind (wpAny_mono (hq ha (h.objs.size + 1) (Nat.le_succ _) ⟨up,Heap.get?_none_of_le (Nat.le_succ _),h.objs.size,hge,Heap.get?_none_of_le (Nat.le_refl _),hgt⟩) (λr s' hr=>?_) λ_ _ x=>x))
  obtain ⟨rfl,hQ⟩:=hr
  wp_walk
  exact hQ
end
def drop1 (H:Hp) (e:Addr):Hp:=λb=>if b = e then none else H b
theorem zj0 {H:Hp} {e b:Addr} (h:b ≠ e):drop1 H e b = H b:=if_neg h
theorem zt0 {H:Hp} {e:Addr}:drop1 H e e = none:=if_pos rfl
theorem ys8 {H:Hp} {e b:Addr} {o:HO} (h:drop1 H e b = some o):b ≠ e/\H b = some o:=by
  by_cases z:b = e
  · subst z; rw [zt0] at h; cases h
  · rw [zj0 z] at h; exact ⟨z,h⟩
section
variable {P:Program} {w:World} {fs ex:List Addr} {H H':Hp} {h h':Heap} {e:Addr} {φ:Heap->Prop}
theorem HOk.drop1 (ok:HOk P w H h) (he:H e = some (.ext φ)):HOk P w (drop1 H e) h:=λb o q=>by
  obtain ⟨nb,q'⟩:=ys8 q
  refine (ok b o q').stay (λ_ _ _ z=>z) (λc z=>?_) λc xs z=>?_
  · rw [zj0 (λy=>by rw [y,he] at z; cases z)]; exact z
  · rw [zj0 (λy=>by rw [y,he] at z; cases z)]; exact z
theorem Un.drop1 (u:Un fs ex H H' h h') (he:H' e = some (.ext φ)):Un fs ex H (drop1 H' e) h h' where
  keep:=u.keep
  slot:=u.slot
  free:=λb o q n x=>by
    have z:=u.free b o q n x
    by_cases y:b = e
    · rw [y]; exact zt0
    · rw [zj0 y]; exact z
  there:=u.there
  tups:=λb xs q=>by
    have z:=u.tups b xs q
    rw [zj0 (λy=>by rw [y,he] at z; cases z)]; exact z
  frzs:=λb o v q=>by
    have z:=u.frzs b o v q
    rw [zj0 (λy=>by rw [y,he] at z; cases z)]; exact z
  tbls:=λb ps q=>by
    obtain ⟨m,z⟩:=u.tbls b ps q
    exact ⟨m,by rw [zj0 (λy=>by rw [y,he] at z; cases z)]; exact z⟩
end
section
variable {P:Program} {w:World} {K:W.Frag} {mg:Str->Option Value} {base:Heap} {N:List Str} {qual:Str} {scope:Scope} {f:Addr} {cd:Value} {A:Around} {outer:List Env} {s0:Shared} {H0:Hp} {E:XK}
theorem xj8 {pins:List (Addr × Obj)} {σ:St} {H2 H4:Hp} {s2 s4:Shared} {e C:Addr} {oe:Obj} {vs:Array Value} {a0:Value} (I:Inv (cxOf (CXe P w) P w K mg base N qual scope f cd A outer s0 H0 E) pins σ H2 s2)
    (un:Un (frs (cxOf (CXe P w) P w K mg base N qual scope f cd A outer s0 H0 E).stack) [] H2 H4 s2.heap s4.heap) (ok:HOk P w H4 s4.heap) (os:s4.os = s2.os) (bare:AllBare s4.gens) (new:s2.heap.get? e = none) (he:s4.heap.get? e = some oe) (hcls:oe.cls = .ref C) (hd:oe.data = .fields vs) (h1:vs[1]? = some .none) (h0:vs[0]? = some a0) (hn:H4 e = none) (q:E (.ref C) oe.dict H4) :
    (cxOf (CXe P w) P w K mg base N qual scope f cd A outer s0 H0 E).xe (.ref e) s4:=by
  have no:∀ b ∈ ([]:List Addr),(b ∈ (cxOf (CXe P w) P w K mg base N qual scope f cd A outer s0 H0 E).ex\/(cxOf (CXe P w) P w K mg base N qual scope f cd A outer s0 H0 E).s₀.heap.objs.size<=b)/\b ≠ (cxOf (CXe P w) P w K mg base N qual scope f cd A outer s0 H0 E).env.locals/\(∀ x c,(cxOf (CXe P w) P w K mg base N qual scope f cd A outer s0 H0 E).env.cells.lookup x = some c->c ≠ b)/\∀ p ∈ (cxOf (CXe P w) P w K mg base N qual scope f cd A outer s0 H0 E).pn ++ pins,p.1 ≠ b:=λb z=>by cases z
  have I4:=I.call' (s':=s4) (ch:=[]) os un ok bare no
  have hin:∀ env ∈ (cxOf (CXe P w) P w K mg base N qual scope f cd A outer s0 H0 E).stack,∀ b,env.frame = some b->b ∈ e :: frs (cxOf (CXe P w) P w K mg base N qual scope f cd A outer s0 H0 E).stack:=λenv hh b hb=>.tail _ (List.mem_filterMap.mpr ⟨env,hh,hb⟩)
  have hl:s4.heap.FunFrames (W.hideAll s4.heap (e :: frs (cxOf (CXe P w) P w K mg base N qual scope f cd A outer s0 H0 E).stack)) (cxOf (CXe P w) P w K mg base N qual scope f cd A outer s0 H0 E).stack:=W.funFrames_hide I4.stack hin
  have hB:(W.hideAll s4.heap (e :: frs (cxOf (CXe P w) P w K mg base N qual scope f cd A outer s0 H0 E).stack)).get? e = none:=W.hideAll_none _ (.head _)
  generalize hBB:W.hideAll s4.heap (e :: frs (cxOf (CXe P w) P w K mg base N qual scope f cd A outer s0 H0 E).stack) = B at hl hB
  have fb0:FlyB B (cxOf (CXe P w) P w K mg base N qual scope f cd A outer s0 H0 E).stack H4 s2.heap s4.heap:=λb o eo c=>by
    rw [<- hBB]
    refine W.hideAll_get _ eo λz=>?_
    rcases List.mem_cons.mp z with z | z
    · subst z
      rcases c with c | ⟨⟨o₀,c⟩,_⟩
      · exact c hn
      · rw [new] at c; cases c
    · rcases c with c | ⟨_,nb⟩
      · exact c (I4.stkFree b z)
      · exact nb z
  have hkb:B.StaysIn s4.heap:=λb o z=>W.of_hideAll _ (by rw [hBB]; exact z)
  refine wpAny_mono (zn4 (zs3 _ _) (wpAny_leaving_firstW (a0:=a0) (Q:=λ_ s5=>∃ h5,s5 = { s4 with heap:=h5 }/\Heap.FlyingW B outer e (.ref C) a0 h5/\s4.heap.UpToSlots h5) (E:=λ_ _=>False) I4.ok.frames hl rfl he hkb hB hd h1 h0 λh5 hL=>?_)) (λ_ s5 z=>?_) (λ_ _ z=>z.1.elim)
  · obtain ⟨k1,⟨_,_,k2⟩,k3,k4⟩:=hL
    rw [hcls] at k3
    exact ⟨h5,rfl,⟨k1,hB,k2,k3⟩,k4⟩
  obtain ⟨⟨h5,rfl,fly,us⟩,dk⟩:=z
  obtain ⟨un5,ok5,fb5⟩:=yg8 un ok fb0 hl fly.1 us
  have I5:=I.call (h':=h5) (g':=s4.gens) (d':=s4.drawn) (t':=s4.toks) (ch:=[]) un5 ok5 bare (λb z=>by cases z)
  have hdp:∀ o,h5.get? e = some o->o.dict = oe.dict:=λo ho=>by
    obtain ⟨o1,e1,d1⟩:=dk.2 e o (Heap.lt_size he) ho
    rw [show s4.heap.get? e = some o1 from e1] at he
    cases he
    exact d1
  exact ⟨e,C,a0,H4,B,oe.dict,rfl,os.trans I.os,bare,I5.base,ok5,fly,yf1 I fb5,hdp,q⟩
end
section
variable {M:Model} {A:Around} {E:Value->Shared->Prop} {env:Env}
variable {nm q:Str} {C N:Addr} {bs bm:List Value} {hdct:Bool} {sn:List Str} {sub:List Value} {ab:Bool} {col:Option Bool} {dd:Option Addr} {k0 k1 k2 k3 k5:Option Value} {newId:String}
theorem ys6 {s:Shared} {x:Sem Value} {Q:Flow->Shared->Prop} (hbase:bm.contains (.type "BaseException") = true) (hh:A.handled = none)
    (h:wpAny M A x (λv s₁=>∃ (e t:Addr) (dp:Option Addr),v = .ref e/\s₁.heap.get? C = some (excClassObj nm q C N bs bm hdct sn sub ab col dd k0 k1 k2 k3 k5 newId) /\
      s₁.heap.get? e = some { cls:=.ref C,dict:=dp,data:=.fields #[.ref t,.none,.none,.none,.bool false,.none] }/\E (.ref e) s₁) E s) :
    wpAny M A (raiseStmt env (some x) none) Q E s:=by
  have hcB:(Value.ref C :: bm).contains (.type "BaseException") = true:=by rw [List.contains_cons,hbase,Bool.or_true]
  unfold raiseStmt
  refine wpAny_bind (wpAny_mono h (λv s₁ h₁=>?_) λ_ _ x=>x)
  obtain ⟨e,t,dp,rfl,hC,he,hE⟩:=h₁
  obtain ⟨hp,g,d,tk,os⟩:=s₁
  repeat (first | with_reducible refine wpAny_loadPart_at he ?_ | with_reducible refine wpAny_loadPart_at hC ?_ | (with_reducible refine wpAny_isSubtype_exc hC ?_; rw [hcB]) | wp_step)
  exact wpAny_raiseNew_none hh hE
end
structure OwnI (x:Str) (C:Addr) (bmB:List Value) (newId:String) (fI:Addr) (mg:Str->Option Value) (h:Heap):Prop where
  bound:mg x = some (.ref C)
  obj:∃ bm N nm q bs hdct sn sub ab col dd k0 k1 k2 k3 k5 mN,h.get? C = some (excClassObj nm q C N bs bm hdct sn sub ab col dd k0 k1 k2 k3 k5 newId)/\h.Ns N mN/\mN "__init__" = some (.ref fI)/\OwnTail h bmB bm
  fn:∃ oI,h.get? fI = some oI/\oI.cls = .type "function"
def spEI (C:Addr) (f:Str):Sp:=λargs H Q _=>∃ (e:Addr) (x:V),args = [.ref e,x]/\H e = some (ExcN e C none)/\∀ dx,H dx = none->Q .non (upd (upd H e (ExcN e C (some dx))) dx (.xd [(f,x)]))
theorem xa8 {H:Hp} {e dx:Addr} {a b o:HO} (he:H e = none) (hd:dx ≠ e):drop1 (upd (upd (upd H e a) e b) dx o) e = upd H dx o:=by
  funext c
  by_cases h:c = e
  · subst h
    rw [zt0,za7 (Ne.symm hd),he]
  · rw [zj0 h]
    by_cases h2:c = dx
    · subst h2; rw [upd_same,upd_same]
    · rw [za7 h2,za7 h2,za7 h,za7 h]
section
variable {P:Program} {w:World} {K:W.Frag} {mg:Str->Option Value} {base:Heap} {N:List Str} {qual:Str} {scope:Scope} {f:Addr} {cd:Value} {A:Around} {outer:List Env} {s0:Shared} {H0:Hp} {E:XK}
def xi8 (E:XK) (C:Addr) (f:Str) (ta:TA):TS:=λ_ σ H=>ta σ H λvs H1=>∃ x,vs = [x]/\∀ dx,H1 dx = none->E (.ref C) (some dx) (upd H1 dx (.xd [(f,x)]))
theorem yv9 {k:Nat} {x at' pn:Str} {C fI:Addr} {fdI:FuncData} {Bn newId initId:String} {bm:List Value} {arg:Expr} {ta:TA} {np cpos pos:Pos} (O:OwnI x C bm newId fI mg base) (FB:ExcBaseFacts Bn newId initId bm)
    (G:FnOk P w K mg base CX0 k fI fdI ["self",pn] (spEI C at')) (hb:zi3 K fdI ["self",pn] []) (hkp:W.keepIn K (.ref C) = true)
    (hr:Room (k + 1) (cxOf (CXe P w) P w K mg base N qual scope f cd A outer s0 H0 E).A) (hg:Gl (cxOf (CXe P w) P w K mg base N qual scope f cd A outer s0 H0 E) x) (ha:PA (cxOf (CXe P w) P w K mg base N qual scope f cd A outer s0 H0 E) [arg] ta) (hdb:(x == ("__debug__" : Str)) = false:=by decide)
    (hs:starEach [arg] (cxOf (CXe P w) P w K mg base N qual scope f cd A outer s0 H0 E).env = (false,eval arg (cxOf (CXe P w) P w K mg base N qual scope f cd A outer s0 H0 E).env) :: starEach [] (cxOf (CXe P w) P w K mg base N qual scope f cd A outer s0 H0 E).env:=by rfl) :
    PS (cxOf (CXe P w) P w K mg base N qual scope f cd A outer s0 H0 E) (.Raise (some (.Call (.Name x np) [arg] [] cpos)) none pos) (xi8 E C at' ta):=by
  intro pins s σ H D I h
  obtain ⟨tl,Nn,nm,q,bs,hdct,sn,sub,ab,col,dd,k0,k1,k2,k3,k5,mN,hC,hNn,hi,T⟩:=O.obj
  rw [arm_exec_Raise]
  simp only [evalOpt,Option.map]
  refine wpAny_bind (wpAny_standAt (ys6 (C:=C) (nm:=nm) (q:=q) (N:=Nn) (bs:=bs) (bm:=tl) (hdct:=hdct) (sn:=sn) (sub:=sub) (ab:=ab) (col:=col) (dd:=dd) (k0:=k0) (k1:=k1) (k2:=k2) (k3:=k3) (k5:=k5) (newId:=newId) (T.hasType FB.hasBase) (I.ok.hd rfl) ?_))
  refine wpAny_bind (wpAny_mono (Q:=λv s₁=>∃ (e t:Addr) (dp:Option Addr),v = .ref e/\s₁.heap.get? C = some (excClassObj nm q C Nn bs tl hdct sn sub ab col dd k0 k1 k2 k3 k5 newId) /\
      s₁.heap.get? e = some { cls:=.ref C,dict:=dp,data:=.fields #[.ref t,.none,.none,.none,.bool false,.none] }/\(cxOf (CXe P w) P w K mg base N qual scope f cd A outer s0 H0 E).xe (.ref e) s₁) ?_ (λv s₃ h₃=>wpAny_bind (wpAny_standAt (wpAny_pure h₃))) λ_ _ x=>x)
  refine wpAny_Call_Name_kw (zk2 I hg O.bound ?_ hdb)
  refine W.callWith_K (h₀:=(cxOf (CXe P w) P w K mg base N qual scope f cd A outer s0 H0 E).base) I.ok.mod.kin hkp (thn (ha cpos pins s σ H _ I h) λus s1 ⟨vs,H1,I1,r,xv,ev,hE⟩=>⟨I1.kIn,?_⟩) hs rfl
  subst ev
  obtain ⟨u,rfl,ru⟩:=zt6 r
  obtain ⟨oI,hfI,hfc⟩:=O.fn
  have bk1:=I1.bk
  obtain ⟨hh1,g1,dr1,t1,os1⟩:=s1
  have hN1:hh1.Ns Nn mN:=let ⟨o,es,ep,e,r⟩:=hNn; ⟨o,es,ep,bk1 _ _ e,r⟩
  refine xg6 FB (T.keeps bk1) (bk1 _ _ hC) hN1 hi (bk1 _ _ hfI) hfc (by show 1<=sizeLine; exact Nat.le_of_lt (zb5 (by decide))) λh3 e hle hm=>?_
  obtain ⟨tt,hte,_,_⟩:=hm.there
  have he1:H1 e = none:=I1.hok.fresh hle
  have I3:Inv (cxOf (CXe P w) P w K mg base N qual scope f cd A outer s0 H0 E) pins σ (upd H1 e (ExcN e C none)) ⟨h3,g1,dr1,t1,os1⟩:=
    I1.laid (t':=t1) hm.keeps hle ⟨⟨tt,hte⟩,⟨_,hte⟩,λk1 k2 ⟨tz,z⟩ kk=>⟨tz,kk _ z⟩⟩
  have r2:Vals [V.ref e,xv] [Value.ref e,u]:=.cons rfl (.cons ru .nil)
  have hsp:spEI C at' [V.ref e,xv] (upd H1 e (ExcN e C none)) (λv H'=>v = .non/\∃ dx,H1 dx = none/\dx ≠ e/\H' = upd (upd (upd H1 e (ExcN e C none)) e (ExcN e C (some dx))) dx (.xd [(at',xv)])) E0:=by
    refine ⟨e,xv,rfl,upd_same,λdx hdx=>?_⟩
    have nd:dx ≠ e:=λz=>by rw [z,upd_same] at hdx; cases hdx
    rw [za7 nd] at hdx
    exact ⟨rfl,dx,hdx,nd,rfl⟩
  refine wpAny_call (codeAny_mono (G.run _ (cxOf (CXe P w) P w K mg base N qual scope f cd A outer s0 H0 E).stack _ _ ⟨[.ref e,u],[]⟩ [.ref e,u] _ _ E0 (hr.make C [u] []) (I3.env0.make C [u] []) (hb _ [.ref e,u] I3.kIn rfl) r2 hsp) λres s4 hq=>?_)
  cases res with
  | error ev=>exact hq.elim
  | ok fl=>
    cases fl with
    | next=>exact hq.elim
    | brk=>exact hq.elim
    | cont=>exact hq.elim
    | ret uv=>
      obtain ⟨v,H',os4,bare4,un4,ok4,rv,rfl,dx,hdx,ndx,rfl⟩:=hq
      have hev:(upd (upd (upd H1 e (ExcN e C none)) e (ExcN e C (some dx))) dx (.xd [(at',xv)])) e = some (ExcN e C (some dx)):=by rw [za7 (Ne.symm ndx),upd_same]
      obtain ⟨⟨t4,h4⟩,_⟩:=(show zd7 P w _ s4.heap e (.ext λh=>∃ t:Addr,h.get? e = some { cls:=.ref C,dict:=some dx,data:=.fields #[.ref t,.none,.none,.none,.bool false,.none] }) from ok4 e _ hev)
      have unA:=(Un.laid (fs:=frs (cxOf (CXe P w) P w K mg base N qual scope f cd A outer s0 H0 E).stack) (ex:=[]) (o:=ExcN e C none) hm.keeps hle he1).trans un4
      have unB:=Un.drop1 unA hev
      have okB:=HOk.drop1 ok4 hev
      rw [xa8 he1 ndx] at unB okB
      have I4:=I1.call' (s':=s4) (ch:=[]) os4 unB okB bare4 (λb z=>by cases z)
      exact ⟨rv,e,t4,some dx,rfl,I4.bk _ _ hC,h4,xj8 I1 unB okB os4 bare4 hm.new h4 rfl rfl rfl rfl (by rw [za7 (Ne.symm ndx)]; exact he1) (hE dx hdx)⟩
end
end L2
namespace L2
open PySem PySem.Spec PyProof.Rows
theorem zz3 {M:Model} {A:Around} {E:Value->Shared->Prop} {nm q nm' q':Str} {C N C' N':Addr} {bs bm bs' bm':List Value} {hdct hdct':Bool} {sn sn':List Str} {sub sub':List Value} {ab ab':Bool} {col col':Option Bool} {dd dd':Option Addr} {k0 k1 k2 k3 k5 j0 j1 j2 j3 j5:Option Value} {newId newId':String} {h:Heap} {g:Array GenState} {d:Drawn} {t:Nat} {os:OsState} {e:Addr} {oe:Obj} {Q:Bool->Shared->Prop}
    (hC:h.get? C = some (excClassObj nm q C N bs bm hdct sn sub ab col dd k0 k1 k2 k3 k5 newId)) (hM:h.get? C' = some (excClassObj nm' q' C' N' bs' bm' hdct' sn' sub' ab' col' dd' j0 j1 j2 j3 j5 newId')) (he:h.get? e = some oe) (hc:oe.cls = .ref C)
    (hb:bm'.contains (.type "BaseException") = true) (hs:(Value.ref C :: bm).contains (.ref C') = true) (q:Q true ⟨h,g,d,t,os⟩):wpAny M A (excMatches (.ref e) (.ref C')) Q E ⟨h,g,d,t,os⟩:=by
  have hcB:(Value.ref C' :: bm').contains (.type "BaseException") = true:=by rw [List.contains_cons,hb,Bool.or_true]
  obtain ⟨oc,od,oda,osl⟩:=oe
  dsimp only at hc
  subst hc
  have tt:isSubtype (Value.type "type") (Value.type "tuple") = pure false:=by kernel_rfl
  unfold excMatches
  repeat (first | with_reducible refine wpAny_loadPart_at he ?_ | with_reducible refine wpAny_loadPart_at hC ?_ | with_reducible refine wpAny_loadPart_at hM ?_ | (with_reducible refine wpAny_isSubtype_exc hM ?_; rw [hcB]) | (with_reducible refine wpAny_isSubtype_exc hC ?_; rw [hs]) | wp_step)
  exact q
section
variable {X:Cx} {pins:List (Addr × Obj)} {st:Stmt} {rest:List Stmt} {t u:TS} {pos:Pos}
def PSa (X:Cx) (pins:List (Addr × Obj)) (st:Stmt) (t:TS):Prop:=∀ (s:Shared) (σ:St) (H:Hp) (D:Ends),Inv X pins σ H s->t D σ H->wpAny (model X.prog X.w) X.A (exec st X.env) (SP X pins D) X.xe s
def PSsA (X:Cx) (pins:List (Addr × Obj)) (st:List Stmt) (t:TS):Prop:=∀ (s:Shared) (σ:St) (H:Hp) (D:Ends),Inv X pins σ H s->t D σ H->wpAny (model X.prog X.w) X.A (execs st X.env) (SP X pins D) X.xe s
theorem zo0 {b:List Stmt} (h:PSs X b t):PSsA X pins b t:=λs σ H D I q=>h pins s σ H D I q
theorem zh9 (h1:PSa X pins st t) (h2:PSsA X pins rest u):PSsA X pins (st :: rest) (tSeq t u):=by
  intro s σ H D I h
  refine wpAny_execs_cons (thn (h1 s σ H { D with nx:=u D } I h) λf s1 q=>?_)
  cases f with
  | next=>
    obtain ⟨σ',H',I',q⟩:=q
    exact h2 s1 σ' H' D I' q
  | ret v=>exact q
  | brk=>exact q
  | cont=>exact q
theorem yv8 {c:Expr} {a b:List Stmt} {tc:TT} (hc:PT X c tc) (ha:PSsA X pins a t) (hb:PSsA X pins b u):PSa X pins (.If c a b pos) (tIfS tc t u):=by
  intro s σ H D I h
  refine wpAny_If (thn (hc pins s σ H _ I h) λd s1 ⟨H1,I1,q1⟩=>?_)
  cases d with
  | true=>exact ha s1 σ H1 D I1 q1
  | false=>exact hb s1 σ H1 D I1 q1
def tAt (te:St->TE):TE:=λσ H Q=>te σ σ H Q
theorem yd9 {i:Nat} {x:Str} {e:Expr} {te:St->TE} {pos':Pos} (hN:X.N.Nodup) (hi:X.N[i]? = some x) (hx:Loc X.env.scope x) (he:∀ σ,PEa X pins σ e (te σ)) (hs:swapsWith e (some (.Name x pos')) pos.line X.env = pure false:=by rfl) (hf:X.fn x = true\/X.env.scope.names.lookup x = some .local:=by first | exact .inl rfl | exact .inr rfl | assumption) :
    PSa X pins (.Assign [.Name x pos'] e pos) (tAsg (tAt te) (ye9 i)):=by
  intro s σ H D I h
  refine wpAny_Assign_Name (thn (he σ s H _ I h) λv s1 ⟨y,H1,I1,r1,q1⟩=>?_) hs
  exact zi4 I1 hN hi hx r1 (λs2 I2=>⟨_,H1,I2,q1⟩) hf
end
structure SubE (C M:Addr) (h:Heap):Prop where
  obj:∃ bm N nm q bs hdct sn sub ab col dd k0 k1 k2 k3 k5 newId,h.get? C = some (excClassObj nm q C N bs bm hdct sn sub ab col dd k0 k1 k2 k3 k5 newId)/\(Value.ref C :: bm).contains (.ref M) = true
theorem SubE.keeps {C M:Addr} {h h':Heap} (O:SubE C M h) (hk:∀ b o,h.get? b = some o->h'.get? b = some o):∃ bm N nm q bs hdct sn sub ab col dd k0 k1 k2 k3 k5 newId,h'.get? C = some (excClassObj nm q C N bs bm hdct sn sub ab col dd k0 k1 k2 k3 k5 newId)/\(Value.ref C :: bm).contains (.ref M) = true:=by
  obtain ⟨bm,N,nm,q,bs,hdct,sn,sub,ab,col,dd,k0,k1,k2,k3,k5,newId,hC,T⟩:=O
  exact ⟨bm,N,nm,q,bs,hdct,sn,sub,ab,col,dd,k0,k1,k2,k3,k5,newId,hk _ _ hC,T⟩
def xt9 (sub:Addr->Prop) (tb:(St->XK)->TS) (th to:TS) (i:Nat):TS:=λD σ H=>
  tb (λσ1 c dp H'=>∃ C,c = .ref C/\sub C/\∀ e,H' e = none->th { nx:=λσ' H2=>D.nx (σ'.set i none) H2,rt:=D.rt,bk:=λσ' H2=>D.bk (σ'.set i none) H2,ct:=λσ' H2=>D.ct (σ'.set i none) H2 } (σ1.set i (some (.ref e))) (upd H' e (ExcO e C dp))) { D with nx:=to D } σ H
theorem xk3 {X:Cx} {body orelse:List Stmt} {b₀:Stmt} {bs:List Stmt} {n x:Str} {i:Nat} {M:Addr} {Bn newId initId:String} {bm:List Value} {sub:Addr->Prop} {tb:(St->XK)->TS} {th to:TS} {np hp pos:Pos}
    (hst:X.stack = X.env :: X.outer) (hex:X.ex = []) (hfr:X.env.frame = some X.env.locals)
    (hbody:∀ (xe:Value->Shared->Prop) (E:St->XK) (pins:List (Addr × Obj)),(∀ σ,xo5 (CXe X.prog X.w) (cxT X xe) pins σ (E σ))->PSsA (cxT X xe) pins body (tb E))
    (O:OwnB x M bm newId X.mg X.base) (FB:ExcBaseFacts Bn newId initId bm) (hsub:∀ C,sub C->SubE C M X.base) (hgl:Gl X x) (hN:X.N.Nodup) (hi:X.N[i]? = some n) (hloc:X.env.scope.names.lookup n = some .local)
    (hs:∀ e:Addr,PSs (cxH X e) (b₀ :: bs) th) (ho:PSs X orelse to) (hdb:(x == ("__debug__" : Str)) = false:=by decide) :
    PS X (.Try body [.ExceptHandler (some (.Name x np)) (some n) (b₀ :: bs) hp] orelse [] pos) (xt9 sub tb th to i):=by
  intro pins s σ H D I h
  refine wpAny_Try_except (thn (hbody (λev s₁=>wpAny (model X.prog X.w) X.A (noteFrame ev X.env) (λ_ s₂=>wpAny (model X.prog X.w) X.A (setFlight ev none) (λ_ s₃=>wpAny (model X.prog X.w) X.A (handleBy ev X.env [.ExceptHandler (some (.Name x np)) (some n) (b₀ :: bs) hp]) (SP X pins D) X.xe s₃) X.xe s₂) X.xe s₁) _ pins ?_ s σ H _ (I.toT _) h) λf s1 sp=>?_)
  · intro σ1
    rintro H1 s1 ev s' I1t ⟨e,C,a0,H',B,dp,rfl,os,bare,un,ok,fly,fb,hdp,C2,ec,hsb,q⟩
    have I1:=I1t.ofT
    obtain rfl:C = C2:=Value.ref.inj ec
    obtain ⟨oe,vs,Tt,oT,ts,he,⟨hcls,_⟩,hdt,_⟩:=id fly.2.2.2
    have hne:H' e = none:=by
      cases z:H' e with
      | none=>rfl
      | some u=>
        have:=fb e oe he (.inl (by rw [z]; simp))
        rw [fly.2.1] at this; cases this
    have e0:s1.heap.get? e = none:=by
      cases z:s1.heap.get? e with
      | none=>rfl
      | some o=>
        by_cases hb:e ∈ frs X.stack
        · obtain ⟨_,o',z',d⟩:=fly.2.2.1.mem hb
          rw [he] at z'; cases z'
          exact absurd hdt (d vs)
        · have:=fb e oe he (.inr ⟨⟨o,z⟩,hb⟩)
          rw [fly.2.1] at this; cases this
    have fly':Heap.FlyingW B (X.env :: X.outer) e (.ref C) a0 s'.heap:=by
      have z:Heap.FlyingW B X.stack e (.ref C) a0 s'.heap:=fly
      rw [hst] at z
      exact z
    have frames':X.A.frames = some (X.env :: X.outer):=by rw [<- hst]; exact I1.ok.frames
    have un':Un (frs (X.env :: X.outer)) [] H1 H' s1.heap s'.heap:=by
      have z:Un (frs X.stack) [] H1 H' s1.heap s'.heap:=un
      rw [hst] at z
      exact z
    have fb':FlyB B (X.env :: X.outer) H' s1.heap s'.heap:=by
      have z:FlyB B X.stack H' s1.heap s'.heap:=fb
      rw [hst] at z
      exact z
    refine wpAny_mono (zn4 (yz3 _ _) (wpAny_looks_onW (Q:=λ_ s2=>∃ h4,s2 = { s' with heap:=h4 }/\Heap.HeldW B (X.env :: X.outer) e (.ref C) a0 X.env.locals h4/\s'.heap.UpToSlots h4) (E:=λ_ _=>False) frames' hfr fly' λh4 held us4=>⟨h4,rfl,held,us4⟩)) (λ_ s2 z=>?_) (λ_ _ z=>z.1.elim)
    obtain ⟨⟨h4,rfl,held,us4⟩,dk4⟩:=z
    refine wpAny_mono (zn4 (zm5 _ _) (wpAny_landsW (s:={ s' with heap:=h4 }) (Q:=λ_ s2=>∃ h5,s2 = { s' with heap:=h5 }/\Heap.FlyingW B (X.env :: X.outer) e (.ref C) a0 h5/\h4.UpToSlots h5) (E:=λ_ _=>False) held λh5 fly5 us5=>⟨h5,rfl,fly5,us5⟩)) (λ_ s2 z=>?_) (λ_ _ z=>z.1.elim)
    obtain ⟨⟨h5,rfl,fly5,us5⟩,dk5⟩:=z
    obtain ⟨un5,ok5,fb5⟩:=yg8 un' ok fb' fly'.2.2.1 fly5.1 (us4.trans us5)
    have no:∀ b ∈ ([]:List Addr),(b ∈ X.ex\/X.s₀.heap.objs.size<=b)/\b ≠ X.env.locals/\(∀ x c,X.env.cells.lookup x = some c->c ≠ b)/\∀ p ∈ X.pn ++ pins,p.1 ≠ b:=λb z=>by cases z
    have I5:Inv X pins σ1 H' { s' with heap:=h5 }:=I1.call' (s':={ s' with heap:=h5 }) os (by rw [hst]; exact un5) ok5 bare no
    have I5h:=I5.toH e
    refine wpAny_handleBy_cons (codeAny_handlers_test (zk2 (X:=cxH X e) I5h hgl O.bound ?_ hdb)) (by intro z; cases z)
    obtain ⟨tl,Nn,nm,qq,bss,hdct,sn,sub,ab,col,dd,k0,k1,k2,k3,k5,hC,T⟩:=(O.keeps I5.bk).obj
    obtain ⟨ob,hob,hobc⟩:=fly5.there
    obtain ⟨tl',Nn',nm',qq',bss',hdct',sn',sub',ab',col',dd',k0',k1',k2',k3',k5',newId',hC',hct⟩:=(hsub C hsb).keeps I5.bk
    refine zz3 hC' hC hob hobc (T.hasType FB.hasBase) hct ?_
    refine codeAny_handlers_suite_as ?_
    refine wpAny_mono (zn4 (zm5 _ _) (lands_againW (s:={ s' with heap:=h5 }) (Q:=λ_ s2=>∃ h6,s2 = { s' with heap:=h6 }/\Heap.FlyingW B (X.env :: X.outer) e (.ref C) a0 h6/\h5.UpToSlots h6) (E:=λ_ _=>False) fly5 λh6 fly6 us6=>⟨h6,rfl,fly6,us6⟩)) (λ_ s2 z=>?_) (λ_ _ z=>z.1.elim)
    obtain ⟨⟨h6,rfl,fly6,us6⟩,dk6⟩:=z
    have hd6:∀ o,h6.get? e = some o->o.dict = dp:=λo ho=>by
      obtain ⟨o1,e1,d1⟩:=((dk4.trans dk5).trans dk6).2 e o (Heap.lt_size he) ho
      rw [d1]
      exact hdp o1 e1
    obtain ⟨un6,ok6,fb6⟩:=yg8 un5 ok5 fb5 fly5.2.2.1 fly6.1 us6
    have I6:Inv X pins σ1 H' { s' with heap:=h6 }:=I1.call' (s':={ s' with heap:=h6 }) os (by rw [hst]; exact un6) ok6 bare no
    obtain ⟨oe6,vs6,_,_,_,he6,⟨hcls6,_⟩,hdt6,_⟩:=id fly6.2.2.2
    have s0e:X.s₀.heap.get? e = none:=by
      cases z:X.s₀.heap.get? e with
      | none=>rfl
      | some o=>
        obtain ⟨o',z'⟩:=I1.base.there e o z (λy=>by rw [hex] at y; cases y)
        rw [e0] at z'; cases z'
    have I6':Inv X pins σ1 (upd H' e (ExcO e C dp)) { s' with heap:=h6 }:=by
      refine I6.track s0e (λz=>?_) (λy c hy z=>?_) (λp hpp z=>?_) hne ⟨⟨oe6,vs6,he6,hcls6,hd6 _ he6,hdt6⟩,⟨oe6,he6⟩,λh1 h2 y k=>?_⟩
      · obtain ⟨m,⟨o,_,_,ho,_⟩,_⟩:=I1.loc
        rw [<- z,e0] at ho; cases ho
      · obtain ⟨v,o,ho,_⟩:=I1.cell y c hy
        rw [z,e0] at ho; cases ho
      · have:=(I1.pin p hpp).1
        rw [z,e0] at this; cases this
      · obtain ⟨o,vs',y1,y2,y3⟩:=y
        exact ⟨o,vs',k o y1,y2,y3⟩
    refine zi4 (X:=cxH X e) (v:=.ref e) (I6'.toH e) hN hi (Or.inl hloc) rfl (λs7 I7=>?_) (.inr hloc)
    refine wpAny_mono ((hs e) pins s7 _ _ _ I7 (q e hne)) (λf s8 sp=>?_) (λ_ _ z=>z.elim)
    cases f with
    | next=>obtain ⟨σ',H2,I8,q8⟩:=sp; exact gone (I8.ofH I.ok.hd) hN hi hloc λs9 I9=>⟨_,H2,I9,q8⟩
    | brk=>obtain ⟨σ',H2,I8,q8⟩:=sp; exact gone (I8.ofH I.ok.hd) hN hi hloc λs9 I9=>⟨_,H2,I9,q8⟩
    | cont=>obtain ⟨σ',H2,I8,q8⟩:=sp; exact gone (I8.ofH I.ok.hd) hN hi hloc λs9 I9=>⟨_,H2,I9,q8⟩
    | ret u=>obtain ⟨v,σ',H2,I8,r8,q8⟩:=sp; exact gone (I8.ofH I.ok.hd) hN hi hloc λs9 I9=>⟨v,_,H2,I9,r8,q8⟩
  · cases f with
    | next=>
      obtain ⟨σ',H',I',q'⟩:=sp
      exact ho pins s1 σ' H' D I'.ofT q'
    | brk=>obtain ⟨σ',H',I',q'⟩:=sp; exact ⟨σ',H',I'.ofT,q'⟩
    | cont=>obtain ⟨σ',H',I',q'⟩:=sp; exact ⟨σ',H',I'.ofT,q'⟩
    | ret u=>obtain ⟨v,σ',H',I',r',q'⟩:=sp; exact ⟨v,σ',H',I'.ofT,r',q'⟩
section
variable {X:Cx} {pins:List (Addr × Obj)} {σ:St} {H:Hp} {s:Shared}
end
section
variable {X:Cx}
end
section
variable {X:Cx} {pins:List (Addr × Obj)} {σ:St} {H:Hp} {s:Shared} {h':Heap}
theorem Inv.turnedM {t':Nat} {fp:List Addr} (I:Inv X pins σ H s) (k:∀ b o,b ∉ fp->s.heap.get? b = some o->h'.get? b = some o) (hf:∀ b ∈ fp,FpOk X pins H b):Inv X pins σ H { s with heap:=h',toks:=t' }:=by
  have nit:∀ b u,H b = some u->b ∉ fp:=λb u e z=>by rw [(hf b z).1] at e; cases e
  have nL:X.env.locals ∉ fp:=λz=>(hf _ z).2.1 rfl
  refine I.step (g':=s.gens) (d':=s.drawn) (ch:=fp) (λb hb=>?_) (λb o _ _ hc e _=>k b o hc e) (λb o _ _ hc e _=>⟨o.slots,k b o hc e⟩) (λ_ _ _ _ n=>n)
    (λb o hc e=>⟨o,k b o hc e⟩) (λ_ _ e=>e) (λ_ _ _ e=>e) (λb ps e=>⟨#[],by rw [e]; simp⟩) (λm hm=>?_) (λb u e=>?_) I.bare
  · obtain ⟨f0,f1,f2,f3,f4,f5⟩:=hf b hb
    exact ⟨f3,f1,f4,f5⟩
  · obtain ⟨o,es,ep,ho,r⟩:=hm
    exact ⟨o,es,ep,k _ o nL ho,r⟩
  · refine (I.hok b u e).stay (λc v hc q=>k c v ?_ q) (λ_ q=>q) λ_ _ q=>q
    rcases hc with z | z
    · rw [z]; exact nit b u e
    · exact nit c _ z
end
section
variable {X:Cx}
end
section
variable {X:Cx}
end
section
variable {X:Cx}
end
section
variable {X:Cx}
theorem ym3:∀ {ys:List Str} {its:List Value},Vals (ys.map V.str) its->StrsAre its ys
  | [],_,.nil=>.nil
  | y :: r,_,.cons h t=>by
    obtain ⟨tk,rfl⟩:=(show ∃ t,_ = Value.str y t from h)
    exact .cons y tk (ym3 t)
end
section
variable {prog:Program} {w:World} {A:Around} {E:Value->Shared->Prop} {s:Shared} {T:String} {r d:Addr} {n:Nat} {P:Nat->Value->Prop} {OK:Heap->Prop}
end
section
variable {X:Cx}
end
section
variable {X:Cx}
end
section
variable {X:Cx}
end
section
variable {X:Cx} {tg:Expr}
end
section
variable {prog:Program} {w:World} {A:Around} {E:Value->Shared->Prop} {s:Shared}
theorem zn2 {it t:Addr} {i:Nat} {items:Array Value} {x:Value} {Q:Value->Shared->Prop} (st:s.heap.IsTupleIter it t i) (tu:s.heap.IsTuple t items) (ix:items[i]? = some x)
    (q:∀ h',h'.IsTupleIter it t (i + 1)->Heap.SameBut it s.heap h'->Q x { s with heap:=h' }):wpAny (model prog w) A (Builtin.SmallTypes.nextOf (.ref it)) Q E s:=by
  obtain ⟨o,eo,ec,ed⟩:=id st; obtain ⟨ol,el,_,nl,edl⟩:=tu; unfold Builtin.SmallTypes.nextOf
  refine wpAny_bind (wpAny_callSpecial?_slot (name:=Str.ofString "__next__") st.typeIs F.slot_tuple_iterator_next (wpAny_call_entry F.slot_tuple_iterator_next st.typeIs F.entry_tuple_iterator_next ?_ (F.args_tuple_iterator_next_1 _)))
  show wpAny _ _ (field (.ref it) 0 >>= _) _ _ s; refine wpAny_bind (wpAny_field eo ed (x:=.ref t) rfl ?_)
  show wpAny _ _ (if (Value.ref t == Value.none) = true then _ else _) _ _ s; rw [if_neg (show ¬ ((Value.ref t == Value.none) = true) from Bool.false_ne_true)]
  show wpAny _ _ (field (.ref it) 1 >>= _) _ _ s; refine wpAny_bind (wpAny_field eo ed (x:=.int i 0) rfl ?_)
  show wpAny _ _ (seqItems? (.ref t) >>= _) _ _ s; refine wpAny_bind (wpAny_seqItems el edl ?_); simp only [Int.toNat_natCast,ix]
  refine wpAny_bind (wpAny_setField eo ed (by simp) (wpAny_pure ⟨x,rfl,wpAny_pure (q _ ⟨_,Heap.get?_update_self _ eo (Obj.isFreed_of_fields (Obj.data_mapFields ed _)),(Obj.cls_mapFields ..).trans ec,by rw [Obj.data_mapFields ed]; simp [rawInt]⟩ (Heap.SameBut.update ..))⟩))
theorem zx3 {it t:Addr} {i:Nat} {items:Array Value} {Q:Value->Shared->Prop} (hh:A.handled = none) (st:s.heap.IsTupleIter it t i) (tu:s.heap.IsTuple t items) (ix:items[i]? = none)
    (q:∀ h' e,Heap.ExtBut it s.heap h'->(∃ o,h'.get? e = some o/\o.cls = .type "StopIteration")->E (.ref e) { s with heap:=h' }):wpAny (model prog w) A (Builtin.SmallTypes.nextOf (.ref it)) Q E s:=by
  obtain ⟨o,eo,ec,ed⟩:=id st; obtain ⟨ol,el,_,nl,edl⟩:=tu; unfold Builtin.SmallTypes.nextOf
  refine wpAny_bind (wpAny_callSpecial?_slot (name:=Str.ofString "__next__") st.typeIs F.slot_tuple_iterator_next (wpAny_call_entry F.slot_tuple_iterator_next st.typeIs F.entry_tuple_iterator_next ?_ (F.args_tuple_iterator_next_1 _)))
  show wpAny _ _ (field (.ref it) 0 >>= _) _ _ s; refine wpAny_bind (wpAny_field eo ed (x:=.ref t) rfl ?_)
  show wpAny _ _ (if (Value.ref t == Value.none) = true then _ else _) _ _ s; rw [if_neg (show ¬ ((Value.ref t == Value.none) = true) from Bool.false_ne_true)]
  show wpAny _ _ (field (.ref it) 1 >>= _) _ _ s; refine wpAny_bind (wpAny_field eo ed (x:=.int i 0) rfl ?_)
  show wpAny _ _ (seqItems? (.ref t) >>= _) _ _ s; refine wpAny_bind (wpAny_seqItems el edl ?_); simp only [Int.toNat_natCast,ix]
  refine wpAny_bind (wpAny_rule (wpAny_bind (wpAny_setField eo ed (by simp) ?_))); show wpAny _ _ (newExc (.type "StopIteration") [] >>= _) _ _ _
  refine wpAny_bind ?_; simp only [newExc,newTuple]; refine wpAny_bind (wpAny_newObj_type ?_ (by size_fits))
  refine wpAny_bind (m:=firstArgMember _ _) (wpAny_of_eq (a:=Value.none) (by first | rfl | (simp only [firstArgMember]; rfl)) ?_); refine wpAny_newObj_type ?_ (by size_fits)
  simp only [raiseNew]; refine wpAny_bind (wpAny_handled ?_); first | rw [show A.in1.handled = none from hh] | rw [hh]
  refine wpAny_bind (wpAny_pure (wpAny_throw ?_))
  exact q _ _ (((Heap.SameBut.update ..).extBut.push _).push _) ⟨_,Heap.get?_push_size _ rfl,rfl⟩
end
abbrev eq1 (h:Heap) (a:Addr):Heap:=h.push { cls:=.type "tuple_iterator",data:=.fields #[.ref a,.int 0 0] }
abbrev eq2 (h:Heap) (a:Addr):Heap:=(eq1 h a).push { cls:=.type "enumerate",data:=.fields #[.none,.bool false,.ref h.objs.size,rawInt 0,.none,.none] }
theorem xo7 {α:Type} {M:Model} {A:Around} {Q:α->Shared->Prop} {E:Value->Shared->Prop} {s:Shared} {c:Prop} [Decidable c] {a b:Sem α} (h1:wpAny M A a Q E s) (h2:wpAny M A b Q E s):wpAny M A (if c then a else b) Q E s:=by
  split
  · exact h1
  · exact h2
theorem yk9 (a:Addr) (xs:Array Value) :
    Meets (Builtin.«enumerate.__new__» ⟨[.type "enumerate",.ref a],[]⟩) (λ_ R s=>s.heap.IsTuple a xs/\R (.ok (.ret (.ref (eq1 s.heap a).objs.size))) { s with heap:=eq2 s.heap a }):=
  .of_wp λprog w A R s h=>by
    obtain ⟨hp,g,d,tk,os⟩:=s; obtain ⟨e1,h⟩:=h; have hsub:=sub_enumerate
    have f1:Heap.IsTuple (Shared.heap ⟨hp,g,d,tk,os⟩) a xs:=e1
    wp_walk using wpAny_pyIter_tuple f1
    refine wpAny_stack λst _ _ _=>wpAny_pure ?_
    show wpAny _ _ (if _ then _ else _) _ _ _
    refine xo7 ?_ ?_
    · wp_walk using wpAny_pyIter_tuple f1
      exact ⟨_,rfl,h⟩
    · wp_walk using wpAny_pyIter_tuple f1
      exact ⟨_,rfl,h⟩
section
variable {prog:Program} {w:World} {A:Around} {E:Value->Shared->Prop} {s:Shared}
theorem yt2 {a:Addr} {xs:Array Value} {Q:Value->Shared->Prop} (e1:s.heap.IsTuple a xs)
    (q:∀ h',IsEnum h' (s.heap.objs.size + 1) s.heap.objs.size 0 .none->h'.IsTupleIter s.heap.objs.size a 0->h'.objs.size = s.heap.objs.size + 2->(∀ c o,s.heap.get? c = some o->h'.get? c = some o)->Q (.ref (s.heap.objs.size + 1)) { s with heap:=h' }) :
    wpAny (model prog w) A (call (.type "enumerate") [.ref a]) Q E s:=by
  refine callType_new F.called_enumerate (by decide) (F.typeCall_enumerate_1 _) (F.newCall_enumerate_1 _) (λobj=>F.args_object_init_2 obj _) F.entry_enumerate_new (yk9 a xs) ⟨e1,?_⟩
  have n1:(eq1 s.heap a).objs.size = s.heap.objs.size + 1:=Heap.size_push ..
  have n2:(eq2 s.heap a).objs.size = s.heap.objs.size + 2:=by rw [Heap.size_push,n1]
  have m2:(eq2 s.heap a).get? (eq1 s.heap a).objs.size = some _:=Heap.get?_push_size _ rfl
  have m1:(eq2 s.heap a).get? s.heap.objs.size = some _:=Heap.get?_push_of_some _ (Heap.get?_push_size _ rfl)
  show _/\_
  rw [n1] at m2 ⊢
  exact ⟨⟨_,m2,rfl⟩,q _ m2 ⟨_,m1,rfl,rfl⟩ n2 λc o x=>Heap.get?_push_of_some _ (Heap.get?_push_of_some _ x)⟩
theorem zy2 (hh:A.handled = none) (it l:Addr) (ne:l ≠ it) (items:Array Value):Draws prog w A it [it,l] items.size (λi v=>items[i]? = some v) (λi h=>h.IsTupleIter it l i/\h.IsTuple l items) where
  live:=λi h st=>by
    obtain ⟨⟨o,e,_⟩,_⟩:=st
    exact ⟨o,e⟩
  frame:=λi h h' st k=>by
    obtain ⟨s1,o,e,r⟩:=st
    exact ⟨s1.at λo e=>k it (by simp) o e,o,k l (by simp) o e,r⟩
  item:=λi s Q E hi st q=>by
    obtain ⟨s1,t1⟩:=st
    refine zn2 s1 t1 (x:=items[i]) (Array.getElem?_eq_getElem hi) λh' s2 sb=>?_
    refine q _ h' s.toks (Array.getElem?_eq_getElem hi) ⟨s2,?_⟩ sb
    obtain ⟨o,e,r⟩:=t1
    exact ⟨o,(sb.2 l ne).trans e,r⟩
  done:=λs Q E st q=>by
    obtain ⟨s1,t1⟩:=st
    exact zx3 hh s1 t1 (Array.getElem?_eq_none (Nat.le_refl _)) λh' e k x=>q h' e k x
end
def Iten (K:W.Frag) (a:Addr):It:=
  ⟨λi H=>∃ xs x,SqT K H a xs/\xs[i]? = some x,
   λi H v H'=>∃ T,v = .ref T/\H T = none/\∀ xs x,SqT K H a xs->xs[i]? = some x->H' = upd H T (.tup [.int i,x]),
   λi H=>∃ xs,SqT K H a xs/\xs.length = i⟩
def xo6 (e it a:Addr) (i:Nat) (h:Heap):Prop:=(∃ old,IsEnum h e it i old)/\h.IsTupleIter it a i/\a ≠ it/\a ≠ e
theorem yp4 {P:Program} {w:World} {K:W.Frag} {elts:List Expr} {kk:Nat} {pos:Pos} {e it a:Addr} (D:e ≠ it):Turn P w K (.Tuple elts kk pos) (Iten K a) [e,it] e (xo6 e it a) where
  mem:=by simp
  obj:=λi h st c hc=>by
    obtain ⟨⟨old,ez⟩,⟨o1,e1,c1,d1⟩,_⟩:=st
    simp only [List.mem_cons,List.not_mem_nil,or_false] at hc
    rcases hc with rfl | rfl
    · exact ⟨_,ez,λv y=>by cases y⟩
    · exact ⟨o1,e1,λv y=>by rw [d1] at y; cases y⟩
  keep:=λi h h' st k=>by
    obtain ⟨⟨old,ez⟩,s1,ne⟩:=st
    exact ⟨⟨old,k e (by simp) _ ez⟩,s1.at λo e1=>k it (by simp) o e1,ne⟩
  item:=by
    intro X hP hw hK hc i pins s σ H E I hf st hg
    subst hP hw hK
    obtain ⟨⟨old,ez⟩,s1,ne1,ne2⟩:=st
    obtain ⟨xs,x,q1,g1⟩:=hg
    obtain ⟨its1,r1,p1,z1⟩:=I.tuple q1
    obtain ⟨ux,hx,rx⟩:=r1.get g1
    have t1:s.heap.IsTuple a its1.toArray:=p1
    have hi:i < its1.toArray.size:=by
      have:=(List.getElem?_eq_some_iff.mp hx).1
      simpa using this
    refine wpAny_pyNext_enum_itemD (zy2 (A:=X.A.in1) (show X.A.in1.handled = none from I.ok.hd hc) it a ne1 its1.toArray) ez ⟨s1,t1⟩ hi D (by simp [D,Ne.symm ne2]) λu h' tk hu a1 a2 a3 a4 a5=>⟨_,rfl,?_⟩
    have eu:u = ux:=by
      have h1:its1.toArray[i]? = some ux:=by simpa using hx
      have h2:its1.toArray[i]? = some u:=hu
      rw [h1] at h2
      exact (Option.some.inj h2).symm
    subst eu
    refine wpAny_letOwnedTupleGo_enum (s:={ s with heap:=h',toks:=tk + 1 }) a1 λh2 b1 b2=>?_
    have zlt:e < s.heap.objs.size:=Heap.lt_size ez
    obtain ⟨o1,e1,_⟩:=id s1
    have lt1:it < s.heap.objs.size:=Heap.lt_size e1
    have fr:H s.heap.objs.size = none:=I.hok.fresh (Nat.le_refl _)
    have I0:Inv X pins σ (upd H s.heap.objs.size (.tup [.int i,x])) { s with heap:=s.heap.push { cls:=.type "tuple",data:=.seq #[.int i tk,u] } }:=by
      refine I.laid (t':=s.toks) (λc o e=>Heap.get?_push_of_some _ e) (Nat.le_refl _) ?_
      exact ⟨by show 2<=sizeLine; exact Nat.le_of_lt (zb5 (by decide)),[.int i tk,u],.cons ⟨_,rfl⟩ (.cons rx .nil),⟨_,Heap.get?_push_size _ rfl,rfl,rfl,_,rfl⟩⟩
    have nlt:∀ c ∈ [e,it],c ≠ s.heap.objs.size:=by
      intro c hc
      simp only [List.mem_cons,List.not_mem_nil,or_false] at hc
      rcases hc with rfl | rfl
      · exact Nat.ne_of_lt zlt
      · exact Nat.ne_of_lt lt1
    have hf0:∀ c ∈ [e,it],FpOk X pins (upd H s.heap.objs.size (.tup [.int i,x])) c:=λc hc=>by
      obtain ⟨f0,f1⟩:=hf c hc
      exact ⟨by rw [za7 (nlt c hc)]; exact f0,f1⟩
    have I1:Inv X pins σ (upd H s.heap.objs.size (.tup [.int i,x])) { s with heap:=h2,toks:=tk + 1 }:=by
      refine Inv.turnedM (s:={ s with heap:=s.heap.push { cls:=.type "tuple",data:=.seq #[.int i tk,u] } }) (h':=h2) (t':=tk + 1) (fp:=[e,it]) I0 (λc o nc e0=>?_) hf0
      simp only [List.mem_cons,List.not_mem_nil,or_false,not_or] at nc
      obtain ⟨n1,n2⟩:=nc
      rcases Heap.get?_push_cases e0 with ⟨rfl,rfl⟩ | e0
      · exact b2.extBut _ _ n1 a3
      · exact b2.extBut _ _ n1 (a5 c o n1 n2 e0)
    refine ⟨.ref s.heap.objs.size,_,I1,rfl,⟨_,rfl,fr,λxs' x' q1' g1'=>?_⟩,⟨⟨_,by exact_mod_cast b1⟩,a2.1.at λo e0=>b2.extBut _ _ (Ne.symm D) e0,ne1,ne2⟩,λc hc=>(hf0 c hc).1⟩
    have ex:xs' = xs:=I.tuple_inj q1' q1
    subst ex
    rw [g1] at g1'
    cases g1'
    rfl
  done:=by
    intro X hP hw hK hc i pins s σ H E I hf st hg
    subst hP hw hK
    obtain ⟨⟨old,ez⟩,s1,ne1,ne2⟩:=st
    obtain ⟨xs,q1,g⟩:=hg
    obtain ⟨its1,r1,p1,z1⟩:=I.tuple q1
    have l1:=r1.length
    have t1:s.heap.IsTuple a its1.toArray:=p1
    have ei:its1.toArray.size = i:=by simp; omega
    refine wpAny_pyNext_enum_endD (zy2 (A:=X.A.in1) (show X.A.in1.handled = none from I.ok.hd hc) it a ne1 its1.toArray) ez (by rw [ei]; exact ⟨s1,t1⟩) λh' kk=>⟨rfl,?_⟩
    refine I.turnedM (t':=s.toks) (fp:=[e,it]) (λc o nc e0=>?_) hf
    simp only [List.mem_cons,List.not_mem_nil,or_false,not_or] at nc
    exact kk c o nc.2 e0
  self:=λ_ _ _ _ _ st h=>by
    obtain ⟨⟨old,ez⟩,_⟩:=st
    exact wpAny_pyIter_enum ez h
section
variable {X:Cx}
def xt2 (K:W.Frag) (ta:TA):TI:=λσ H R=>ta σ H λvs H1=>∃ a xs,vs = [.ref a]/\SqT K H1 a xs/\R (Iten K a) H1
theorem xd0 {a:Expr} {ta:TA} {p pos:Pos} {elts:List Expr} {kk:Nat} {tp:Pos} (hg:Gl X "enumerate") (hm:X.mg "enumerate" = none) (ha:PA X [a] ta) (hs:starEach [a] X.env = [(false,eval a X.env)]:=by rfl) :
    PI X (.Tuple elts kk tp) (.Call (.Name "enumerate" p) [a] [] pos) (xt2 X.K ta):=by
  intro pins s σ H R I h
  refine Call_ (zx6 I hg hm (show bootBuiltins "enumerate" = some (.type "enumerate") by decide +kernel) (PyProof.Rows.callWith_type1 (thn (ha pos pins s σ H _ I h) λus s1 ⟨vs,H1,I1,r1,q1⟩=>?_) (by rw [hs]; rfl) (by rfl)))
  obtain ⟨ea,xs,rfl,h1,q⟩:=q1
  obtain ⟨u1,rfl,rr1⟩:=zt6 r1
  cases rr1
  obtain ⟨its1,v1,p1,z1⟩:=I1.tuple h1
  have t1:s1.heap.IsTuple ea its1.toArray:=p1
  obtain ⟨oa,eoa,_⟩:=id t1
  have la:ea < s1.heap.objs.size:=Heap.lt_size eoa
  refine yt2 t1 λh' c1 c2 c3 c4=>?_
  refine wpAny_pyIter_enum (s:={ s1 with heap:=h' }) c1 ?_
  refine ⟨s1.heap.objs.size + 1,[s1.heap.objs.size + 1,s1.heap.objs.size],_,_,H1,rfl,I1.kept (t':=s1.toks) c4,yp4 (Nat.succ_ne_self _),⟨⟨_,c1⟩,c2,Nat.ne_of_lt la,Nat.ne_of_lt (Nat.lt_succ_of_lt la)⟩,λc hc=>?_,q⟩
  have hge:s1.heap.objs.size<=c:=by
    simp only [List.mem_cons,List.not_mem_nil,or_false] at hc
    rcases hc with rfl | rfl
    · exact Nat.le_add_right _ 1
    · exact Nat.le_refl _
  exact I1.fpOk hge (I1.hok.fresh hge)
theorem xa3 {K:PySem.W.Frag} {a:Addr} {xs:List V} {g:TG} {tb:TS} {D:Ends} {σ:St} {H:Hp} (Pv:Nat->St->Hp->Prop) (h0:Pv 0 σ H) (hl:∀ i σ H,i<=xs.length->Pv i σ H->SqT K H a xs)
    (hs:∀ i x T σ H,xs[i]? = some x->H T = none->Pv i σ H->g (.ref T) σ (upd H T (.tup [.int i,x])) λσ2 H2=>tb { D with nx:=Pv (i + 1),ct:=Pv (i + 1),bk:=D.nx } σ2 H2) (hd:∀ σ H,Pv xs.length σ H->D.nx σ H) :
    ∃ W:Nat->Nat->St->Hp->Prop,(∃ m,W 0 m σ H)/\∀ i m σ H,W i m σ H ->
      ((Iten K a).stop i H/\D.nx σ H)\/((Iten K a).go i H/\∃ N:St->Hp->Prop,(∀ σ' H',N σ' H'->∃ m',m' < m/\W (i + 1) m' σ' H')/\∀ x H',(Iten K a).yld i H x H'->g x σ H' λσ2 H2=>tb { D with nx:=N,ct:=N,bk:=D.nx } σ2 H2):=by
  refine ⟨λi m σ H=>m = xs.length - i/\i<=xs.length/\Pv i σ H,⟨xs.length,rfl,Nat.zero_le _,h0⟩,?_⟩
  rintro i m σ H ⟨rfl,hi,p⟩
  have q1:=hl i σ H hi p
  rcases Nat.lt_or_ge i xs.length with hlt | hge
  · refine .inr ⟨⟨xs,xs[i],q1,List.getElem?_eq_getElem hlt⟩,Pv (i + 1),λσ' H' p'=>⟨xs.length - (i + 1),by omega,rfl,hlt,p'⟩,λx H' y=>?_⟩
    obtain ⟨T,rfl,hT,e⟩:=y
    have e':=e xs xs[i] q1 (List.getElem?_eq_getElem hlt)
    subst e'
    exact hs i xs[i] T σ H (List.getElem?_eq_getElem hlt) hT p
  · have e:i = xs.length:=by omega
    subst e
    exact .inl ⟨⟨xs,q1,rfl⟩,hd σ H p⟩
def xk0:V->List V->Hp->VK->Prop:=λx vs H Q=>∃ (p:Addr) (xs:List V) (y:V),x = .ref p/\vs = [y]/\H p = some (.tup xs)/\zf2 y = true/\xs.all zf2 = true/\Q (.int ((xs.countP λz=>eqV z y:Nat):Int)) H
def tBMT (r:V->List V->Hp->VK->Prop) (to:TE) (t:TA):TE:=λσ H Q=>to σ H λx H1=>(∃ p xs,x = .ref p/\H1 p = some (.tup xs))/\t σ H1 λxs H2=>r x xs H2 Q
variable {o e:Expr} {es:List Expr} {to:TE} {t:TA} {name:Str} {apos cpos:Pos} {id:String} {r:V->List V->Hp->VK->Prop}
theorem xq7 (slot:Slot "tuple" name id) (hty:typeOf (.builtin id) = pure (.type "method_descriptor")) (hm:MtM X id r) (ho:PE X o to) (ha:PA X (e :: es) t)
    (hbase:attributeBase o name X.env (eval o X.env) = eval o X.env:=by rfl)
    (hfew:((backTo cpos (starEach (e :: es) X.env)).all (λx=>!x.1) && (backToKw cpos (keywordEach [] X.env)).all (λx=>x.1.isSome)
      && decide ((e :: es).length + ([]:List Keyword).length + (if ([]:List Keyword).isEmpty then 0 else 1) < 30)) = true:=by rfl)
    (hline:(apos.endLine == cpos.line) = true:=by rfl) (hs:starEach (e :: es) X.env = (false,eval e X.env) :: starEach es X.env:=by rfl) (hplain:(backTo cpos (starEach es X.env)).any (·.1) = false:=by rfl) :
    PE X (.Call (.Attribute o name apos) (e :: es) [] cpos) (tBMT r to t):=by
  intro pins s σ H Q I h
  refine wpAny_Call_method_late hbase hfew hline rfl (thn (ho pins s σ H _ I h) λv s1 ⟨x,H1,I1,r1,⟨p,xs,ex,hp⟩,q1⟩=>?_)
  subst ex
  cases r1
  obtain ⟨_,its,rv,ob,e1,e2,e3,_⟩:=(show zd7 X.prog X.w H1 s1.heap p (.tup xs) from I1.hok p _ hp)
  refine ⟨"tuple",id,F.plainAttrs_tuple,slot,hty,⟨ob,e1,e2⟩,λa e=>?_,?_⟩
  · cases e
    exact ⟨ob,e1,e3⟩
  have hA:=ha cpos pins s1 σ H1 _ I1 q1
  rw [hs] at hA ⊢
  refine Calls.callWith_builtin (by show (false || (backTo cpos (starEach es X.env)).any (·.1)) = false; rw [hplain] <;> rfl) (Calls.evalArgs_plain ?_)
  exact thn hA λus s2 ⟨vs,H2,I2,r2,q2⟩=>hm pins s2 σ H2 (.ref p) vs _ us Q I2 rfl r2 q2
theorem zo2 {y:V}:∀ {xs:List V} {its:List Value},Vals xs its->xs.all zf2 = true->its.countP (eqU y) = xs.countP λz=>eqV z y
  | _,_,.nil,_=>rfl
  | x :: xs,u :: its,.cons r t,h=>by
    rw [List.all_cons,Bool.and_eq_true] at h
    rw [List.countP_cons,List.countP_cons,yo6 r h.1,zo2 t h.2]
theorem yy5:MtM X "tuple.count" xk0:=by
  intro pins s σ H x vs v us Q I rx rv h
  obtain ⟨p,xs,y,rfl,rfl,hp,fy,fs,q⟩:=h
  cases rx
  obtain ⟨u,rfl,ru⟩:=rv.one
  obtain ⟨hz,its,r,ob,e1,e2,e3,n,e4⟩:=(show zd7 X.prog X.w H s.heap p (.tup xs) from I.hok p _ hp)
  obtain ⟨c1,c2,c3,c4⟩:=ob
  dsimp only at e2 e3 e4
  subst e2 e3 e4
  refine call_meets F.slot_tuple_count ⟨_,e1,rfl⟩ F.entry_tuple_count (F.args_tuple_count_2 _ _) (SeqAt.tuple_countAt p its.toArray n none c4 u (eqU y)) ⟨e1,λw' hw=>zi8 ru fy r fs w' (by simpa using hw),?_⟩
  refine ⟨.int ((its.countP (eqU y):Nat):Int),H,I.kept (t':=s.toks + 1) λb o e=>e,⟨s.toks,rfl⟩,?_⟩
  rw [zo2 r fs]
  exact q
end
section
variable {X:Cx}
inductive EqI (K:W.Frag) (H:Hp):V->V->Bool->Prop
  | flat {x y:V}:zf2 x = true->zf2 y = true->EqI K H x y (eqV x y)
  | tb {a:Addr} {xs:List V} {b:Bool}:SqT K H a xs->EqI K H (.ref a) (.bl b) false
  | lb {a:Addr} {xs:List V} {b:Bool}:SqL K H a xs->EqI K H (.ref a) (.bl b) false
structure FunD (K:W.Frag) (x qual:Str) (st:Stmt) (f:Addr) (fd:FuncData):Prop where
  ex:∃ (oc:Value) (od:Option Addr) (dV kV doc pm:Value) (an:Option Addr) (cdv ct:Value) (osl:Array (Option Value)),
    fd = W.fnOf x qual (za6 st) (za5 st) (za1 st) dV kV doc pm an cdv ct/\K.lookup f = some ⟨oc,od,.func fd,osl⟩/\W.codeIn K cdv qual = true
  kp:W.keepIn K (.ref f) = true
theorem FunD.ok {P:Program} {w:World} {K:W.Frag} {mg:Str->Option Value} {base:Heap} {x qual:Str} {st:Stmt} {f:Addr} {fd:FuncData} {N ps:List Str} {k:Nat} {sp:Sp} (F:FunD K x qual st f fd) (S:FnScope N ps (za1 st)) (len:∀ vs H Q E,sp vs H Q E->vs.length = ps.length)
    (hbody:∀ (cdv:Value) (A:Around) (outer:List Env) (s:Shared) (H:Hp) (vs:List V) (Q:VK) (E:XK),Room k (A.deeper (envOfC qual (za1 st) s.heap.objs.size f cdv))->sp vs H Q E ->
      ∃ t,PSs (cxOf CX0 P w K mg base N qual (za1 st) f cdv A outer s H E).nox (za5 st) t/\t { nx:=λ_ H'=>Q .non H',rt:=Q } (zk9 N vs) H):FnOk P w K mg base CX0 (k + 1) f fd ps sp:=by
  obtain ⟨oc,od,dV,kV,doc,pm,an,cdv,ct,osl,rfl,lk,hcd⟩:=F.ex
  refine xo1 lk hcd S len λA outer s H vs Q E hr hsp=>?_
  obtain ⟨t,h,q⟩:=hbody cdv A outer s H vs Q E hr hsp
  exact ⟨t,h.nox,q⟩
end
theorem Fun.okX {P:Program} {w:World} {K:W.Frag} {mg:Str->Option Value} {base:Heap} {x qual:Str} {st:Stmt} {f:Addr} {fd:FuncData} {N ps:List Str} {k:Nat} {sp:Sp} (F:Fun K x qual st f fd) (S:FnScope N ps (za1 st)) (len:∀ vs H Q E,sp vs H Q E->vs.length = ps.length)
    (hbody:∀ (cdv:Value) (A:Around) (outer:List Env) (s:Shared) (H:Hp) (vs:List V) (Q:VK) (E:XK),Room k (A.deeper (envOfC qual (za1 st) s.heap.objs.size f cdv))->sp vs H Q E ->
      ∃ t,PSs (cxOf (CXe P w) P w K mg base N qual (za1 st) f cdv A outer s H E) (za5 st) t/\t { nx:=λ_ H'=>Q .non H',rt:=Q } (zk9 N vs) H):FnOk P w K mg base (CXe P w) (k + 1) f fd ps sp:=by
  obtain ⟨oc,od,kV,doc,pm,an,cdv,ct,osl,rfl,lk,hcd⟩:=F.ex
  exact xo1 lk hcd S len λA outer s H vs Q E hr hsp=>hbody cdv A outer s H vs Q E hr hsp
section
variable {X:Cx} {pins:List (Addr × Obj)} {σ:St} {H:Hp} {s:Shared} {CX:CXT} {k:Nat} {f C:Addr} {fd:FuncData} {ps:List Str} {sp:Sp} {dvs:List V} {ds:List Value} {E:XK} {x m:Str} {p pos apos:Pos} {e o:Expr} {es:List Expr} {ta:TE} {t:TA}
end
structure RoomH (k:Nat) (A:Around):Prop where
  dp:A.depth + 3 * k + 5 < recursionLimit
  un:A.units + 16 * k + 200 < cLine
theorem RoomH.deeper {k:Nat} {A:Around} (r:RoomH (k + 1) A) (env:Env):RoomH k (A.deeper env):=
  ⟨by have:=r.dp; show A.depth + 1 + 3 * k + 5 < _; omega,by have:=r.un; show A.units + 3 + 16 * k + 200 < _; omega⟩
theorem RoomH.mark {k:Nat} {A:Around} {v:Option Value} (r:Room k A):RoomH k (A.mark v):=⟨r.dp,r.un⟩
theorem RoomH.depth {k:Nat} {A:Around} (r:RoomH k A):A.depth < recursionLimit:=by have:=r.dp; omega
structure FnH (P:Program) (w:World) (K:W.Frag) (mg:Str->Option Value) (base:Heap) (CX:CXT) (k:Nat) (f:Addr) (fd:FuncData) (ps:List Str) (sp:Sp):Prop where
  len:∀ vs H Q E,sp vs H Q E->vs.length = ps.length
  run:∀ (A:Around) (outer:List Env) (s:Shared) (H:Hp) (args:Args) (us:List Value) (vs:List V) (Q:VK) (E:XK),RoomH k A->Env0 P w K mg base A outer s H->BindsTo s fd args (ps.zip us)->Vals vs us->sp vs H Q E ->
    codeAny (model P w) A (.call (.ref f) args) (CR CX outer P w H s Q E) s
def yt0 (CX:CXT) (P:Program) (w:World) (K:W.Frag) (mg:Str->Option Value) (base:Heap) (N:List Str) (qual:Str) (scope:Scope) (f:Addr) (cd:Value) (A:Around) (outer:List Env) (s:Shared) (H:Hp) (E:XK):Cx:={ cxOf CX P w K mg base N qual scope f cd A outer s H E with calm:=false }
theorem ys3 {CX:CXT} {P:Program} {w:World} {K:W.Frag} {mg:Str->Option Value} {base:Heap} {N ps:List Str} {qual:Str} {scope:Scope} {f:Addr} {cd:Value} {A:Around} {outer:List Env} {s s1:Shared} {H:Hp} {E:XK} {us:List Value} {vs:List V}
    (S:FnScope N ps scope) (e0:Env0 P w K mg base A outer s H) (hl:vs.length = ps.length) (r:Vals vs us)
    (x:InCallC s s.heap.objs.size (bindL (envOfC qual scope s.heap.objs.size f cd).kindOf (ps.zip us) λ_=>none) (cellsFrom (s.heap.objs.size + 1) scope.names []) (bindC (envOfC qual scope s.heap.objs.size f cd).kindOf (ps.zip us) λ_=>none) s1) :
    Inv (yt0 CX P w K mg base N qual scope f cd A outer s H E) [] (zk9 N vs) H s1:=by
  have hpl:ps.length<=N.length:=by have:=congrArg List.length S.pre; rw [List.length_take] at this; omega
  obtain ⟨h1,tk,rfl,hk⟩:=x.done
  have noA:∀ b:Addr,b ∉ (yt0 CX P w K mg base N qual scope f cd A outer s H E).ex:=λb z=>absurd (show b ∈ ([]:List Addr) from z) (by simp)
  refine ⟨⟨e0.mod,S.kind,rfl,rfl,Nat.le_refl _,λy z c h1 h2=>?_,λy hy=>?_,λy c _ h=>?_,λz=>(by cases z),Around.frames_deeper e0.frames,.inr ⟨rfl,rfl⟩,λb z=>absurd z (noA b),e0.bs,e0.bsz,λb _ _=>noA b,λb z=>absurd z (noA b),e0.funs,e0.frf⟩,
    rfl,e0.bare,Un.kept hk,⟨_,x.toInCall.ns,λi y v h1 h2 h3=>?_⟩,λy c h=>⟨_,x.cell y c h⟩,e0.hok.fresh (Nat.le_refl _),λy c h=>?_,λp hp=>absurd (show p ∈ ([]:List (Addr × Obj)) from hp) (by simp),e0.hok.kept hk,?_⟩
  · exact name_of_addr x.apart (PySem.mem_of_lookup h1) (PySem.mem_of_lookup h2)
  · have hy:scope.names.lookup y = some .cell\/scope.names.lookup y = some .free:=hy
    rcases hy with hy | hy
    · exact zv0 hy
    · exact absurd rfl (S.nofree _ (PySem.mem_of_lookup hy))
  · exact Nat.le_of_lt (x.above y c (PySem.mem_of_lookup h))
  · have hi:i < vs.length:=by
      unfold zk9 at h2
      by_cases hi:i < vs.length
      · exact hi
      · rw [List.getElem?_append_right (by simpa using hi)] at h2
        rw [List.getElem?_replicate] at h2
        split at h2 <;> cases h2
    have ha:vs[i]? = some v:=by
      unfold zk9 at h2
      rw [List.getElem?_append_left (by simpa using hi),List.getElem?_map] at h2
      cases e:vs[i]? with
      | none=>rw [e] at h2; cases h2
      | some a=>rw [e] at h2; cases h2; rfl
    obtain ⟨u,hu,rv⟩:=r.get ha
    have hp:ps[i]? = some y:=by
      rw [<- S.pre,List.getElem?_take_of_lt (by omega)]; exact h1
    have ndP:ps.Nodup:=by rw [<- S.pre]; exact S.nd.sublist (List.take_sublist _ _)
    refine ⟨u,rv,?_⟩
    rcases S.par y (List.mem_of_getElem? hp) with k | k
    · exact .inl ⟨k,zy7 ndP hp hu k⟩
    · obtain ⟨c,e⟩:=zv0 (n:=s.heap.objs.size + 1) k
      refine .inr ⟨.inl k,c,e,?_⟩
      have q:=x.cell y c e
      rw [zy8 ndP hp hu (by show scope.names.lookup y ≠ _; rw [k]; decide)] at q
      exact q
  · exact e0.hok.fresh (Nat.le_of_lt (x.above y c (PySem.mem_of_lookup h)))
  · unfold zk9
    show _ = N.length
    rw [List.length_append,List.length_map,List.length_replicate]
    omega
theorem xt3 {CX:CXT} {P:Program} {w:World} {K:W.Frag} {mg:Str->Option Value} {base:Heap} {k:Nat} {f:Addr} {name qual:Str} {params:Arguments} {body:List Stmt} {scope:Scope} {dV kV doc pm cdv ct oc:Value} {an od:Option Addr}
    {osl:Array (Option Value)} {N ps:List Str} {sp:Sp} (lk:K.lookup f = some ⟨oc,od,.func (W.fnOf name qual params body scope dV kV doc pm an cdv ct),osl⟩) (hcd:W.codeIn K cdv qual = true) (S:FnScope N ps scope)
    (len:∀ vs H Q E,sp vs H Q E->vs.length = ps.length)
    (hbody:∀ (A:Around) (outer:List Env) (s:Shared) (H:Hp) (vs:List V) (Q:VK) (E:XK),RoomH k (A.deeper (envOfC qual scope s.heap.objs.size f cdv))->sp vs H Q E ->
      ∃ t,PSs (yt0 CX P w K mg base N qual scope f cdv A outer s H E) body t/\t { nx:=λ_ H'=>Q .non H',rt:=Q } (zk9 N vs) H) :
    FnH P w K mg base CX (k + 1) f (W.fnOf name qual params body scope dV kV doc pm an cdv ct) ps sp:=by
  refine ⟨len,λA outer s H args us vs Q E hr e0 hb r hsp=>?_⟩
  have hl:=len _ _ _ _ hsp
  have KX:K.In s.heap:=e0.mod.kin.keeps λb o e=>(e0.bs b o e).1
  have lim:s.heap.NoLimit:=e0.mod.nolimit.keeps λb o e=>(e0.bs b o e).1
  have hkind:∀ y ∈ ps.zip us,scope.names.lookup y.1 = some .local\/(scope.names.lookup y.1 = some .cell/\((cellsFrom (s.heap.objs.size + 1) scope.names []).lookup y.1).isSome = true):=λ⟨n,v⟩ hy=>by
    rcases S.par n (List.of_mem_zip hy).1 with q | q
    · exact .inl q
    · exact .inr ⟨q,W.cellsFrom_some _ _ _ (.inl q)⟩
  refine codeAny_call_function hr.depth (KX _ _ lk) rfl S.co S.gen rfl (W.codeRec_of KX hcd) (hb _ _ _ _ ?_)
  refine wpAny_newFunctionEnv_cells S.kind hkind λenv he s1 x=>?_
  subst he
  refine ⟨lim.keeps x.toInCall.keep,codeAny_func ?_⟩
  obtain ⟨t,ht,hq⟩:=hbody A outer s H vs Q E (hr.deeper _) hsp
  have I:Inv (yt0 CX P w K mg base N qual scope f cdv A outer s H E) [] (zk9 N vs) H s1:=ys3 S e0 hl r x
  refine wpAny_mono (ht [] s1 (zk9 N vs) H _ I hq) (λfl s' hs=>?_) λe s' hs=>hs
  have fin:∀ {σ':St} {H':Hp} {v:V} {u:Value},Inv (yt0 CX P w K mg base N qual scope f cdv A outer s H E) [] σ' H' s'->RelV v u->Q v H'->CE outer P w H s Q u s':=
    λ{σ' H' v u} J rv q=>⟨v,H',J.os,J.bare,J.base,J.hok,rv,q⟩
  cases fl with
  | ret u=>
    obtain ⟨v,σ',H',J,rv,q⟩:=hs
    exact fin J rv q
  | next=>
    obtain ⟨σ',H',J,q⟩:=hs
    exact fin (v:=V.non) (u:=Value.none) J rfl q
  | brk=>
    obtain ⟨_,_,_,q⟩:=hs
    exact False.elim q
  | cont=>
    obtain ⟨_,_,_,q⟩:=hs
    exact False.elim q
theorem Fun.okH {P:Program} {w:World} {K:W.Frag} {mg:Str->Option Value} {base:Heap} {x qual:Str} {st:Stmt} {f:Addr} {fd:FuncData} {N ps:List Str} {k:Nat} {sp:Sp} (F:Fun K x qual st f fd) (S:FnScope N ps (za1 st)) (len:∀ vs H Q E,sp vs H Q E->vs.length = ps.length)
    (hbody:∀ (cdv:Value) (A:Around) (outer:List Env) (s:Shared) (H:Hp) (vs:List V) (Q:VK) (E:XK),RoomH k (A.deeper (envOfC qual (za1 st) s.heap.objs.size f cdv))->sp vs H Q E ->
      ∃ t,PSs (yt0 CX0 P w K mg base N qual (za1 st) f cdv A outer s H E).nox (za5 st) t/\t { nx:=λ_ H'=>Q .non H',rt:=Q } (zk9 N vs) H):FnH P w K mg base CX0 (k + 1) f fd ps sp:=by
  obtain ⟨oc,od,kV,doc,pm,an,cdv,ct,osl,rfl,lk,hcd⟩:=F.ex
  refine xt3 lk hcd S len λA outer s H vs Q E hr hsp=>?_
  obtain ⟨t,h,q⟩:=hbody cdv A outer s H vs Q E hr hsp
  exact ⟨t,h.nox,q⟩
section
variable {X:Cx} {k:Nat} {f:Addr} {fd:FuncData} {ps:List Str} {sp:Sp} {x:Str} {p pos:Pos} {e:Expr} {es:List Expr} {t:TA}
theorem xd1 {K:W.Frag} {mg:Str->Option Value} (hK:X.K = K) (hmg:X.mg = mg) (F:FnH X.prog X.w K mg X.base CX0 k f fd ps sp) (hr:RoomH k X.A) (hg:Gl X x) (hm:mg x = some (.ref f)) (hk:W.keepIn K (.ref f) = true) (hb:zi3 K fd ps [])
    (ha:PA X (e :: es) t) (hdb:(x == ("__debug__" : Str)) = false:=by decide) (he:starEach (e :: es) X.env = (false,eval e X.env) :: starEach es X.env:=by rfl) (hpl:(backTo pos (starEach es X.env)).any (·.1) = false:=by rfl) :
    PE X (.Call (.Name x p) (e :: es) [] pos) (yg3 sp [] E0 t):=by
  subst hK hmg
  intro pins s σ H Q I h
  refine wpAny_Call_Name_kw (zk2 I hg hm ?_ hdb)
  refine W.callWith_K (h₀:=X.base) I.ok.mod.kin hk (thn (ha pos pins s σ H _ I h) λus s1 ⟨vs,H1,I1,r,q⟩=>⟨I1.kIn,?_⟩) he hpl
  have r2:Vals (vs ++ []) (us ++ []):=r.append .nil
  have hl:(us ++ []).length = ps.length:=by rw [<- r2.length]; exact F.len _ _ _ _ q
  refine wpAny_call (codeAny_mono (F.run X.A X.stack s1 H1 ⟨us,[]⟩ (us ++ []) (vs ++ []) Q E0 hr I1.env0 (hb s1 us I1.kIn hl) r2 q) λr s' hq=>?_)
  cases r with
  | error e=>exact False.elim hq
  | ok fl=>
    cases fl with
    | ret u=>exact I1.after hq
    | next=>exact False.elim hq
    | brk=>exact False.elim hq
    | cont=>exact False.elim hq
end
theorem yo8 (key:Nat->List Nat):∀ k i,i<=k->key (argBest (λi j=>decide (key i < key j)) k)<=key i/\argBest (λi j=>decide (key i < key j)) k<=k
  | 0,i,h=>by
    have e:i = 0:=by omega
    subst e
    exact ⟨List.le_refl _,Nat.le_refl _⟩
  | k + 1,i,h=>by
    have ih:=yo8 key k
    show key (if decide (key (k + 1) < key (argBest (λi j=>decide (key i < key j)) k)) = true then k + 1 else argBest (λi j=>decide (key i < key j)) k)<=key i/\(if decide (key (k + 1) < key (argBest (λi j=>decide (key i < key j)) k)) = true then k + 1 else argBest (λi j=>decide (key i < key j)) k)<=k + 1
    by_cases hb:key (k + 1) < key (argBest (λi j=>decide (key i < key j)) k)
    · rw [if_pos (by simpa using hb)]
      refine ⟨?_,Nat.le_refl _⟩
      by_cases hi:i = k + 1
      · subst hi; exact List.le_refl _
      · exact List.le_trans (List.le_of_lt hb) (ih i (by omega)).1
    · rw [if_neg (by simpa using hb)]
      refine ⟨?_,Nat.le_succ_of_le (ih 0 (Nat.zero_le _)).2⟩
      by_cases hi:i = k + 1
      · subst hi; exact hb
      · exact (ih i (by omega)).1
section
variable {X:Cx}
theorem yf6 (hc:X.calm = true):zn0 X (.builtin "min") (λxs H Q=>∃ (p:Addr) (ss:List Str),xs = [.ref p]/\SqL X.K H p (ss.map V.str)/\ss ≠ []/\∀ m:Str,m ∈ ss->(∀ x ∈ ss,m.cps.toList<=x.cps.toList)->Q (.str m) H):=by
  intro pins s σ H xs us Q I r h
  obtain ⟨p,ss,rfl,hq,hne,q⟩:=h
  obtain ⟨u,rfl,rx⟩:=zt6 r
  cases rx
  obtain ⟨its,r',pl,hz⟩:=I.list hq
  have hlen:=r'.length
  rw [List.length_map] at hlen
  have hs:∀ (i:Nat) (v:Value),its[i]? = some v->∃ t,v = Value.str (ss.getD i "") t:=λi v hv=>by
    have hi:i < ss.length:=by have:=(List.getElem?_eq_some_iff.mp hv).1; omega
    obtain ⟨u,hu,ru⟩:=r'.get (i:=i) (x:=.str ss[i]) (by rw [List.getElem?_map,List.getElem?_eq_getElem hi]; rfl)
    rw [hv] at hu
    cases hu
    obtain ⟨t,e⟩:=(show ∃ t,v = Value.str ss[i] t from ru)
    exact ⟨t,by rw [e,List.getD_eq_getElem?_getD,List.getElem?_eq_getElem hi]; rfl⟩
  obtain ⟨op,hop,_⟩:=id pl.isList
  have hlt:p < s.heap.objs.size:=Heap.lt_size hop
  have hh:X.A.in1.handled = none:=by simp [I.ok.hd hc]
  refine call_min_walk (wpAny_pyIter_list pl.isList ?_)
  have kp:∀ b o,s.heap.get? b = some o->(s.heap.push { cls:=.type "list_iterator",data:=.fields #[.ref p,.int 0 0] }).get? b = some o:=λb o e=>Heap.get?_push_of_some _ e
  have W:=Walks.list (prog:=X.prog) (w:=X.w) hh s.heap.objs.size p (Nat.ne_of_lt hlt) its.toArray
  have hn:0 < its.length:=by
    rw [<- hlen]
    exact List.length_pos_iff.mpr hne
  refine ⟨s.heap.objs.size,_,_,_,_,_,λi j=>decide ((ss.getD i "").cps.toList < (ss.getD j "").cps.toList),rfl,W,⟨⟨_,Heap.get?_push_size _ rfl,rfl,rfl⟩,pl.isList.push _⟩,λb hb=>?_,by simpa using hn,λi j vi vj s' Q' E' hi' hj' hQ'=>?_,λv h' tk hP hk=>?_⟩
  · rw [Heap.size_push]
    simp only [List.mem_cons,List.not_mem_nil,or_false] at hb
    rcases hb with rfl | rfl
    · exact Nat.lt_succ_self _
    · exact Nat.lt_succ_of_lt hlt
  · obtain ⟨t1,rfl⟩:=hs i vi (by simpa using hi')
    obtain ⟨t2,rfl⟩:=hs j vj (by simpa using hj')
    exact PyProof.Rows.lt_str hQ'
  · have bl:=yo8 (λi=>(ss.getD i "").cps.toList) (its.toArray.size - 1)
    generalize argBest (λi j=>decide ((ss.getD i "").cps.toList < (ss.getD j "").cps.toList)) (its.toArray.size - 1) = ix at hP bl
    obtain ⟨t1,rfl⟩:=hs ix v (by rw [<- List.getElem?_toArray]; exact hP)
    have hb:=(bl 0 (Nat.zero_le _)).2
    have hix:ix < ss.length:=by rw [List.size_toArray,<- hlen] at hb; rw [<- hlen] at hn; omega
    refine ⟨.str (ss.getD ix ""),H,I.kept (t':=tk) (λb o e=>hk b o (λz=>?_) (kp b o e)),⟨_,rfl⟩,q _ ?_ λx hx=>?_⟩
    · rw [List.mem_singleton.mp z] at e
      exact absurd (Heap.lt_size e) (Nat.lt_irrefl _)
    · rw [List.getD_eq_getElem?_getD,List.getElem?_eq_getElem hix]
      exact List.getElem_mem hix
    · obtain ⟨i,hi',e⟩:=List.mem_iff_getElem.mp hx
      have:=(bl i (by rw [List.size_toArray,<- hlen]; omega)).1
      have e2:ss.getD i "" = x:=by rw [List.getD_eq_getElem?_getD,List.getElem?_eq_getElem hi',e]; rfl
      rw [e2] at this
      exact this
end
theorem zu7 {K:PySem.W.Frag} {a D:Addr} {xs:List V} {g:TG} {tt:TT} {te:TE} {R:Hp->Prop} {σ0:St} {H1:Hp} (Pv:Nat->St->Hp->Prop) (h0:Pv 0 σ0 (upd H1 D (.lst []))) (hl:∀ i σ H,i<=xs.length->Pv i σ H->SqT K H a xs)
    (hs:∀ i x σ H,xs[i]? = some x->Pv i σ H->g x σ H λσ3 H3=>tt σ3 H3 λb H4=>if b = true then te σ3 H4 λy H5=>∃ zs,H5 D = some (.lst zs)/\zs.length < sizeLine/\Pv (i + 1) σ3 (upd H5 D (.lst (zs ++ [y]))) else Pv (i + 1) σ3 H4) (hd:∀ σ H,Pv xs.length σ H->R H) :
    ∃ W:Nat->Nat->St->Hp->Prop,(∃ m,W 0 m σ0 (upd H1 D (.lst [])))/\∀ i m σ' H',W i m σ' H' ->
      ((Itt K a).stop i H'/\R H')\/((Itt K a).go i H'/\∃ N:St->Hp->Prop,(∀ σ2 H2,N σ2 H2->∃ m',m' < m/\W (i + 1) m' σ2 H2) /\
        ∀ x H2,(Itt K a).yld i H' x H2->g x σ' H2 λσ3 H3=>tt σ3 H3 λb H4=>if b = true then te σ3 H4 λy H5=>∃ zs,H5 D = some (.lst zs)/\zs.length < sizeLine/\N σ3 (upd H5 D (.lst (zs ++ [y]))) else N σ3 H4):=
  xn1 (Q:=λ_ H=>R H) Pv h0 hl hs hd
theorem ze3 {K:PySem.W.Frag} {a D:Addr} {xs:List V} {g:TG} {tt:TT} {te:TE} {R:Hp->Prop} {σ0:St} {H1:Hp} (Pv:Nat->St->Hp->Prop) (h0:Pv 0 σ0 (upd H1 D (.lst []))) (hl:∀ i σ H,i<=xs.length->Pv i σ H->SqL K H a xs)
    (hs:∀ i x σ H,xs[i]? = some x->Pv i σ H->g x σ H λσ3 H3=>tt σ3 H3 λb H4=>if b = true then te σ3 H4 λy H5=>∃ zs,H5 D = some (.lst zs)/\zs.length < sizeLine/\Pv (i + 1) σ3 (upd H5 D (.lst (zs ++ [y]))) else Pv (i + 1) σ3 H4) (hd:∀ σ H,Pv xs.length σ H->R H) :
    ∃ W:Nat->Nat->St->Hp->Prop,(∃ m,W 0 m σ0 (upd H1 D (.lst [])))/\∀ i m σ' H',W i m σ' H' ->
      ((Itl K a).stop i H'/\R H')\/((Itl K a).go i H'/\∃ N:St->Hp->Prop,(∀ σ2 H2,N σ2 H2->∃ m',m' < m/\W (i + 1) m' σ2 H2) /\
        ∀ x H2,(Itl K a).yld i H' x H2->g x σ' H2 λσ3 H3=>tt σ3 H3 λb H4=>if b = true then te σ3 H4 λy H5=>∃ zs,H5 D = some (.lst zs)/\zs.length < sizeLine/\N σ3 (upd H5 D (.lst (zs ++ [y]))) else N σ3 H4):=
  ye5 (Q:=λ_ H=>R H) Pv h0 hl hs hd
theorem yc1 {lo:Int} {n:Nat} {D:Addr} {g:TG} {tt:TT} {te:TE} {R:Hp->Prop} {σ0:St} {H1:Hp} (Pv:Nat->St->Hp->Prop) (h0:Pv 0 σ0 (upd H1 D (.lst [])))
    (hs:∀ i σ H,i < n->Pv i σ H->g (.int (lo + i)) σ H λσ3 H3=>tt σ3 H3 λb H4=>if b = true then te σ3 H4 λy H5=>∃ zs,H5 D = some (.lst zs)/\zs.length < sizeLine/\Pv (i + 1) σ3 (upd H5 D (.lst (zs ++ [y]))) else Pv (i + 1) σ3 H4) (hd:∀ σ H,Pv n σ H->R H) :
    ∃ W:Nat->Nat->St->Hp->Prop,(∃ m,W 0 m σ0 (upd H1 D (.lst [])))/\∀ i m σ' H',W i m σ' H' ->
      ((Itr lo n).stop i H'/\R H')\/((Itr lo n).go i H'/\∃ N:St->Hp->Prop,(∀ σ2 H2,N σ2 H2->∃ m',m' < m/\W (i + 1) m' σ2 H2) /\
        ∀ x H2,(Itr lo n).yld i H' x H2->g x σ' H2 λσ3 H3=>tt σ3 H3 λb H4=>if b = true then te σ3 H4 λy H5=>∃ zs,H5 D = some (.lst zs)/\zs.length < sizeLine/\N σ3 (upd H5 D (.lst (zs ++ [y]))) else N σ3 H4):=
  yy9 (Q:=λ_ H=>R H) Pv h0 hs hd
section
variable {X:Cx}
theorem ze4:zn0 X (.builtin "sorted") (λxs H Q=>∃ (p:Addr) (ns:List Str),xs = [.ref p]/\SqL X.K H p (ns.map V.str)/\ns.length < 64 /\
    ∀ (l:Addr) (ns':List Str),H l = none->ns'.Perm ns->sortedS ns' = true->Q (.ref l) (upd H l (.lst (ns'.map V.str)))):=by
  intro pins s σ H xs us Q I r h
  obtain ⟨p,ns,rfl,hq,hl,q⟩:=h
  obtain ⟨u,rfl,rx⟩:=zt6 r
  cases rx
  obtain ⟨its,r',pl,hz⟩:=I.list hq
  have hlen:=r'.length
  rw [List.length_map] at hlen
  refine sorted_strs pl.isList (ym3 r') (by omega) λout ns' a1 a2 a3=>?_
  obtain ⟨e,he⟩:=sortedAll_at s.heap its out
  have hf:H (s.heap.objs.size + 1) = none:=I.hok.fresh (Nat.le_succ _)
  have hz':(ns'.map V.str).length<=sizeLine:=by
    rw [List.length_map,a2.length_eq]
    exact Nat.le_of_lt (zb5 (by omega))
  exact ⟨.ref (s.heap.objs.size + 1),_,I.laid (t':=s.toks) (o:=.lst (ns'.map V.str)) (λb ob z=>sortedAll_old z) (Nat.le_succ _) ⟨hz',out.toList,e,zv2 a1,he⟩,rfl,q _ _ hf a2 a3⟩
def xk1:V->List V->Hp->VK->Prop:=λx vs H Q=>∃ (p:Addr) (xs:List V) (y:V),x = .ref p/\vs = [y]/\H p = some (.lst xs)/\zf2 y = true/\xs.all zf2 = true/\Q (.int ((xs.countP λz=>eqV z y:Nat):Int)) H
theorem yy6:MtM X "list.count" xk1:=by
  intro pins s σ H x vs v us Q I rx rv h
  obtain ⟨p,xs,y,rfl,rfl,hp,fy,fs,q⟩:=h
  cases rx
  obtain ⟨u,rfl,ru⟩:=rv.one
  obtain ⟨hz,its,n,r,e1⟩:=(show zd7 X.prog X.w H s.heap p (.lst xs) from I.hok p _ hp)
  refine call_meets F.slot_list_count ⟨_,e1,rfl⟩ F.entry_list_count (F.args_list_count_2 _ _) (SeqAt.list_countAt p its.toArray n none _ u (eqU y)) ⟨e1,λw' hw=>zi8 ru fy r fs w' (by simpa using hw),?_⟩
  refine ⟨.int ((its.countP (eqU y):Nat):Int),H,I.kept (t':=s.toks + 1) λb o e=>e,⟨s.toks,rfl⟩,?_⟩
  rw [zo2 r fs]
  exact q
theorem xp5 {to:TE} {t:TA} {T:String} {r:V->List V->Hp->VK->Prop} {K:W.Frag} {ex:Expr} (hK:X.K = K) (h:PE X ex (tBM X.K T r to t)):PE X ex (tBM K T r to t):=by
  subst hK
  exact h
theorem PS.nox {st:Stmt} {t:TS} (h:PS X.nox st t):PS X st t:=λpins s σ H D I hw=>
  wpAny_mono (h pins s σ H D (I.wish _) hw) (λ_ _ q=>q.unwish) λ_ _ z=>False.elim z
end
end L2
namespace CD
open PySem L2 PyProof.Rows
inductive Cd where
  | truth (b:Bool)
  | same (x y:Key)
  | all (l:List Cd)
  | one (l:List Cd)
  | opp (c:Cd)
def come (f:Str->Int):Key->Int
  | .inl i=>i
  | .inr x=>f x
mutual
def ev (f:Str->Int):Cd->Bool
  | .truth b=>b
  | .same x y=>come f x == come f y
  | .all l=>evA f l
  | .one l=>evO f l
  | .opp c=>!ev f c
def evA (f:Str->Int):List Cd->Bool
  | []=>true
  | c :: r=>ev f c && evA f r
def evO (f:Str->Int):List Cd->Bool
  | []=>false
  | c :: r=>ev f c || evO f r
end
mutual
def cells:Cd->List Key
  | .truth _=>[]
  | .same x y=>[x,y]
  | .all l=>zh7 l
  | .one l=>zh7 l
  | .opp c=>cells c
def zh7:List Cd->List Key
  | []=>[]
  | c :: r=>cells c ++ zh7 r
end
mutual
def zf8:Cd->Int
  | .truth _=>0
  | .same _ _=>1
  | .all l=>yc5 l
  | .one l=>yc5 l
  | .opp c=>zf8 c
def yc5:List Cd->Int
  | []=>0
  | c :: r=>zf8 c + yc5 r
end
mutual
def depth:Cd->Nat
  | .truth _=>1
  | .same _ _=>1
  | .all l=>zy4 l + 1
  | .one l=>zy4 l + 1
  | .opp c=>depth c + 1
def zy4:List Cd->Nat
  | []=>0
  | c :: r=>max (depth c) (zy4 r)
end
theorem xa7 (f:Str->Int):∀ l:List Cd,evA f l = l.all (ev f)
  | []=>by simp [evA]
  | c :: r=>by simp [evA,xa7 f r]
theorem xa6 (f:Str->Int):∀ l:List Cd,evO f l = l.any (ev f)
  | []=>by simp [evO]
  | c :: r=>by simp [evO,xa6 f r]
theorem zh8 {k:Key}:∀ {l:List Cd},k ∈ zh7 l ↔ ∃ c ∈ l,k ∈ cells c
  | []=>by simp [zh7]
  | c :: r=>by simp [zh7,zh8 (l:=r)]
theorem zy3 {n:Nat}:∀ {l:List Cd},zy4 l<=n ↔ ∀ c ∈ l,depth c<=n
  | []=>by simp [zy4]
  | c :: r=>by simp [zy4,Nat.max_le,zy3 (l:=r)]
theorem zt1:∀ l:List Cd,yc5 l = (l.map zf8).sum
  | []=>by simp [yc5]
  | c :: r=>by simp [yc5,zt1 r]
theorem xa9:∀ c:Cd,0 < depth c
  | .truth _=>by simp [depth]
  | .same _ _=>by simp [depth]
  | .all _=>by simp [depth]
  | .one _=>by simp [depth]
  | .opp _=>by simp [depth]
mutual
theorem yf2 {f g:Str->Int}:∀ c:Cd,(∀ x,Sum.inr x ∈ cells c->f x = g x)->ev f c = ev g c
  | .truth _,_=>by simp [ev]
  | .same x y,h=>by
    have hx:come f x = come g x:=by
      cases x with
      | inl i=>rfl
      | inr s=>exact h s (by simp [cells])
    have hy:come f y = come g y:=by
      cases y with
      | inl i=>rfl
      | inr s=>exact h s (by simp [cells])
    simp [ev,hx,hy]
  | .all l,h=>by simp only [ev]; exact (zx9 l h).1
  | .one l,h=>by simp only [ev]; exact (zx9 l h).2
  | .opp c,h=>by simp only [ev]; rw [yf2 c (λx hx=>h x (by simpa [cells] using hx))]
theorem zx9 {f g:Str->Int}:∀ l:List Cd,(∀ x,Sum.inr x ∈ zh7 l->f x = g x)->evA f l = evA g l/\evO f l = evO g l
  | [],_=>⟨rfl,rfl⟩
  | c :: r,h=>by
    have h1:=yf2 c (λx hx=>h x (by simp [zh7,hx]))
    have h2:=zx9 r (λx hx=>h x (by simp [zh7,hx]))
    simp only [evA,evO,h1,h2.1,h2.2,and_self]
end
def zm4 (c:Cd):Bool:=(cells c).all λk=>k.isLeft
theorem zj6 {c:Cd}:zm4 c = true ↔ ∀ x,Sum.inr x ∉ cells c:=by
  unfold zm4
  rw [List.all_eq_true]
  constructor
  · intro h x hx
    have:=h _ hx
    cases this
  · intro h k hk
    cases k with
    | inl i=>rfl
    | inr x=>exact absurd hk (h x)
def setl (c:Cd):V:=if zm4 c = true then .bl (ev (λ_=>0) c) else .non
theorem zu4 {c:Cd} (h:zm4 c = true) (f:Str->Int):setl c = .bl (ev f c):=by
  unfold setl
  rw [if_pos h,yf2 (f:=λ_=>0) (g:=f) c (λx hx=>absurd hx (zj6.mp h x))]
theorem xj2 {c:Cd} (h:zm4 c = false):setl c = .non:=by
  unfold setl
  rw [if_neg (by rw [h]; exact Bool.false_ne_true)]
structure Cl where
  t:Addr
  s:Addr
  a:Addr
  o:Addr
  p:Addr
def Cl.of (T:Cl):Cd->Addr
  | .truth _=>T.t
  | .same _ _=>T.s
  | .all _=>T.a
  | .one _=>T.o
  | .opp _=>T.p
def ze2:List Str:=["holds","worked","truth","gaps","standing","atoms","put","replaced"]
structure Bas (H:Hp) (fs:List (Str × V)) (c:Cd):Prop where
  gp:∃ (tg:Addr) (gs:List Str),fs.lookup ("kept_gaps" : Str) = some (.ref tg)/\H tg = some (.tup (gs.map V.str))/\gs.Nodup/\sortedS gs = true/\∀ x,x ∈ gs ↔ Sum.inr x ∈ cells c
  vp:∃ (tv:Addr) (vs:List Int),fs.lookup ("kept_values" : Str) = some (.ref tv)/\H tv = some (.tup (vs.map V.int))/\vs.Nodup/\vs.Pairwise (·<=·)/\∀ x,x ∈ vs ↔ Sum.inl x ∈ cells c
  at_:fs.lookup ("kept_atoms" : Str) = some (.int (zf8 c))
  st:fs.lookup ("settled" : Str) = some (setl c)
mutual
def IsC (T:Cl) (H:Hp):Cd->V->Prop
  | .truth b,v=>∃ a dx fs,v = .ref a/\H a = some (.ins T.t dx fs)/\(∀ m ∈ ze2,fs.lookup m = none)/\Bas H fs (.truth b)/\fs.lookup ("said" : Str) = some (.bl b)
  | .same x y,v=>∃ a dx fs,v = .ref a/\H a = some (.ins T.s dx fs)/\(∀ m ∈ ze2,fs.lookup m = none)/\Bas H fs (.same x y)/\fs.lookup ("one" : Str) = some (kV x)/\fs.lookup ("other" : Str) = some (kV y)
  | .all l,v=>∃ a dx fs,v = .ref a/\H a = some (.ins T.a dx fs)/\(∀ m ∈ ze2,fs.lookup m = none)/\Bas H fs (.all l)/\∃ tp xs,fs.lookup ("parts" : Str) = some (.ref tp)/\H tp = some (.tup xs)/\IsL T H l xs
  | .one l,v=>∃ a dx fs,v = .ref a/\H a = some (.ins T.o dx fs)/\(∀ m ∈ ze2,fs.lookup m = none)/\Bas H fs (.one l)/\∃ tp xs,fs.lookup ("parts" : Str) = some (.ref tp)/\H tp = some (.tup xs)/\IsL T H l xs
  | .opp c,v=>∃ a dx fs,v = .ref a/\H a = some (.ins T.p dx fs)/\(∀ m ∈ ze2,fs.lookup m = none)/\Bas H fs (.opp c)/\∃ u,fs.lookup ("part" : Str) = some u/\IsC T H c u
def IsL (T:Cl) (H:Hp):List Cd->List V->Prop
  | [],xs=>xs = []
  | c :: r,xs=>∃ x ys,xs = x :: ys/\IsC T H c x/\IsL T H r ys
end
def Own (T:Cl) (H:Hp) (fs:List (Str × V)):Cd->Prop
  | .truth b=>fs.lookup ("said" : Str) = some (.bl b)
  | .same x y=>fs.lookup ("one" : Str) = some (kV x)/\fs.lookup ("other" : Str) = some (kV y)
  | .all l=>∃ tp xs,fs.lookup ("parts" : Str) = some (.ref tp)/\H tp = some (.tup xs)/\IsL T H l xs
  | .one l=>∃ tp xs,fs.lookup ("parts" : Str) = some (.ref tp)/\H tp = some (.tup xs)/\IsL T H l xs
  | .opp c=>∃ u,fs.lookup ("part" : Str) = some u/\IsC T H c u
theorem zh4 {T:Cl} {H:Hp} {c:Cd} {v:V}:IsC T H c v ↔ ∃ a dx fs,v = .ref a/\H a = some (.ins (T.of c) dx fs)/\(∀ m ∈ ze2,fs.lookup m = none)/\Bas H fs c/\Own T H fs c:=by
  cases c <;> simp only [IsC,Own,Cl.of]
structure Kp (H H':Hp):Prop where
  tup:∀ b xs,H b = some (.tup xs)->H' b = some (.tup xs)
  ins:∀ b C dx fs,H b = some (.ins C dx fs)->H' b = some (.ins C dx fs)
theorem Kp.of {H H':Hp} (s:Same H H'):Kp H H':=⟨λb xs h=>s b _ h,λb C dx fs h=>s b _ h⟩
theorem Bas.kp {H H':Hp} {fs:List (Str × V)} {c:Cd} (k:Kp H H') (b:Bas H fs c):Bas H' fs c:=by
  obtain ⟨⟨tg,gs,e1,e2,e3⟩,⟨tv,vs,e4,e5,e6⟩,e7,e8⟩:=b
  exact ⟨⟨tg,gs,e1,k.tup _ _ e2,e3⟩,⟨tv,vs,e4,k.tup _ _ e5,e6⟩,e7,e8⟩
mutual
theorem IsC.kp {T:Cl} {H H':Hp} (k:Kp H H'):∀ {c:Cd} {v:V},IsC T H c v->IsC T H' c v
  | .truth b,v,h=>by
    simp only [IsC] at h ⊢
    obtain ⟨a,dx,fs,e1,e2,e3,e4,e5⟩:=h
    exact ⟨a,dx,fs,e1,k.ins _ _ _ _ e2,e3,e4.kp k,e5⟩
  | .same x y,v,h=>by
    simp only [IsC] at h ⊢
    obtain ⟨a,dx,fs,e1,e2,e3,e4,e5⟩:=h
    exact ⟨a,dx,fs,e1,k.ins _ _ _ _ e2,e3,e4.kp k,e5⟩
  | .all l,v,h=>by
    simp only [IsC] at h ⊢
    obtain ⟨a,dx,fs,e1,e2,e3,e4,tp,xs,e5,e6,e7⟩:=h
    exact ⟨a,dx,fs,e1,k.ins _ _ _ _ e2,e3,e4.kp k,tp,xs,e5,k.tup _ _ e6,IsL.kp k e7⟩
  | .one l,v,h=>by
    simp only [IsC] at h ⊢
    obtain ⟨a,dx,fs,e1,e2,e3,e4,tp,xs,e5,e6,e7⟩:=h
    exact ⟨a,dx,fs,e1,k.ins _ _ _ _ e2,e3,e4.kp k,tp,xs,e5,k.tup _ _ e6,IsL.kp k e7⟩
  | .opp c,v,h=>by
    simp only [IsC] at h ⊢
    obtain ⟨a,dx,fs,e1,e2,e3,e4,u,e5,e6⟩:=h
    exact ⟨a,dx,fs,e1,k.ins _ _ _ _ e2,e3,e4.kp k,u,e5,IsC.kp k e6⟩
theorem IsL.kp {T:Cl} {H H':Hp} (k:Kp H H'):∀ {l:List Cd} {xs:List V},IsL T H l xs->IsL T H' l xs
  | [],xs,h=>h
  | c :: r,xs,h=>by
    simp only [IsL] at h ⊢
    obtain ⟨x,ys,e,h1,h2⟩:=h
    exact ⟨x,ys,e,IsC.kp k h1,IsL.kp k h2⟩
end
theorem Own.kp {T:Cl} {H H':Hp} {fs:List (Str × V)} {c:Cd} (k:Kp H H') (h:Own T H fs c):Own T H' fs c:=by
  cases c with
  | truth b=>exact h
  | same x y=>exact h
  | all l=>obtain ⟨tp,xs,e1,e2,e3⟩:=h; exact ⟨tp,xs,e1,k.tup _ _ e2,e3.kp k⟩
  | one l=>obtain ⟨tp,xs,e1,e2,e3⟩:=h; exact ⟨tp,xs,e1,k.tup _ _ e2,e3.kp k⟩
  | opp c=>obtain ⟨u,e1,e2⟩:=h; exact ⟨u,e1,e2.kp k⟩
theorem zj4 {T:Cl} {H:Hp}:∀ {l:List Cd} {xs:List V} {i:Nat} {x:V},IsL T H l xs->xs[i]? = some x->∃ c,l[i]? = some c/\IsC T H c x
  | [],xs,i,x,h,e=>by simp only [IsL] at h; subst h; simp at e
  | c :: r,xs,0,x,h,e=>by
    simp only [IsL] at h
    obtain ⟨y,ys,rfl,h1,h2⟩:=h
    simp at e; subst e
    exact ⟨c,rfl,h1⟩
  | c :: r,xs,i + 1,x,h,e=>by
    simp only [IsL] at h
    obtain ⟨y,ys,rfl,h1,h2⟩:=h
    obtain ⟨d,h3,h4⟩:=zj4 h2 (i:=i) (x:=x) (by simpa using e)
    exact ⟨d,by simpa using h3,h4⟩
theorem zg4 {T:Cl} {H:Hp}:∀ {l:List Cd} {xs:List V},IsL T H l xs->l.length = xs.length
  | [],xs,h=>by simp only [IsL] at h; subst h; rfl
  | c :: r,xs,h=>by
    simp only [IsL] at h
    obtain ⟨y,ys,rfl,_,h2⟩:=h
    simp [zg4 h2]
theorem zi9 {T:Cl} {H:Hp} {c:Cd} {x:V}:∀ {l:List Cd} {xs:List V},IsL T H l xs->IsC T H c x->IsL T H (l ++ [c]) (xs ++ [x])
  | [],xs,h,h'=>by simp only [IsL] at h; subst h; simp only [List.nil_append,IsL]; exact ⟨x,[],rfl,h',rfl⟩
  | d :: r,xs,h,h'=>by
    simp only [IsL] at h
    obtain ⟨y,ys,rfl,h1,h2⟩:=h
    simp only [List.cons_append,IsL]
    exact ⟨y,ys ++ [x],rfl,h1,zi9 h2 h'⟩
theorem zi2 {α:Type} [DecidableEq α]:∀ {l m:List α},l.Nodup->(∀ x ∈ l,x ∈ m)->l.length<=m.length
  | [],m,_,_=>Nat.zero_le _
  | a :: r,m,h,hs=>by
    obtain ⟨h1,h2⟩:=List.nodup_cons.mp h
    have ha:=hs a List.mem_cons_self
    have:=zi2 (l:=r) (m:=m.erase a) h2 (λx hx=>(List.mem_erase_of_ne (show x ≠ a from λe=>h1 (e ▸ hx))).mpr (hs x (List.mem_cons_of_mem _ hx)))
    rw [List.length_erase_of_mem ha] at this
    have hp:0 < m.length:=List.length_pos_of_mem ha
    rw [List.length_cons]
    omega
def zk4 (l:List Key):List Str:=l.filterMap λk=>match k with | .inl _=>none | .inr x=>some x
def zk5 (l:List Key):List Int:=l.filterMap λk=>match k with | .inl i=>some i | .inr _=>none
theorem yb9 {l:List Key} {x:Str}:x ∈ zk4 l ↔ Sum.inr x ∈ l:=by
  unfold zk4
  rw [List.mem_filterMap]
  constructor
  · rintro ⟨k,hk,e⟩
    cases k with
    | inl i=>cases e
    | inr y=>cases e; exact hk
  · intro h; exact ⟨_,h,rfl⟩
theorem yc0 {l:List Key} {x:Int}:x ∈ zk5 l ↔ Sum.inl x ∈ l:=by
  unfold zk5
  rw [List.mem_filterMap]
  constructor
  · rintro ⟨k,hk,e⟩
    cases k with
    | inl i=>cases e; exact hk
    | inr y=>cases e
  · intro h; exact ⟨_,h,rfl⟩
theorem xb6:∀ {ks:List Key},(∀ k ∈ ks,∃ x,k = Sum.inr x)->∃ xs:List Str,ks = xs.map Sum.inr
  | [],_=>⟨[],rfl⟩
  | k :: r,h=>by
    obtain ⟨x,rfl⟩:=h k List.mem_cons_self
    obtain ⟨xs,e⟩:=xb6 (ks:=r) λk hk=>h k (List.mem_cons_of_mem _ hk)
    exact ⟨x :: xs,by rw [e]; rfl⟩
theorem xb7:∀ {ks:List Key},(∀ k ∈ ks,∃ x,k = Sum.inl x)->∃ xs:List Int,ks = xs.map Sum.inl
  | [],_=>⟨[],rfl⟩
  | k :: r,h=>by
    obtain ⟨x,rfl⟩:=h k List.mem_cons_self
    obtain ⟨xs,e⟩:=xb7 (ks:=r) λk hk=>h k (List.mem_cons_of_mem _ hk)
    exact ⟨x :: xs,by rw [e]; rfl⟩
theorem zh1 {α β:Type} {f:α->β}:∀ {l:List α},(l.map f).Nodup->l.Nodup
  | [],_=>List.nodup_nil
  | a :: r,h=>by
    rw [List.map_cons,List.nodup_cons] at h
    exact List.nodup_cons.mpr ⟨λhm=>h.1 (List.mem_map.mpr ⟨a,hm,rfl⟩),zh1 h.2⟩
end CD
namespace K55
open PySem L2 CD
def top (i:Nat):Stmt:=PySem.Challenge.pw_maybetables_k55_pairs_refused.main.body.getD i (.Pass ⟨0,0,0,0⟩)
abbrev ya9:Stmt:=top 14
abbrev ya6:Stmt:=top 15
abbrev zz8:Stmt:=top 16
abbrev zr5:Stmt:=top 17
abbrev ya1:Stmt:=top 25
abbrev yq8:Stmt:=top 26
abbrev yp9:Stmt:=top 27
abbrev zn9:Stmt:=top 29
abbrev zr3:Stmt:=top 30
abbrev zr4:Stmt:=top 31
abbrev zr6:Stmt:=top 32
abbrev yq0:Stmt:=top 36
abbrev zn1:Stmt:=top 37
abbrev zr2:Stmt:=top 38
abbrev yq2:Stmt:=top 41
abbrev yq3:Stmt:=top 42
abbrev yq7:Stmt:=top 43
abbrev ya8:Stmt:=top 44
abbrev zq9:Stmt:=top 45
abbrev zr0:Stmt:=top 46
abbrev yq6:Stmt:=top 47
abbrev zz9:Stmt:=top 48
abbrev ya7:Stmt:=top 49
abbrev yq4:Stmt:=top 50
abbrev zr7:Stmt:=top 52
abbrev yq1:Stmt:=top 53
abbrev ya5:Stmt:=top 54
abbrev zr1:Stmt:=top 55
abbrev yq5:Stmt:=top 56
abbrev yb3:Stmt:=top 57
abbrev sDue:Stmt:=top 58
abbrev sLaw:Stmt:=top 59
abbrev zq8:Stmt:=ze9 (top 5) 0
abbrev yb0:Stmt:=ze9 (top 19) 0
abbrev zl6:Stmt:=ze9 (top 19) 2
abbrev ya0:Stmt:=ze9 (top 20) 0
abbrev zv9:Stmt:=ze9 (top 20) 1
abbrev ya2:Stmt:=ze9 (top 21) 0
abbrev zw0:Stmt:=ze9 (top 21) 1
abbrev yb4:Stmt:=ze9 (top 22) 0
abbrev zw3:Stmt:=ze9 (top 22) 1
abbrev ya4:Stmt:=ze9 (top 23) 0
abbrev zw2:Stmt:=ze9 (top 23) 1
abbrev ya3:Stmt:=ze9 (top 24) 0
abbrev zw1:Stmt:=ze9 (top 24) 1
abbrev zg6:Stmt:=ze9 (top 34) 0
abbrev yb2:Stmt:=ze9 (top 34) 1
abbrev yb1:Stmt:=ze9 (top 34) 2
abbrev zr8:Stmt:=ze9 (top 34) 3
structure Txt (mg:Str->Option Value):Prop where
  range:mg "range" = none
  len:mg "len" = none
  sorted:mg "sorted" = none
  list:mg "list" = none
  dict:mg "dict" = none
  isi:mg "isinstance" = none
  bool:mg "bool" = none
  str:mg "str" = none
  set:mg "set" = none
  tuple:mg "tuple" = none
  sum:mg "sum" = none
  max:mg "max" = none
  range2:mg "enumerate" = none
  min:mg "min" = none
  ve:mg "ValueError" = none
  zip:mg "zip" = none
  int:mg "int" = none
def Cal (P:Program) (w:World) (K:W.Frag) (mg:Str->Option Value) (base:Heap) (x:Str) (k:Nat) (ps:List Str) (sp:Sp):Prop:=
  ∃ f fd,FnOk P w K mg base CX0 k f fd ps sp/\zi3 K fd ps []/\W.keepIn K (.ref f) = true/\mg x = some (.ref f)
theorem same_new {H:Hp} {p:Addr} (h:H p = none) (o:HO):Same H (upd H p o):=λb u q=>by rw [za7 (ze5 q h)]; exact q
theorem zc4 {H H':Hp} {p:Addr} (s:Same H H') (h:H p = none) (o:HO):Same H (upd H' p o):=λb u q=>by rw [za7 (ze5 q h)]; exact s b u q
theorem _root_.L2.Same.tup {K:W.Frag} {H H':Hp} {a:Addr} {xs:List V} (e:Same H H') (h:SqT K H a xs):SqT K H' a xs:=by
  rcases h with (h | ⟨o,h⟩) | h
  · exact .inl (.inl (e _ _ h))
  · exact .inl (.inr ⟨o,e _ _ h⟩)
  · exact .inr h
theorem zb6 {n:Nat} (h:n<=4000):n<=sizeLine:=Nat.le_trans h (by decide)
theorem kit_is (K:W.Frag):W.kitOne K (.type "int") (.type "str") = some false:=by kernel_rfl
theorem yu1 {K:W.Frag} {H:Hp} (k:Key):TyOf K H (kV k) (match k with | .inl _=>.type "int" | .inr _=>.type "str"):=by
  cases k with
  | inl i=>exact .int i
  | inr x=>exact .str x
theorem yl0 (K:W.Frag) (k:Key):W.kitOne K (match k with | .inl _=>.type "int" | .inr _=>.type "str") (.type "str") = some k.isRight:=by
  cases k with
  | inl i=>exact kit_is K
  | inr x=>exact yz2 K "str"
theorem zw5 {n:String}:∀ u,RelV (.ty n) u->u = .type n:=λu r=>r
def Has (H:Hp) (d:Addr) (f:Str->Int) (ks:List Key):Prop:=∃ kvs,H d = some (.dK kvs)/\∀ x,Sum.inr x ∈ ks->valV kvs (Sum.inr x:Key) = some (.int (f x))
def zv5:Sp:=λvs H Q _=>∃ (k:Key) (d:Addr) (f:Str->Int),vs = [kV k,.ref d]/\Has H d f [k]/\Q (.int (come f k)) H
def zq7 (K:W.Frag):Sp:=λvs H Q _=>∃ (a:Addr) (ks:List Key),vs = [.ref a]/\SqL K H a (ks.map kV)/\ks.length<=4000/\∀ l H',Same H H'->H' l = some (.lst ((zk4 ks).map V.str))->Q (.ref l) H'
def zq6 (K:W.Frag):Sp:=λvs H Q _=>∃ (a:Addr) (ks:List Key),vs = [.ref a]/\SqL K H a (ks.map kV)/\ks.length<=4000/\∀ l H',Same H H'->H' l = some (.lst ((zk5 ks).map V.int))->Q (.ref l) H'
def Pool (ks:List Key) (n:Nat):Prop:=∃ pool:List Key,pool.length < 64/\n * pool.length<=3000/\∀ k ∈ ks,k ∈ pool
def zi5 (T:Cl) (K:W.Frag):Sp:=λvs H Q _=>∃ (a:Addr) (xs:List V) (l:List Cd),vs = [.ref a]/\(SqT K H a xs\/SqL K H a xs)/\IsL T H l xs/\Pool (zh7 l) l.length /\
  ∀ (r:Addr) (H':Hp) (ks:List Key),Same H H'->H r = none->H' r = some (.lst (ks.map kV))->ks.length<=3000->(∀ k:Key,k ∈ ks ↔ k ∈ zh7 l)->Q (.ref r) H'
section
variable {P:Program} {w:World} {K:W.Frag} {mg:Str->Option Value} {base:Heap} {f:Addr} {fd:FuncData}
theorem scCV:FnScope ["cell","filling"] ["cell","filling"] (za1 ya9):=⟨rfl,rfl,rfl,by decide +kernel,rfl,by decide +kernel,by decide +kernel⟩
theorem xe6 (F:Fun K "cell_value" "cell_value" ya9 f fd) (T:Txt mg):FnOk P w K mg base CX0 1 f fd ["cell","filling"] zv5:=by
  refine F.ok scCV (λvs H Q E h=>?_) (λcdv A outer s H vs Q E hr h=>?_)
  · obtain ⟨k,d,f,rfl,_⟩:=h
    rfl
  obtain ⟨k,d,fl,rfl,⟨kvs,hd,hk⟩,q⟩:=h
  have hu:=xw4 hr
  refine ⟨_,za3 (zg5 (zt2 (zb4 yf7 rfl T.isi PyProof.Rows.boot_isinstance (za0 (pv 0) (za0 (zw9 (v:=.ty "str") rfl T.str PyProof.Rows.boot_str rfl) za2)))) (za4 (zb9 (xk8 hu (pv 1) (pv 0) (λ_ _=>rfl)))) zb8)
    (za4 (zb9 (pv 0))),?_⟩
  refine ⟨_,rfl,_,_,_,_,_,rfl,zw5,yu1 k,yl0 K k,_,rfl,?_⟩
  cases k with
  | inl i=>exact iteF ⟨_,rfl,q⟩
  | inr x=>
    refine iteT ⟨_,rfl,_,rfl,d,_,rfl,?_,q⟩
    have e:valV kvs (Sum.inr x:Key) = some (.int (come fl (Sum.inr x))):=hk x (by simp)
    rw [<- e]
    exact DGet.k (k:=Sum.inr x) hd
theorem scGA:FnScope ["cells"] ["cells"] (za1 ya6):=⟨rfl,rfl,rfl,by decide +kernel,rfl,by decide +kernel,by decide +kernel⟩
theorem nd1 (x:Str):([x]:List Str).Nodup:=by simp
theorem xi1 {ks:List Key} {i:Nat} {x:V} (hi:(ks.map kV)[i]? = some x):∃ k,ks[i]? = some k/\x = kV k:=by
  rw [List.getElem?_map] at hi
  cases z:ks[i]? with
  | none=>rw [z] at hi; cases hi
  | some v=>rw [z] at hi; exact ⟨v,rfl,(Option.some.inj hi).symm⟩
theorem zq0 (l:List Key):(zk4 l).length<=l.length:=List.length_filterMap_le _ _
theorem zs5 (l:List Key):(zk5 l).length<=l.length:=List.length_filterMap_le _ _
theorem yj5 (l:List Key) (k:Key):zk4 (l ++ [k]) = zk4 l ++ (match k with | .inl _=>[] | .inr x=>[x]):=by
  unfold zk4
  rw [List.filterMap_append]
  cases k <;> rfl
theorem yl5 (l:List Key) (k:Key):zk5 (l ++ [k]) = zk5 l ++ (match k with | .inl x=>[x] | .inr _=>[]):=by
  unfold zk5
  rw [List.filterMap_append]
  cases k <;> rfl
theorem zd6 {α:Type} {l:List α} {i:Nat} {a:α} (h:l[i]? = some a):l.take (i + 1) = l.take i ++ [a]:=by
  rw [List.take_add_one,h]; rfl
theorem xe2 (F:Fun K "gaps_among" "gaps_among" ya6 f fd) (T:Txt mg):FnOk P w K mg base CX0 1 f fd ["cells"] (zq7 K):=by
  refine F.ok scGA (λvs H Q E h=>?_) (λcdv A outer s H vs Q E hr h=>?_)
  · obtain ⟨a,ks,rfl,_⟩:=h
    rfl
  obtain ⟨a,ks,rfl,hS,hl,q⟩:=h
  refine ⟨_,za4 (zb9 (zh6 (caps:=[]) ["cell"] rfl (ze1 (pv 0)) ⟨rfl,by decide +kernel,by decide +kernel,rfl,.nil,rfl,rfl,rfl⟩
    (λs H ex=>zb2 (X:=cxLG _ _ _ _ s H ex) (i:=0) (nd1 _) rfl (Or.inl rfl) (.inr rfl))
    (λs H ex=>zj2 (zt2 (zb4 (yi9 (K:=K) rfl) rfl T.isi PyProof.Rows.boot_isinstance (za0 (pe_var (X:=cxLG _ _ _ _ s H ex) (i:=0) rfl (Or.inl rfl)) (za0 (zw9 (v:=.ty "str") rfl T.str PyProof.Rows.boot_str rfl) za2)))))
    (λs H ex=>pe_var (X:=cxLG _ _ _ _ s H ex) (i:=0) rfl (Or.inl rfl)))),?_⟩
  refine ⟨_,rfl,a,rfl,⟨_,hS⟩,λD hD=>?_⟩
  refine ye5 (K:=K) (a:=a) (xs:=ks.map kV) (λi σ H2=>∃ u,σ = [u]/\Same H H2/\H2 D = some (.lst ((zk4 (ks.take i)).map V.str)))
    ⟨none,rfl,same_new hD _,upd_same⟩ (λi σ H2 _ ⟨_,_,s2,_⟩=>s2.seq hS) ?_ ?_
  · rintro i x σ H2 hi ⟨u,rfl,s2,h2⟩
    obtain ⟨k,hk,rfl⟩:=xi1 hi
    refine ⟨_,rfl,_,_,_,_,_,rfl,zw5,yu1 k,yl0 K k,_,rfl,?_⟩
    rw [zd6 hk,yj5]
    cases k with
    | inl j=>exact iteF ⟨_,rfl,s2,by simpa using h2⟩
    | inr y=>
      refine iteT ⟨_,rfl,_,h2,?_,_,rfl,zc4 s2 hD _,?_⟩
      · have:=zq0 (ks.take i)
        have:(ks.take i).length<=ks.length:=by rw [List.length_take]; omega
        rw [List.length_map]
        exact Nat.lt_of_le_of_lt (by omega:_<=4000) (by decide)
      · rw [upd_same,List.map_append]; rfl
  · rintro σ H2 ⟨u,rfl,s2,h2⟩
    rw [List.length_map,List.take_length] at h2
    exact q D H2 s2 h2
theorem scVA:FnScope ["cells"] ["cells"] (za1 zz8):=⟨rfl,rfl,rfl,by decide +kernel,rfl,by decide +kernel,by decide +kernel⟩
theorem xd2 (F:Fun K "values_among" "values_among" zz8 f fd) (T:Txt mg):FnOk P w K mg base CX0 1 f fd ["cells"] (zq6 K):=by
  refine F.ok scVA (λvs H Q E h=>?_) (λcdv A outer s H vs Q E hr h=>?_)
  · obtain ⟨a,ks,rfl,_⟩:=h
    rfl
  obtain ⟨a,ks,rfl,hS,hl,q⟩:=h
  refine ⟨_,za4 (zb9 (zh6 (caps:=[]) ["cell"] rfl (ze1 (pv 0)) ⟨rfl,by decide +kernel,by decide +kernel,rfl,.nil,rfl,rfl,rfl⟩
    (λs H ex=>zb2 (X:=cxLG _ _ _ _ s H ex) (i:=0) (nd1 _) rfl (Or.inl rfl) (.inr rfl))
    (λs H ex=>zj2 (yn2 (zt2 (zb4 (yi9 (K:=K) rfl) rfl T.isi PyProof.Rows.boot_isinstance (za0 (pe_var (X:=cxLG _ _ _ _ s H ex) (i:=0) rfl (Or.inl rfl)) (za0 (zw9 (v:=.ty "str") rfl T.str PyProof.Rows.boot_str rfl) za2))))))
    (λs H ex=>pe_var (X:=cxLG _ _ _ _ s H ex) (i:=0) rfl (Or.inl rfl)))),?_⟩
  refine ⟨_,rfl,a,rfl,⟨_,hS⟩,λD hD=>?_⟩
  refine ye5 (K:=K) (a:=a) (xs:=ks.map kV) (λi σ H2=>∃ u,σ = [u]/\Same H H2/\H2 D = some (.lst ((zk5 (ks.take i)).map V.int)))
    ⟨none,rfl,same_new hD _,upd_same⟩ (λi σ H2 _ ⟨_,_,s2,_⟩=>s2.seq hS) ?_ ?_
  · rintro i x σ H2 hi ⟨u,rfl,s2,h2⟩
    obtain ⟨k,hk,rfl⟩:=xi1 hi
    refine ⟨_,rfl,_,_,_,_,_,rfl,zw5,yu1 k,yl0 K k,_,rfl,?_⟩
    rw [zd6 hk,yl5]
    cases k with
    | inr j=>exact iteF ⟨_,rfl,s2,by simpa using h2⟩
    | inl y=>
      refine iteT ⟨_,rfl,_,h2,?_,_,rfl,zc4 s2 hD _,?_⟩
      · have:=zs5 (ks.take i)
        have:(ks.take i).length<=ks.length:=by rw [List.length_take]; omega
        rw [List.length_map]
        exact Nat.lt_of_le_of_lt (by omega:_<=4000) (by decide)
      · rw [upd_same,List.map_append]; rfl
  · rintro σ H2 ⟨u,rfl,s2,h2⟩
    rw [List.length_map,List.take_length] at h2
    exact q D H2 s2 h2
theorem scCW:FnScope ["parts","cells","part"] ["parts"] (za1 zr5):=⟨rfl,rfl,rfl,by decide +kernel,rfl,by decide +kernel,by decide +kernel⟩
structure Clz (K:W.Frag) (T:Cl):Prop where
  cl:∀ c:Cd,Cls K (T.of c)
  ng:∀ c:Cd,zd9 K (T.of c) "kept_gaps"
  nv:∀ c:Cd,zd9 K (T.of c) "kept_values"
  na:∀ c:Cd,zd9 K (T.of c) "kept_atoms"
  ns:∀ c:Cd,zd9 K (T.of c) "settled"
  nsd:zd9 K T.t "said"
  no1:zd9 K T.s "one"
  no2:zd9 K T.s "other"
  npa:zd9 K T.a "parts"
  npo:zd9 K T.o "parts"
  npp:zd9 K T.p "part"
theorem yr0 {gs:List Str} {vs:List Int} {c:Cd} {pool:List Key} (h1:gs.Nodup) (h2:∀ x,x ∈ gs ↔ Sum.inr x ∈ cells c) (h3:vs.Nodup) (h4:∀ x,x ∈ vs ↔ Sum.inl x ∈ cells c) (hp:∀ k ∈ cells c,k ∈ pool):gs.length + vs.length<=pool.length:=by
  have e:(gs.map (Sum.inr:Str->Key) ++ vs.map (Sum.inl:Int->Key)).length<=pool.length:=by
    refine zi2 ?_ λk hk=>?_
    · rw [List.nodup_append]
      refine ⟨?_,?_,?_⟩
      · exact (List.pairwise_map.mpr (h1.imp λh e=>h (Sum.inr.inj e)))
      · exact (List.pairwise_map.mpr (h3.imp λh e=>h (Sum.inl.inj e)))
      · intro a ha b hb e
        obtain ⟨x,_,rfl⟩:=List.mem_map.mp ha
        obtain ⟨y,_,rfl⟩:=List.mem_map.mp hb
        cases e
    · rcases List.mem_append.mp hk with h | h
      · obtain ⟨x,hx,rfl⟩:=List.mem_map.mp h
        exact hp _ ((h2 x).mp hx)
      · obtain ⟨x,hx,rfl⟩:=List.mem_map.mp h
        exact hp _ ((h4 x).mp hx)
  rw [List.length_append,List.length_map,List.length_map] at e
  exact e
theorem yx6 {T:Cl} (F:Fun K "cells_within" "cells_within" zr5 f fd) (Z:Clz K T):FnOk P w K mg base CX0 1 f fd ["parts"] (zi5 T K):=by
  refine F.ok scCW (λvs H Q E h=>?_) (λcdv A outer s H vs Q E hr h=>?_)
  · obtain ⟨a,xs,l,rfl,_⟩:=h
    rfl
  obtain ⟨a,xs,l,rfl,hS,hL,⟨pool,p1,p2,p3⟩,q⟩:=h
  have hll:=zg4 hL
  have turn:∀ (D:Addr) (i:Nat) (x:V) (ks:List Key) (H2:Hp) (R:Hp->Prop),xs[i]? = some x->H D = none->Same H H2->H2 D = some (.lst (ks.map kV))->(∀ k:Key,k ∈ ks ↔ ∃ c ∈ l.take i,k ∈ cells c)->ks.length<=i * pool.length ->
      (∀ (ks':List Key) (H3:Hp),Same H H3->H3 D = some (.lst (ks'.map kV))->(∀ k:Key,k ∈ ks' ↔ ∃ c ∈ l.take (i + 1),k ∈ cells c)->ks'.length<=(i + 1) * pool.length->R H3) ->
      ∃ (ap:Addr) (C dx:Addr) (fs:List (Str × V)) (tg tv:Addr) (gs:List Str) (vs:List Int),x = .ref ap/\H2 ap = some (.ins C dx fs)/\Cls K C/\zd9 K C "kept_gaps"/\zd9 K C "kept_values"/\fs.lookup ("kept_gaps" : Str) = some (.ref tg)/\fs.lookup ("kept_values" : Str) = some (.ref tv) /\
        SqT K H2 tg (gs.map V.str)/\(ks.map kV).length + (gs.map V.str).length<=sizeLine/\(upd H2 D (.lst (ks.map kV ++ gs.map V.str))) ap = some (.ins C dx fs)/\(upd H2 D (.lst (ks.map kV ++ gs.map V.str))) D = some (.lst (ks.map kV ++ gs.map V.str))/\SqT K (upd H2 D (.lst (ks.map kV ++ gs.map V.str))) tv (vs.map V.int) /\
        (ks.map kV ++ gs.map V.str).length + (vs.map V.int).length<=sizeLine/\R (upd (upd H2 D (.lst (ks.map kV ++ gs.map V.str))) D (.lst (ks.map kV ++ gs.map V.str ++ vs.map V.int))):=by
    intro D i x ks H2 R hi hD s2 hd hk hkl hR
    obtain ⟨c,hc,hC⟩:=zj4 hL hi
    have hcm:=List.mem_of_getElem? hc
    have hil:i < l.length:=(List.getElem?_eq_some_iff.mp hc).1
    obtain ⟨ap,dx,fs,rfl,ha,_,⟨⟨tg,gs,g1,g2,g3,g4,g5⟩,⟨tv,vs,v1,v2,v3,v4,v5⟩,_,_⟩,_⟩:=zh4.mp hC
    have hb:=yr0 g3 g5 v3 v5 (λk hk=>p3 k (zh8.mpr ⟨c,hcm,hk⟩))
    have nda:ap ≠ D:=ze5 ha hD
    have ntv:tv ≠ D:=ze5 v2 hD
    have bnd:(i + 1) * pool.length<=3000:=Nat.le_trans (Nat.mul_le_mul_right _ hil) p2
    rw [Nat.succ_mul] at bnd
    refine ⟨ap,_,dx,fs,tg,tv,gs,vs,rfl,s2 _ _ ha,Z.cl c,Z.ng c,Z.nv c,g1,v1,SqT.of (s2 _ _ g2),?_,?_,upd_same,SqT.of (by rw [za7 ntv]; exact s2 _ _ v2),?_,?_⟩
    · rw [List.length_map,List.length_map]; exact zb6 (by omega)
    · rw [za7 nda]; exact s2 _ _ ha
    · rw [List.length_append,List.length_map,List.length_map,List.length_map]; exact zb6 (by omega)
    · refine hR (ks ++ gs.map Sum.inr ++ vs.map Sum.inl) _ (zc4 (zc4 s2 hD _) hD _) ?_ ?_ ?_
      · rw [upd_same,List.map_append,List.map_append,List.map_map,List.map_map]; rfl
      · intro k
        rw [List.take_add_one,hc]
        simp only [List.mem_append,hk,List.mem_map]
        constructor
        · rintro ((⟨c',h1,h2⟩ | ⟨y,hy,rfl⟩) | ⟨y,hy,rfl⟩)
          · exact ⟨c',.inl h1,h2⟩
          · exact ⟨c,.inr (by simp),(g5 y).mp hy⟩
          · exact ⟨c,.inr (by simp),(v5 y).mp hy⟩
        · rintro ⟨c',h1 | h1,h2⟩
          · exact .inl (.inl ⟨c',h1,h2⟩)
          · have e:c' = c:=by simpa using h1
            subst e
            cases k with
            | inl y=>exact .inr ⟨y,(v5 y).mpr h2,rfl⟩
            | inr y=>exact .inl (.inr ⟨y,(g5 y).mpr h2,rfl⟩)
      · rw [List.length_append,List.length_append,List.length_map,List.length_map,Nat.succ_mul]; omega
  have fin:∀ (D:Addr) (H2:Hp) (ks:List Key),H D = none->Same H H2->H2 D = some (.lst (ks.map kV))->(∀ k:Key,k ∈ ks ↔ ∃ c ∈ l.take xs.length,k ∈ cells c)->ks.length<=xs.length * pool.length->Q (.ref D) H2:=by
    intro D H2 ks hD0 s2 hd hk hkl
    rw [<- hll,List.take_length] at hk
    rw [<- hll] at hkl
    exact q D H2 ks s2 hD0 hd (by omega) λk=>(hk k).trans zh8.symm
  rcases hS with hS | hS
  · refine ⟨_,za3 (zc7 (i:=1) scCW.nd rfl (Or.inl rfl) (ze7 za2))
      (za3 (zi6 PassesOwn.never rfl (zt3 (pv 0)) (zb2 (i:=2) scCW.nd rfl (Or.inl rfl))
        (za3 (zd3 (zz2 PySem.F.plainAttrs_list PySem.F.slot_list_extend PySem.F.type_list_extend zj7 (pv 1) (za0 (zd8 (pv 2) rfl) za2)))
        (za4 (zd3 (zz2 PySem.F.plainAttrs_list PySem.F.slot_list_extend PySem.F.type_list_extend zj7 (pv 1) (za0 (zd8 (pv 2) rfl) za2))))))
      (za4 (zb9 (pv 1)))),?_⟩
    refine ⟨zb6 (by decide),λD hD=>?_⟩
    refine ⟨_,rfl,a,rfl,⟨_,(same_new hD _).tup hS⟩,yf0 (K:=K) (a:=a) (xs:=xs) (λi σ H2=>∃ (ks:List Key) (u:Option V),σ = [some (.ref a),some (.ref D),u]/\Same H H2/\H2 D = some (.lst (ks.map kV))/\(∀ k:Key,k ∈ ks ↔ ∃ c ∈ l.take i,k ∈ cells c)/\ks.length<=i * pool.length)
      ⟨[],none,rfl,same_new hD _,upd_same,by simp,Nat.zero_le _⟩ (λi σ H2 _ ⟨_,_,_,s2,_⟩=>s2.tup hS) ?_ ?_⟩
    · rintro i x σ H2 hi ⟨ks,u,rfl,s2,hd,hk,hkl⟩
      obtain ⟨ap,C,dx,fs,tg,tv,gs,vs,rfl,ha,c1,c2,c3,l1,l2,z1,z2,z3,z4,z5,z6,hR⟩:=turn D i x ks H2 (λH3=>∃ (ks:List Key) (u:Option V),([some (.ref a),some (.ref D),some x]:St) = [some (.ref a),some (.ref D),u]/\Same H H3/\H3 D = some (.lst (ks.map kV))/\(∀ k:Key,k ∈ ks ↔ ∃ c ∈ l.take (i + 1),k ∈ cells c)/\ks.length<=(i + 1) * pool.length) hi hD s2 hd hk hkl
        (λks' H3 s3 h3 k3 l3=>⟨ks',_,rfl,s3,h3,k3,l3⟩)
      refine ⟨_,rfl,.inl ⟨rfl,_,SqL.of hd⟩,_,rfl,ap,C,dx,fs,_,rfl,ha,c1,c2,l1,D,tg,_,_,rfl,rfl,hd,z1,z2,?_⟩
      exact ⟨_,rfl,.inl ⟨rfl,_,SqL.of z4⟩,_,rfl,ap,C,dx,fs,_,rfl,z3,c1,c3,l2,D,tv,_,_,rfl,rfl,z4,z5,z6,hR⟩
    · rintro σ H2 ⟨ks,u,rfl,s2,hd,hk,hkl⟩
      exact ⟨_,rfl,fin D H2 ks hD s2 hd hk hkl⟩
  · refine ⟨_,za3 (zc7 (i:=1) scCW.nd rfl (Or.inl rfl) (ze7 za2))
      (za3 (zi6 PassesOwn.never rfl (ze1 (pv 0)) (zb2 (i:=2) scCW.nd rfl (Or.inl rfl))
        (za3 (zd3 (zz2 PySem.F.plainAttrs_list PySem.F.slot_list_extend PySem.F.type_list_extend zj7 (pv 1) (za0 (zd8 (pv 2) rfl) za2)))
        (za4 (zd3 (zz2 PySem.F.plainAttrs_list PySem.F.slot_list_extend PySem.F.type_list_extend zj7 (pv 1) (za0 (zd8 (pv 2) rfl) za2))))))
      (za4 (zb9 (pv 1)))),?_⟩
    refine ⟨zb6 (by decide),λD hD=>?_⟩
    refine ⟨_,rfl,a,rfl,⟨_,(same_new hD _).seq hS⟩,zn5 (K:=K) (a:=a) (xs:=xs) (λi σ H2=>∃ (ks:List Key) (u:Option V),σ = [some (.ref a),some (.ref D),u]/\Same H H2/\H2 D = some (.lst (ks.map kV))/\(∀ k:Key,k ∈ ks ↔ ∃ c ∈ l.take i,k ∈ cells c)/\ks.length<=i * pool.length)
      ⟨[],none,rfl,same_new hD _,upd_same,by simp,Nat.zero_le _⟩ (λi σ H2 _ ⟨_,_,_,s2,_⟩=>s2.seq hS) ?_ ?_⟩
    · rintro i x σ H2 hi ⟨ks,u,rfl,s2,hd,hk,hkl⟩
      obtain ⟨ap,C,dx,fs,tg,tv,gs,vs,rfl,ha,c1,c2,c3,l1,l2,z1,z2,z3,z4,z5,z6,hR⟩:=turn D i x ks H2 (λH3=>∃ (ks:List Key) (u:Option V),([some (.ref a),some (.ref D),some x]:St) = [some (.ref a),some (.ref D),u]/\Same H H3/\H3 D = some (.lst (ks.map kV))/\(∀ k:Key,k ∈ ks ↔ ∃ c ∈ l.take (i + 1),k ∈ cells c)/\ks.length<=(i + 1) * pool.length) hi hD s2 hd hk hkl
        (λks' H3 s3 h3 k3 l3=>⟨ks',_,rfl,s3,h3,k3,l3⟩)
      refine ⟨_,rfl,.inl ⟨rfl,_,SqL.of hd⟩,_,rfl,ap,C,dx,fs,_,rfl,ha,c1,c2,l1,D,tg,_,_,rfl,rfl,hd,z1,z2,?_⟩
      exact ⟨_,rfl,.inl ⟨rfl,_,SqL.of z4⟩,_,rfl,ap,C,dx,fs,_,rfl,z3,c1,c3,l2,D,tv,_,_,rfl,rfl,z4,z5,z6,hR⟩
    · rintro σ H2 ⟨ks,u,rfl,s2,hd,hk,hkl⟩
      exact ⟨_,rfl,fin D H2 ks hD s2 hd hk hkl⟩
end
def zz1 (K:W.Frag) (C:Addr) (m qual:Str) (st:Stmt) (ps:List Str):Prop:=∃ f fd,Meth K C m f/\Fun K m qual st f fd/\zi3 K fd ps []
structure Tc (K:W.Frag) (mg:Str->Option Value) (T:Cl) (CC:Addr):Prop where
  z:Clz K T
  x:Txt mg
  dj:[T.t,T.s,T.a,T.o,T.p].Nodup
  hH:∀ c:Cd,zz1 K (T.of c) "holds" "Cond.holds" zl6 ["self","filling","told"]
  wT:zz1 K T.t "worked" "Truth.worked" zv9 ["self","filling","told"]
  wS:zz1 K T.s "worked" "Same.worked" zw0 ["self","filling","told"]
  wA:zz1 K T.a "worked" "AllOf.worked" zw3 ["self","filling","told"]
  wO:zz1 K T.o "worked" "OneOf.worked" zw2 ["self","filling","told"]
  wP:zz1 K T.p "worked" "Opposite.worked" zw1 ["self","filling","told"]
theorem Tc.of_t {K:W.Frag} {mg:Str->Option Value} {T:Cl} {CC:Addr} (h:Tc K mg T CC) {c:Cd} (e:T.of c = T.t):∃ b,c = .truth b:=by
  have:=h.dj
  simp only [List.nodup_cons,List.mem_cons,List.not_mem_nil,or_false,not_or] at this
  cases c with
  | truth b=>exact ⟨b,rfl⟩
  | same x y=>exact absurd e.symm this.1.1
  | all l=>exact absurd e.symm this.1.2.1
  | one l=>exact absurd e.symm this.1.2.2.1
  | opp c=>exact absurd e.symm this.1.2.2.2
theorem Tc.of_s {K:W.Frag} {mg:Str->Option Value} {T:Cl} {CC:Addr} (h:Tc K mg T CC) {c:Cd} (e:T.of c = T.s):∃ x y,c = .same x y:=by
  have:=h.dj
  simp only [List.nodup_cons,List.mem_cons,List.not_mem_nil,or_false,not_or] at this
  cases c with
  | truth b=>exact absurd e this.1.1
  | same x y=>exact ⟨x,y,rfl⟩
  | all l=>exact absurd e.symm this.2.1.1
  | one l=>exact absurd e.symm this.2.1.2.1
  | opp c=>exact absurd e.symm this.2.1.2.2
theorem Tc.of_a {K:W.Frag} {mg:Str->Option Value} {T:Cl} {CC:Addr} (h:Tc K mg T CC) {c:Cd} (e:T.of c = T.a):∃ l,c = .all l:=by
  have:=h.dj
  simp only [List.nodup_cons,List.mem_cons,List.not_mem_nil,or_false,not_or] at this
  cases c with
  | truth b=>exact absurd e this.1.2.1
  | same x y=>exact absurd e this.2.1.1
  | all l=>exact ⟨l,rfl⟩
  | one l=>exact absurd e.symm this.2.2.1.1
  | opp c=>exact absurd e.symm this.2.2.1.2
theorem Tc.of_o {K:W.Frag} {mg:Str->Option Value} {T:Cl} {CC:Addr} (h:Tc K mg T CC) {c:Cd} (e:T.of c = T.o):∃ l,c = .one l:=by
  have:=h.dj
  simp only [List.nodup_cons,List.mem_cons,List.not_mem_nil,or_false,not_or] at this
  cases c with
  | truth b=>exact absurd e this.1.2.2.1
  | same x y=>exact absurd e this.2.1.2.1
  | all l=>exact absurd e this.2.2.1.1
  | one l=>exact ⟨l,rfl⟩
  | opp c=>exact absurd e.symm this.2.2.2.1
theorem Tc.of_p {K:W.Frag} {mg:Str->Option Value} {T:Cl} {CC:Addr} (h:Tc K mg T CC) {c:Cd} (e:T.of c = T.p):∃ d,c = .opp d:=by
  have:=h.dj
  simp only [List.nodup_cons,List.mem_cons,List.not_mem_nil,or_false,not_or] at this
  cases c with
  | truth b=>exact absurd e this.1.2.2.2
  | same x y=>exact absurd e this.2.1.2.2
  | all l=>exact absurd e this.2.2.1.2
  | one l=>exact absurd e this.2.2.2.1
  | opp c=>exact ⟨c,rfl⟩
def dom (T:Cl) (C:Addr):Prop:=∃ c:Cd,T.of c = C
def xh5 (T:Cl) (n:Nat):Sp:=λvs H Q _=>∃ (v:V) (d t:Addr) (c:Cd) (f:Str->Int),vs = [v,.ref d,.ref t]/\IsC T H c v/\depth c<=n/\zm4 c = true/\Q (.bl (ev f c)) H
def zz6 (T:Cl) (n:Nat) (C:Addr):Sp:=λvs H Q _=>∃ (a d t:Addr) (H0:Hp) (c:Cd) (dx:Addr) (fs:List (Str × V)) (f:Str->Int),vs = [.ref a,.ref d,.ref t]/\T.of c = C/\H a = some (.ins C dx fs)/\Same H0 H/\Own T H0 fs c/\depth c<=n + 1/\Has H d f (cells c)/\zm4 c = true/\Q (.bl (ev f c)) H
theorem ye3 {c d:Cd} (h:zm4 d = true) (hs:∀ x:Str,Sum.inr x ∈ cells c->Sum.inr x ∈ cells d):zm4 c = true:=zj6.mpr λx hx=>zj6.mp h x (hs x hx)
theorem Has.sub {H:Hp} {d:Addr} {f:Str->Int} {ks ks':List Key} (h:Has H d f ks) (hs:∀ x:Str,Sum.inr x ∈ ks'->Sum.inr x ∈ ks):Has H d f ks':=by
  obtain ⟨kvs,h1,h2⟩:=h
  exact ⟨kvs,h1,λx hx=>h2 x (hs x hx)⟩
section
variable {P:Program} {w:World} {K:W.Frag} {mg:Str->Option Value} {base:Heap} {f:Addr} {fd:FuncData} {T:Cl} {CC:Addr}
theorem scW1:FnScope ["self","filling","told"] ["self","filling","told"] (za1 zv9):=⟨rfl,rfl,rfl,by decide +kernel,rfl,by decide +kernel,by decide +kernel⟩
theorem xv3 {n k:Nat} (F:Fun K "worked" "Truth.worked" zv9 f fd) (Z:Tc K mg T CC):FnOk P w K mg base CX0 (k + 1) f fd ["self","filling","told"] (zz6 T n T.t):=by
  refine F.ok scW1 (λvs H Q E h=>?_) (λcdv A outer s H vs Q E hr h=>?_)
  · obtain ⟨a,d,tl,H0,c,dx,fs,f,rfl,_⟩:=h
    rfl
  obtain ⟨a,d,tl,H0,c,dx,fs,fl,rfl,hc,ha,s0,hO,hd,hF,hng,q⟩:=h
  obtain ⟨b,rfl⟩:=Z.of_t hc
  refine ⟨_,za4 (zb9 (zd8 (pv 0) rfl)),?_⟩
  refine ⟨_,rfl,a,T.t,dx,fs,_,rfl,ha,Z.z.cl (.truth b),Z.z.nsd,hO,?_⟩
  have e:ev fl (.truth b) = b:=by simp [ev]
  rw [e] at q
  exact q
theorem scW2:FnScope ["self","filling","told"] ["self","filling","told"] (za1 zw0):=⟨rfl,rfl,rfl,by decide +kernel,rfl,by decide +kernel,by decide +kernel⟩
theorem xv4 {n k:Nat} (F:Fun K "worked" "Same.worked" zw0 f fd) (Z:Tc K mg T CC) (C1:Cal P w K mg base "cell_value" 1 ["cell","filling"] zv5):FnOk P w K mg base CX0 (k + 2) f fd ["self","filling","told"] (zz6 T n T.s):=by
  obtain ⟨g1,d1,G1,b1,k1,m1⟩:=C1
  refine F.ok scW2 (λvs H Q E h=>?_) (λcdv A outer s H vs Q E hr h=>?_)
  · obtain ⟨a,d,tl,H0,c,dx,fs,f,rfl,_⟩:=h
    rfl
  obtain ⟨a,d,tl,H0,c,dx,fs,fl,rfl,hc,ha,s0,hO,hd,hF,hng,q⟩:=h
  obtain ⟨x,y,rfl⟩:=Z.of_s hc
  have hr1:Room 1 _:=hr.mono (by omega)
  refine ⟨_,za4 (zb9 (yk3 zp2 (za9 G1 hr1 rfl m1 k1 b1 .nil zb0 (za0 (zd8 (pv 0) rfl) (za0 (pv 1) za2))) (za9 G1 hr1 rfl m1 k1 b1 .nil zb0 (za0 (zd8 (pv 0) rfl) (za0 (pv 1) za2))) (zd0 _))),?_⟩
  obtain ⟨h1,h2⟩:=hO
  refine ⟨_,rfl,a,T.s,dx,fs,_,rfl,ha,Z.z.cl (.same x y),Z.z.no1,h1,_,rfl,x,d,fl,rfl,hF.sub (λz hz=>by simp at hz; simp [cells,hz]),?_⟩
  refine ⟨_,rfl,a,T.s,dx,fs,_,rfl,ha,Z.z.cl (.same x y),Z.z.no2,h2,_,rfl,y,d,fl,rfl,hF.sub (λz hz=>by simp at hz; simp [cells,hz]),rfl,?_⟩
  rw [ze6]
  have e:ev fl (.same x y) = (come fl x == come fl y):=by simp [ev]
  rw [e] at q
  exact q
theorem scW3:FnScope ["self","filling","told","part"] ["self","filling","told"] (za1 zw3):=⟨rfl,rfl,rfl,by decide +kernel,rfl,by decide +kernel,by decide +kernel⟩
theorem yo9 {α:Type} {p:α->Bool}:∀ {l:List α} {i:Nat} {a:α},l[i]? = some a->(∀ x ∈ l.take i,p x = true)->p a = true->∀ x ∈ l.take (i + 1),p x = true:=by
  intro l i a h h1 h2 x hx
  rw [zd6 h] at hx
  rcases List.mem_append.mp hx with hx | hx
  · exact h1 x hx
  · have:x = a:=by simpa using hx
    subst this; exact h2
theorem yl4 {T:Cl} {H:Hp} {c:Cd} {v:V} (h:IsC T H c v) {m:Str} (hm:m ∈ ze2):∃ a dx fs,v = .ref a/\H a = some (.ins (T.of c) dx fs)/\fs.lookup m = none:=by
  obtain ⟨a,dx,fs,e1,e2,e3,_⟩:=zh4.mp h
  exact ⟨a,dx,fs,e1,e2,e3 m hm⟩
theorem zx4:("holds" : Str) ∈ ze2:=by unfold ze2; simp
theorem yr4:("worked" : Str) ∈ ze2:=by unfold ze2; simp
abbrev FamH (P:Program) (w:World) (K:W.Frag) (mg:Str->Option Value) (base:Heap) (T:Cl) (n:Nat):Prop:=Fam P w K mg base CX0 (2 * n + 1) (dom T) "holds" ["self","filling","told"] (λ_=>xh5 T n)
abbrev FamW (P:Program) (w:World) (K:W.Frag) (mg:Str->Option Value) (base:Heap) (T:Cl) (n:Nat):Prop:=Fam P w K mg base CX0 (2 * n + 2) (dom T) "worked" ["self","filling","told"] (zz6 T n)
theorem xv7 {n:Nat} (F:Fun K "worked" "AllOf.worked" zw3 f fd) (Z:Tc K mg T CC) (FH:FamH P w K mg base T n):FnOk P w K mg base CX0 (2 * n + 2) f fd ["self","filling","told"] (zz6 T n T.a):=by
  refine F.ok scW3 (λvs H Q E h=>?_) (λcdv A outer s H vs Q E hr h=>?_)
  · obtain ⟨a,d,tl,H0,c,dx,fs,f,rfl,_⟩:=h
    rfl
  obtain ⟨a,d,tl,H0,c,dx,fs,fl,rfl,hc,ha,s0,hO,hd,hF,hng,q⟩:=h
  obtain ⟨l,rfl⟩:=Z.of_a hc
  obtain ⟨tp,xs,h1,h2,hL⟩:=hO
  have hL':IsL T H l xs:=hL.kp (.of s0)
  have e:ev fl (.all l) = l.all (ev fl):=by simp only [ev]; exact xa7 fl l
  rw [e] at q
  have hdl:∀ c ∈ l,depth c<=n:=zy3.mp (by simp only [depth] at hd; omega)
  have hcl:∀ c ∈ l,∀ x:Str,Sum.inr x ∈ cells c->(Sum.inr x:Key) ∈ cells (.all l):=λc hc x hx=>by simp only [cells]; exact zh8.mpr ⟨c,hc,hx⟩
  refine ⟨_,za3 (zi6 PassesOwn.never rfl (zt3 (zd8 (pv 0) rfl)) (zb2 (i:=3) scW3.nd rfl (Or.inl rfl))
      (za4 (zg5 (yn2 (zt2 (zu5 (pv 3) FH hr zb0 (za0 (pv 1) (za0 (pv 2) za2))))) (za4 (zb9 zj5)) zb8)))
    (za4 (zb9 zj5)),?_⟩
  refine ⟨_,rfl,a,T.a,dx,fs,_,rfl,ha,Z.z.cl (.all l),Z.z.npa,h1,tp,rfl,⟨_,SqT.of (s0 _ _ h2)⟩,yf0 (K:=K) (a:=tp) (xs:=xs) (λi σ H2=>H2 = H/\(∃ u,σ = [some (.ref a),some (.ref d),some (.ref tl),u])/\∀ c ∈ l.take i,ev fl c = true)
    ⟨rfl,⟨none,rfl⟩,by simp⟩ (λi σ H2 _ ⟨z,_⟩=>z ▸ SqT.of (s0 _ _ h2)) ?_ ?_⟩
  · rintro i x σ H2 hi ⟨rfl,⟨u,rfl⟩,hg⟩
    obtain ⟨c,hci,hC⟩:=zj4 hL' hi
    have hcm:=List.mem_of_getElem? hci
    obtain ⟨ap,dx',fs',rfl,e2,e3⟩:=yl4 hC zx4
    refine ⟨_,rfl,ap,T.of c,dx',fs',rfl,e2,⟨c,rfl⟩,e3,_,rfl,_,rfl,_,d,tl,c,fl,rfl,hC,hdl c hcm,ye3 hng (hcl c hcm),_,rfl,?_⟩
    cases hv:ev fl c with
    | false=>
      refine iteT ?_
      have:l.all (ev fl) = false:=by
        cases hq:l.all (ev fl) with
        | false=>rfl
        | true=>rw [List.all_eq_true.mp hq c hcm] at hv; cases hv
      rw [this] at q
      exact q
    | true=>exact iteF ⟨rfl,⟨_,rfl⟩,yo9 hci hg hv⟩
  · rintro σ H2 ⟨rfl,⟨u,rfl⟩,hg⟩
    rw [<- zg4 hL',List.take_length] at hg
    rw [List.all_eq_true.mpr hg] at q
    exact q
theorem scW4:FnScope ["self","filling","told","part"] ["self","filling","told"] (za1 zw2):=⟨rfl,rfl,rfl,by decide +kernel,rfl,by decide +kernel,by decide +kernel⟩
theorem xv6 {n:Nat} (F:Fun K "worked" "OneOf.worked" zw2 f fd) (Z:Tc K mg T CC) (FH:FamH P w K mg base T n):FnOk P w K mg base CX0 (2 * n + 2) f fd ["self","filling","told"] (zz6 T n T.o):=by
  refine F.ok scW4 (λvs H Q E h=>?_) (λcdv A outer s H vs Q E hr h=>?_)
  · obtain ⟨a,d,tl,H0,c,dx,fs,f,rfl,_⟩:=h
    rfl
  obtain ⟨a,d,tl,H0,c,dx,fs,fl,rfl,hc,ha,s0,hO,hd,hF,hng,q⟩:=h
  obtain ⟨l,rfl⟩:=Z.of_o hc
  obtain ⟨tp,xs,h1,h2,hL⟩:=hO
  have hL':IsL T H l xs:=hL.kp (.of s0)
  have e:ev fl (.one l) = l.any (ev fl):=by simp only [ev]; exact xa6 fl l
  rw [e] at q
  have hdl:∀ c ∈ l,depth c<=n:=zy3.mp (by simp only [depth] at hd; omega)
  have hcl:∀ c ∈ l,∀ x:Str,Sum.inr x ∈ cells c->(Sum.inr x:Key) ∈ cells (.one l):=λc hc x hx=>by simp only [cells]; exact zh8.mpr ⟨c,hc,hx⟩
  refine ⟨_,za3 (zi6 PassesOwn.never rfl (zt3 (zd8 (pv 0) rfl)) (zb2 (i:=3) scW4.nd rfl (Or.inl rfl))
      (za4 (zg5 (zt2 (zu5 (pv 3) FH hr zb0 (za0 (pv 1) (za0 (pv 2) za2)))) (za4 (zb9 zj5)) zb8)))
    (za4 (zb9 zj5)),?_⟩
  refine ⟨_,rfl,a,T.o,dx,fs,_,rfl,ha,Z.z.cl (.one l),Z.z.npo,h1,tp,rfl,⟨_,SqT.of (s0 _ _ h2)⟩,yf0 (K:=K) (a:=tp) (xs:=xs) (λi σ H2=>H2 = H/\(∃ u,σ = [some (.ref a),some (.ref d),some (.ref tl),u])/\∀ c ∈ l.take i,(!ev fl c) = true)
    ⟨rfl,⟨none,rfl⟩,by simp⟩ (λi σ H2 _ ⟨z,_⟩=>z ▸ SqT.of (s0 _ _ h2)) ?_ ?_⟩
  · rintro i x σ H2 hi ⟨rfl,⟨u,rfl⟩,hg⟩
    obtain ⟨c,hci,hC⟩:=zj4 hL' hi
    have hcm:=List.mem_of_getElem? hci
    obtain ⟨ap,dx',fs',rfl,e2,e3⟩:=yl4 hC zx4
    refine ⟨_,rfl,ap,T.of c,dx',fs',rfl,e2,⟨c,rfl⟩,e3,_,rfl,_,rfl,_,d,tl,c,fl,rfl,hC,hdl c hcm,ye3 hng (hcl c hcm),_,rfl,?_⟩
    cases hv:ev fl c with
    | true=>
      refine iteT ?_
      have:l.any (ev fl) = true:=List.any_eq_true.mpr ⟨c,hcm,hv⟩
      rw [this] at q
      exact q
    | false=>exact iteF ⟨rfl,⟨_,rfl⟩,yo9 hci hg (by rw [hv]; rfl)⟩
  · rintro σ H2 ⟨rfl,⟨u,rfl⟩,hg⟩
    rw [<- zg4 hL',List.take_length] at hg
    have:l.any (ev fl) = false:=by
      rw [List.any_eq_false]
      intro c hc hv
      have:=hg c hc
      rw [hv] at this; cases this
    rw [this] at q
    exact q
theorem scW5:FnScope ["self","filling","told"] ["self","filling","told"] (za1 zw1):=⟨rfl,rfl,rfl,by decide +kernel,rfl,by decide +kernel,by decide +kernel⟩
theorem xv5 {n:Nat} (F:Fun K "worked" "Opposite.worked" zw1 f fd) (Z:Tc K mg T CC) (FH:FamH P w K mg base T n):FnOk P w K mg base CX0 (2 * n + 2) f fd ["self","filling","told"] (zz6 T n T.p):=by
  refine F.ok scW5 (λvs H Q E h=>?_) (λcdv A outer s H vs Q E hr h=>?_)
  · obtain ⟨a,d,tl,H0,c,dx,fs,f,rfl,_⟩:=h
    rfl
  obtain ⟨a,d,tl,H0,c,dx,fs,fl,rfl,hc,ha,s0,hO,hd,hF,hng,q⟩:=h
  obtain ⟨c,rfl⟩:=Z.of_p hc
  obtain ⟨u,h1,hC⟩:=hO
  have hC':IsC T H c u:=hC.kp (.of s0)
  obtain ⟨ap,dx',fs',rfl,e2,e3⟩:=yl4 hC' zx4
  refine ⟨_,za4 (zb9 (xq6 (zu5 (zd8 (pv 0) rfl) FH hr zb0 (za0 (pv 1) (za0 (pv 2) za2))))),?_⟩
  refine ⟨_,rfl,a,T.p,dx,fs,_,rfl,ha,Z.z.cl (.opp c),Z.z.npp,h1,ap,T.of c,dx',fs',rfl,e2,⟨c,rfl⟩,e3,_,rfl,_,rfl,_,d,tl,c,fl,rfl,hC',(by simp only [depth] at hd; omega),ye3 hng (λx hx=>by simpa only [cells] using hx),_,rfl,?_⟩
  have e:ev fl (.opp c) = !ev fl c:=by simp only [ev]
  rw [e] at q
  exact q
theorem scH:FnScope ["self","filling","told"] ["self","filling","told"] (za1 zl6):=⟨rfl,rfl,rfl,by decide +kernel,rfl,by decide +kernel,by decide +kernel⟩
theorem xe1 {n:Nat} (F:Fun K "holds" "Cond.holds" zl6 f fd) (Z:Tc K mg T CC):FnOk P w K mg base CX0 (2 * (n + 1) + 1) f fd ["self","filling","told"] (xh5 T (n + 1)):=by
  refine F.ok scH (λvs H Q E h=>?_) (λcdv A outer s H vs Q E hr h=>?_)
  · obtain ⟨v,d,tl,c,f,rfl,_⟩:=h
    rfl
  obtain ⟨v,d,tl,c,fl,rfl,hC,hd,hn,q⟩:=h
  obtain ⟨a,dx,fs,rfl,ha,hm,hB,hO⟩:=zh4.mp hC
  refine ⟨_,za3 (zg5 (zb7 xl2 (zd8 (pv 0) rfl) yh3 (zd0 _)) (za4 (zb9 (zd8 (pv 0) rfl))) zb8) zi0,?_⟩
  refine ⟨_,rfl,a,T.of c,dx,fs,_,rfl,ha,Z.z.cl c,Z.z.ns c,hB.st,rfl,_,rfl,?_⟩
  have e:=zu4 hn fl
  rw [e]
  refine iteT ⟨_,rfl,a,T.of c,dx,fs,_,rfl,ha,Z.z.cl c,Z.z.ns c,hB.st,?_⟩
  rw [e]
  exact q
theorem xw6 {n:Nat} (Z:Tc K mg T CC) (C1:Cal P w K mg base "cell_value" 1 ["cell","filling"] zv5) (FH:FamH P w K mg base T n):FamW P w K mg base T n:=by
  rintro C ⟨c,rfl⟩
  cases c with
  | truth b=>obtain ⟨f,fd,m,F,b'⟩:=Z.wT; exact ⟨f,fd,Z.z.cl (.truth b),m,xv3 F Z,b'⟩
  | same x y=>obtain ⟨f,fd,m,F,b⟩:=Z.wS; exact ⟨f,fd,Z.z.cl (.same x y),m,xv4 F Z C1,b⟩
  | all l=>obtain ⟨f,fd,m,F,b⟩:=Z.wA; exact ⟨f,fd,Z.z.cl (.all l),m,xv7 F Z FH,b⟩
  | one l=>obtain ⟨f,fd,m,F,b⟩:=Z.wO; exact ⟨f,fd,Z.z.cl (.one l),m,xv6 F Z FH,b⟩
  | opp c=>obtain ⟨f,fd,m,F,b⟩:=Z.wP; exact ⟨f,fd,Z.z.cl (.opp c),m,xv5 F Z FH,b⟩
theorem xw7 (Z:Tc K mg T CC) (C1:Cal P w K mg base "cell_value" 1 ["cell","filling"] zv5):∀ n,FamH P w K mg base T n
  | 0=>by
    rintro C ⟨c,rfl⟩
    obtain ⟨f,fd,m,F,b⟩:=Z.hH c
    refine ⟨f,fd,Z.z.cl c,m,⟨λvs H Q E h=>?_,λA outer s H args us vs Q E hr e0 hb r h=>?_⟩,b⟩
    · obtain ⟨v,d,tl,c,f,rfl,_⟩:=h
      rfl
    · obtain ⟨v,d,tl,c',f,_,_,hd,_⟩:=h
      have:=xa9 c'
      exact absurd hd (by omega)
  | n + 1=>by
    rintro C ⟨c,rfl⟩
    obtain ⟨f,fd,m,F,b⟩:=Z.hH c
    exact ⟨f,fd,Z.z.cl c,m,xe1 F Z,b⟩
theorem zp3 {gs:List Str} {i:Nat} {x:V} (hi:(gs.map V.str)[i]? = some x):∃ g,gs[i]? = some g/\g ∈ gs/\x = V.str g:=by
  rw [List.getElem?_map] at hi
  cases z:gs[i]? with
  | none=>rw [z] at hi; cases hi
  | some v=>rw [z] at hi; exact ⟨v,rfl,List.mem_of_getElem? z,(Option.some.inj hi).symm⟩
end
def zb3 (a:Addr) (H H':Hp):Prop:=∀ b o,b ≠ a->H b = some o->H' b = some o
theorem zb3.refl (a:Addr) (H:Hp):zb3 a H H:=λ_ _ _ h=>h
theorem zb3.trans {a:Addr} {H H1 H2:Hp} (x:zb3 a H H1) (y:zb3 a H1 H2):zb3 a H H2:=λb o n h=>y b o n (x b o n h)
theorem zb3.of {a:Addr} {H H':Hp} (s:Same H H'):zb3 a H H':=λb o _ h=>s b o h
theorem zb3.upd {a:Addr} {H:Hp} {o:HO}:zb3 a H (upd H a o):=λb u n h=>by rw [za7 n]; exact h
theorem zb3.same {a:Addr} {H0 H H':Hp} (k:zb3 a H H') (s:Same H0 H) (h:H0 a = none):Same H0 H':=λb o q=>k b o (ze5 q h) (s b o q)
def ze0:List Str:=["said","one","other","parts","part"]
theorem zx1 {T:Cl} {H:Hp} {fs:List (Str × V)} {c:Cd} {g:Str} {y:V} (hg:g ∉ ze0) (h:Own T H fs c):Own T H (putF g y fs) c:=by
  have e:∀ f ∈ ze0,(putF g y fs).lookup f = fs.lookup f:=λf hf=>by rw [zg0,if_neg (λz:f = g=>hg (z ▸ hf))]
  cases c with
  | truth b=>exact (e "said" (by unfold ze0; simp)).trans h
  | same x y=>exact ⟨(e "one" (by unfold ze0; simp)).trans h.1,(e "other" (by unfold ze0; simp)).trans h.2⟩
  | all l=>obtain ⟨tp,xs,h1,h2⟩:=h; exact ⟨tp,xs,(e "parts" (by unfold ze0; simp)).trans h1,h2⟩
  | one l=>obtain ⟨tp,xs,h1,h2⟩:=h; exact ⟨tp,xs,(e "parts" (by unfold ze0; simp)).trans h1,h2⟩
  | opp c=>obtain ⟨u,h1,h2⟩:=h; exact ⟨u,(e "part" (by unfold ze0; simp)).trans h1,h2⟩
theorem zk1 {fs:List (Str × V)} {g:Str} {y:V} (hg:g ∉ ze2) (h:∀ m ∈ ze2,fs.lookup m = none):∀ m ∈ ze2,(putF g y fs).lookup m = none:=by
  intro m hm
  rw [zg0,if_neg (λz:m = g=>hg (z ▸ hm))]
  exact h m hm
theorem ng1:("kept_gaps" : Str) ∉ ze0/\("kept_gaps" : Str) ∉ ze2:=by unfold ze0 ze2; decide +kernel
theorem ng2:("kept_values" : Str) ∉ ze0/\("kept_values" : Str) ∉ ze2:=by unfold ze0 ze2; decide +kernel
theorem ng3:("kept_atoms" : Str) ∉ ze0/\("kept_atoms" : Str) ∉ ze2:=by unfold ze0 ze2; decide +kernel
theorem ng4:("settled" : Str) ∉ ze0/\("settled" : Str) ∉ ze2:=by unfold ze0 ze2; decide +kernel
theorem xc3 {ks kys:List Key} {c:Cd} {pool:List Key} (nd:ks.Nodup) (hm:∀ k,k ∈ ks ↔ k ∈ (zk4 kys).map Sum.inr) (hk:∀ k:Key,k ∈ kys ↔ k ∈ cells c) (hp:∀ k ∈ cells c,k ∈ pool) (pl:pool.length < 64) :
    ∃ xs:List Str,ks = xs.map Sum.inr/\xs.Nodup/\xs.length < 64/\∀ x,x ∈ xs ↔ Sum.inr x ∈ cells c:=by
  obtain ⟨xs,rfl⟩:=xb6 (ks:=ks) (λk h=>by obtain ⟨x,_,e⟩:=List.mem_map.mp ((hm k).mp h); exact ⟨x,e.symm⟩)
  have mem:∀ x,x ∈ xs ↔ Sum.inr x ∈ cells c:=λx=>by
    have h1:=hm (Sum.inr x)
    rw [List.mem_map,List.mem_map] at h1
    rw [<- hk,<- yb9]
    constructor
    · intro hx
      obtain ⟨y,hy,e⟩:=h1.mp ⟨x,hx,rfl⟩
      exact (Sum.inr.inj e) ▸ hy
    · intro hx
      obtain ⟨y,hy,e⟩:=h1.mpr ⟨x,hx,rfl⟩
      exact (Sum.inr.inj e) ▸ hy
  refine ⟨xs,rfl,zh1 nd,?_,mem⟩
  have:=zi2 (l:=xs.map (Sum.inr:Str->Key)) (m:=pool) nd (λk hk=>by
    obtain ⟨x,hx,rfl⟩:=List.mem_map.mp hk
    exact hp _ ((mem x).mp hx))
  rw [List.length_map] at this
  omega
theorem xf9 {ks kys:List Key} {c:Cd} {pool:List Key} (nd:ks.Nodup) (hm:∀ k,k ∈ ks ↔ k ∈ (zk5 kys).map Sum.inl) (hk:∀ k:Key,k ∈ kys ↔ k ∈ cells c) (hp:∀ k ∈ cells c,k ∈ pool) (pl:pool.length < 64) :
    ∃ xs:List Int,ks = xs.map Sum.inl/\xs.Nodup/\xs.length < 64/\∀ x,x ∈ xs ↔ Sum.inl x ∈ cells c:=by
  obtain ⟨xs,rfl⟩:=xb7 (ks:=ks) (λk h=>by obtain ⟨x,_,e⟩:=List.mem_map.mp ((hm k).mp h); exact ⟨x,e.symm⟩)
  have mem:∀ x,x ∈ xs ↔ Sum.inl x ∈ cells c:=λx=>by
    have h1:=hm (Sum.inl x)
    rw [List.mem_map,List.mem_map] at h1
    rw [<- hk,<- yc0]
    constructor
    · intro hx
      obtain ⟨y,hy,e⟩:=h1.mp ⟨x,hx,rfl⟩
      exact (Sum.inl.inj e) ▸ hy
    · intro hx
      obtain ⟨y,hy,e⟩:=h1.mpr ⟨x,hx,rfl⟩
      exact (Sum.inl.inj e) ▸ hy
  refine ⟨xs,rfl,zh1 nd,?_,mem⟩
  have:=zi2 (l:=xs.map (Sum.inl:Int->Key)) (m:=pool) nd (λk hk=>by
    obtain ⟨x,hx,rfl⟩:=List.mem_map.mp hk
    exact hp _ ((mem x).mp hx))
  rw [List.length_map] at this
  omega
def xh6 (T:Cl) (K:W.Frag) (n:Nat):Sp:=λvs H Q _=>∃ (a r:Addr) (H0:Hp) (c:Cd) (dx:Addr) (fs:List (Str × V)) (kys pool:List Key),vs = [.ref a,.ref r,.int (zf8 c)]/\H a = some (.ins (T.of c) dx fs)/\Same H0 H/\H0 a = none/\Own T H0 fs c/\depth c<=n + 1 /\
  SqL K H r (kys.map kV)/\kys.length<=3000/\(∀ k:Key,k ∈ kys ↔ k ∈ cells c)/\pool.length < 64/\(∀ k ∈ cells c,k ∈ pool)/\fs.length<=10/\(∀ m ∈ ze2,fs.lookup m = none) /\
  ∀ H' fs',zb3 a H H'->H' a = some (.ins (T.of c) dx fs')->(∀ m ∈ ze2,fs'.lookup m = none)->Bas H' fs' c->Own T H0 fs' c->Q .non H'
section
variable {P:Program} {w:World} {K:W.Frag} {mg:Str->Option Value} {base:Heap} {f:Addr} {fd:FuncData} {T:Cl} {CC:Addr}
theorem yy7 (xs:List Str):xs.map V.str = (xs.map (Sum.inr:Str->Key)).map kV:=by rw [List.map_map]; rfl
theorem zs2 (xs:List Int):xs.map V.int = (xs.map (Sum.inl:Int->Key)).map kV:=by rw [List.map_map]; rfl
theorem scCI:FnScope ["self","cells","atoms"] ["self","cells","atoms"] (za1 yb0):=⟨rfl,rfl,rfl,by decide +kernel,rfl,by decide +kernel,by decide +kernel⟩
theorem zf5 {f:Str} {v:V} {fs:List (Str × V)}:(putF f v fs).lookup f = some v:=by rw [zg0,if_pos rfl]
theorem zg1 {f g:Str} {v:V} {fs:List (Str × V)} (h:g ≠ f):(putF f v fs).lookup g = fs.lookup g:=by rw [zg0,if_neg h]
theorem xe5 {n:Nat} (F:Fun K "__init__" "Cond.__init__" yb0 f fd) (Z:Tc K mg T CC) (C1:Cal P w K mg base "gaps_among" 1 ["cells"] (zq7 K)) (C2:Cal P w K mg base "values_among" 1 ["cells"] (zq6 K)) (FW:FamW P w K mg base T n):FnOk P w K mg base CX0 (2 * n + 3) f fd ["self","cells","atoms"] (xh6 T K n):=by
  obtain ⟨g1,d1,G1,b1,k1,m1⟩:=C1
  obtain ⟨g2,d2,G2,b2,k2,m2⟩:=C2
  refine F.ok scCI (λvs H Q E h=>?_) (λcdv A outer s H vs Q E hr h=>?_)
  · obtain ⟨a,r,H0,c,dx,fs,kys,pool,rfl,_⟩:=h
    rfl
  obtain ⟨a,r,H0,c,dx,fs,kys,pool,rfl,ha,s0,h0,hO,hd,hS,hkl0,hk,hpl,hp,hfl,hms,q⟩:=h
  have hkl:kys.length<=4000:=Nat.le_trans hkl0 (by decide)
  have hr1:Room 1 _:=hr.mono (by omega)
  refine ⟨_,za3 (zh5 (pv 0) (zc5 zc8 rfl Z.x.tuple PyProof.Rows.boot_tuple (za0 (zb4 (zk7 rfl) rfl Z.x.sorted PyProof.Rows.boot_sorted (za0 (zc5 (zk3 rfl) rfl Z.x.set PyProof.Rows.boot_set (za0 (za9 G1 hr1 rfl m1 k1 b1 .nil zb0 (za0 (pv 1) za2)) za2)) za2)) za2)) rfl)
    (za3 (zh5 (pv 0) (zc5 zc8 rfl Z.x.tuple PyProof.Rows.boot_tuple (za0 (zb4 (zk8 rfl) rfl Z.x.sorted PyProof.Rows.boot_sorted (za0 (zc5 (zk3 rfl) rfl Z.x.set PyProof.Rows.boot_set (za0 (za9 G2 hr1 rfl m2 k2 b2 .nil zb0 (za0 (pv 1) za2)) za2)) za2)) za2)) rfl)
    (za3 (zh5 (pv 0) (pv 2) rfl)
    (za3 (zh5 (pv 0) yh3 rfl)
    (za4 (zg5 (yn2 (yd8 (zd8 (pv 0) rfl) (λ_=>rfl))) (za4 (zh5 (pv 0) (zu5 (pv 0) FW hr zb0 (za0 yn4 (za0 yn4 za2))) rfl)) zb8))))),?_⟩
  refine ⟨_,rfl,r,kys,rfl,hS,hkl,λl1 H1 s1 hl1=>⟨l1,(zk4 kys).map Sum.inr,rfl,SqL.of (by rw [<- yy7]; exact hl1),by rw [List.length_map]; exact Nat.le_trans (zq0 _) hkl,λl2 ks hl2 nd hm=>?_⟩⟩
  obtain ⟨gs0,rfl,gnd,gl,gm⟩:=xc3 nd hm hk hp hpl
  refine ⟨l2,gs0,rfl,upd_same,gl,λl3 gs hl3 pg sg=>⟨l3,_,rfl,.inl ⟨SqL.of upd_same,λtg htg=>?_⟩⟩⟩
  generalize SetO _ _ l2 (List.map Sum.inr gs0) = so at hl3 htg ⊢
  have w2:=same_new hl2 so
  have w3:=same_new hl3 (.lst (gs.map V.str))
  have w4:=same_new htg (.tup (gs.map V.str))
  have s4:=s1.trans (w2.trans (w3.trans w4))
  have hg4:=upd_same (H:=upd (upd H1 l2 so) l3 (.lst (gs.map V.str))) (a:=tg) (o:=.tup (gs.map V.str))
  have htg0:H tg = none:=by
    cases e:H tg with
    | none=>rfl
    | some o=>rw [(s1.trans (w2.trans w3)) _ _ e] at htg; cases htg
  generalize upd (upd (upd H1 l2 so) l3 (.lst (gs.map V.str))) tg (.tup (gs.map V.str)) = H4 at s4 hg4
  refine ⟨_,rfl,a,T.of c,dx,fs,rfl,s4 _ _ ha,Z.z.cl c,Z.z.ng c,by omega,?_⟩
  have nta:tg ≠ a:=λe=>by rw [e,ha] at htg0; cases htg0
  have nra:r ≠ a\/True:=.inr trivial
  have kb5:zb3 a H (upd H4 a (.ins (T.of c) dx (putF "kept_gaps" (.ref tg) fs))):=(zb3.of s4).trans zb3.upd
  have ha5:=upd_same (H:=H4) (a:=a) (o:=.ins (T.of c) dx (putF "kept_gaps" (.ref tg) fs))
  have hg5:(upd H4 a (.ins (T.of c) dx (putF "kept_gaps" (.ref tg) fs))) tg = some (.tup (gs.map V.str)):=by rw [za7 nta]; exact hg4
  have hS5:SqL K (upd H4 a (.ins (T.of c) dx (putF "kept_gaps" (.ref tg) fs))) r (kys.map kV):=by
    rcases hS with (h | ⟨o,h⟩) | h
    · exact .inl (.inl (kb5 _ _ (λe=>by rw [e,ha] at h; cases h) h))
    · exact .inl (.inr ⟨o,kb5 _ _ (λe=>by rw [e,ha] at h; cases h) h⟩)
    · exact .inr h
  generalize upd H4 a (.ins (T.of c) dx (putF "kept_gaps" (.ref tg) fs)) = H5 at kb5 ha5 hg5 hS5
  refine ⟨_,rfl,r,kys,rfl,hS5,hkl,λj1 J1 z1 hj1=>⟨j1,(zk5 kys).map Sum.inl,rfl,SqL.of (by rw [<- zs2]; exact hj1),by rw [List.length_map]; exact Nat.le_trans (zs5 _) hkl,λj2 ks' hj2 nd' hm'=>?_⟩⟩
  obtain ⟨vs0,rfl,vnd,vl,vm⟩:=xf9 nd' hm' hk hp hpl
  refine ⟨j2,vs0,rfl,upd_same,vl,λj3 vs hj3 pv' sv=>⟨j3,_,rfl,.inl ⟨SqL.of upd_same,λtv htv=>?_⟩⟩⟩
  generalize SetO _ _ j2 (List.map Sum.inl vs0) = so' at hj3 htv ⊢
  have y2:=same_new hj2 so'
  have y3:=same_new hj3 (.lst (vs.map V.int))
  have y4:=same_new htv (.tup (vs.map V.int))
  have s9:=z1.trans (y2.trans (y3.trans y4))
  have hv9:=upd_same (H:=upd (upd J1 j2 so') j3 (.lst (vs.map V.int))) (a:=tv) (o:=.tup (vs.map V.int))
  have htv0:H5 tv = none:=by
    cases e:H5 tv with
    | none=>rfl
    | some o=>rw [(z1.trans (y2.trans y3)) _ _ e] at htv; cases htv
  generalize upd (upd (upd J1 j2 so') j3 (.lst (vs.map V.int))) tv (.tup (vs.map V.int)) = H9 at s9 hv9
  have nva:tv ≠ a:=λe=>by rw [e,ha5] at htv0; cases htv0
  have lf1:=zc6 "kept_gaps" (.ref tg) fs
  refine ⟨_,rfl,a,T.of c,dx,_,rfl,s9 _ _ ha5,Z.z.cl c,Z.z.nv c,by omega,?_⟩
  have lf2:=zc6 "kept_values" (.ref tv) (putF "kept_gaps" (.ref tg) fs)
  refine ⟨_,rfl,_,rfl,a,T.of c,dx,_,rfl,upd_same,Z.z.cl c,Z.z.na c,by omega,?_⟩
  have lf3:=zc6 "kept_atoms" (.int (zf8 c)) (putF "kept_values" (.ref tv) (putF "kept_gaps" (.ref tg) fs))
  refine ⟨_,rfl,a,T.of c,dx,_,rfl,upd_same,Z.z.cl c,Z.z.ns c,by omega,?_⟩
  have lf4:=zc6 "settled" .non (putF "kept_atoms" (.int (zf8 c)) (putF "kept_values" (.ref tv) (putF "kept_gaps" (.ref tg) fs)))
  have o4:Own T H0 (putF "settled" .non (putF "kept_atoms" (.int (zf8 c)) (putF "kept_values" (.ref tv) (putF "kept_gaps" (.ref tg) fs)))) c:=zx1 ng4.1 (zx1 ng3.1 (zx1 ng2.1 (zx1 ng1.1 hO)))
  have e4:∀ m ∈ ze2,(putF "settled" .non (putF "kept_atoms" (.int (zf8 c)) (putF "kept_values" (.ref tv) (putF "kept_gaps" (.ref tg) fs)))).lookup m = none:=zk1 ng4.2 (zk1 ng3.2 (zk1 ng2.2 (zk1 ng1.2 hms)))
  have fg:(putF "settled" .non (putF "kept_atoms" (.int (zf8 c)) (putF "kept_values" (.ref tv) (putF "kept_gaps" (.ref tg) fs)))).lookup ("kept_gaps" : Str) = some (.ref tg):=by
    rw [zg1 (by decide),zg1 (by decide),zg1 (by decide),zf5]
  have fv:(putF "settled" .non (putF "kept_atoms" (.int (zf8 c)) (putF "kept_values" (.ref tv) (putF "kept_gaps" (.ref tg) fs)))).lookup ("kept_values" : Str) = some (.ref tv):=by
    rw [zg1 (by decide),zg1 (by decide),zf5]
  have fa:(putF "settled" .non (putF "kept_atoms" (.int (zf8 c)) (putF "kept_values" (.ref tv) (putF "kept_gaps" (.ref tg) fs)))).lookup ("kept_atoms" : Str) = some (.int (zf8 c)):=by
    rw [zg1 (by decide),zf5]
  have fst:(putF "settled" .non (putF "kept_atoms" (.int (zf8 c)) (putF "kept_values" (.ref tv) (putF "kept_gaps" (.ref tg) fs)))).lookup ("settled" : Str) = some .non:=zf5
  have kbX:∀ o1 o2 o3:HO,zb3 a H9 (upd (upd (upd H9 a o1) a o2) a o3):=λo1 o2 o3=>(zb3.upd.trans zb3.upd).trans zb3.upd
  have kb:=kbX (.ins (T.of c) dx (putF "kept_values" (.ref tv) (putF "kept_gaps" (.ref tg) fs))) (.ins (T.of c) dx (putF "kept_atoms" (.int (zf8 c)) (putF "kept_values" (.ref tv) (putF "kept_gaps" (.ref tg) fs))))
    (.ins (T.of c) dx (putF "settled" .non (putF "kept_atoms" (.int (zf8 c)) (putF "kept_values" (.ref tv) (putF "kept_gaps" (.ref tg) fs)))))
  have haN:=upd_same (H:=upd (upd H9 a (.ins (T.of c) dx (putF "kept_values" (.ref tv) (putF "kept_gaps" (.ref tg) fs)))) a (.ins (T.of c) dx (putF "kept_atoms" (.int (zf8 c)) (putF "kept_values" (.ref tv) (putF "kept_gaps" (.ref tg) fs))))) (a:=a) (o:=.ins (T.of c) dx (putF "settled" .non (putF "kept_atoms" (.int (zf8 c)) (putF "kept_values" (.ref tv) (putF "kept_gaps" (.ref tg) fs)))))
  generalize upd (upd (upd H9 a (.ins (T.of c) dx (putF "kept_values" (.ref tv) (putF "kept_gaps" (.ref tg) fs)))) a (.ins (T.of c) dx (putF "kept_atoms" (.int (zf8 c)) (putF "kept_values" (.ref tv) (putF "kept_gaps" (.ref tg) fs))))) a (.ins (T.of c) dx (putF "settled" .non (putF "kept_atoms" (.int (zf8 c)) (putF "kept_values" (.ref tv) (putF "kept_gaps" (.ref tg) fs))))) = HN at kb haN
  generalize putF "settled" .non (putF "kept_atoms" (.int (zf8 c)) (putF "kept_values" (.ref tv) (putF "kept_gaps" (.ref tg) fs))) = fN at o4 e4 fg fv fa fst haN lf4
  have hgN:HN tg = some (.tup (gs.map V.str)):=kb _ _ nta (s9 _ _ hg5)
  have hvN:HN tv = some (.tup (vs.map V.int)):=kb _ _ nva hv9
  have kN:zb3 a H HN:=kb5.trans ((zb3.of s9).trans kb)
  have gm':∀ x,x ∈ gs ↔ Sum.inr x ∈ cells c:=λx=>(pg.mem_iff).trans (gm x)
  have vm':∀ x,x ∈ vs ↔ Sum.inl x ∈ cells c:=λx=>(pv'.mem_iff).trans (vm x)
  refine ⟨_,rfl,a,T.of c,dx,_,_,rfl,haN,Z.z.cl c,Z.z.ng c,fg,_,.inr (.inl ⟨_,SqT.of hgN,rfl⟩),?_⟩
  cases hn:zm4 c with
  | false=>
    have hne:(gs.map V.str).isEmpty = false:=by
      cases he:gs with
      | nil=>
        have:zm4 c = true:=zj6.mpr λx hx=>by have:=(gm' x).mpr hx; rw [he] at this; cases this
        rw [this] at hn; cases hn
      | cons y r=>rfl
    rw [hne]
    refine iteF ?_
    refine q HN fN kN haN e4 ⟨⟨tg,gs,fg,hgN,(pg.nodup_iff).mpr gnd,sg,gm'⟩,⟨tv,vs,fv,hvN,(pv'.nodup_iff).mpr vnd,sv,vm'⟩,fa,?_⟩ o4
    rw [fst,xj2 hn]
  | true=>
    have hne:(gs.map V.str).isEmpty = true:=by
      cases he:gs with
      | nil=>rfl
      | cons y r=>exact absurd ((gm' y).mp (by rw [he]; simp)) (zj6.mp hn y)
    rw [hne]
    refine iteT ?_
    refine ⟨_,rfl,a,T.of c,dx,fN,rfl,haN,⟨c,rfl⟩,e4 _ yr4,λd hd' tl htl=>?_⟩
    have nda:a ≠ d:=λe=>by rw [<- e,haN] at hd'; cases hd'
    have wd0:=same_new hd' (.dK [])
    have ntd:d ≠ tl:=λe=>by rw [<- e,upd_same] at htl; cases htl
    have wd:=wd0.trans (same_new htl (.dK []))
    have hdd:(upd (upd HN d (.dK [])) tl (.dK [])) d = some (.dK []):=by rw [za7 ntd]; exact upd_same
    generalize upd (upd HN d (.dK [])) tl (.dK []) = HD at wd hdd ⊢
    have sW:Same H0 HD:=(kN.same s0 h0).trans wd
    refine ⟨a,d,tl,H0,c,dx,fN,λ_=>0,rfl,rfl,wd _ _ haN,sW,o4,hd,⟨[],hdd,λx hx=>absurd hx (zj6.mp hn x)⟩,hn,?_⟩
    refine ⟨_,rfl,a,T.of c,dx,fN,rfl,wd _ _ haN,Z.z.cl c,Z.z.ns c,by omega,?_⟩
    have hE:setl c = .bl (ev (λ_=>0) c):=zu4 hn _
    have kE:zb3 a H (upd HD a (.ins (T.of c) dx (putF "settled" (.bl (ev (λ_=>0) c)) fN))):=kN.trans ((zb3.of wd).trans zb3.upd)
    refine q _ _ kE upd_same (zk1 ng4.2 e4) ⟨⟨tg,gs,?_,?_,(pg.nodup_iff).mpr gnd,sg,gm'⟩,⟨tv,vs,?_,?_,(pv'.nodup_iff).mpr vnd,sv,vm'⟩,?_,?_⟩ (zx1 ng4.1 o4)
    · rw [zg1 (by decide)]; exact fg
    · rw [za7 nta]; exact wd _ _ hgN
    · rw [zg1 (by decide)]; exact fv
    · rw [za7 nva]; exact wd _ _ hvN
    · rw [zg1 (by decide)]; exact fa
    · rw [zf5,hE]
end
def yt6 (P:Program) (w:World) (K:W.Frag) (mg:Str->Option Value) (base:Heap) (T:Cl) (CC:Addr) (n:Nat):Prop:=∃ f fd mc,ClsFn K CC mc "__init__" f/\FnOk P w K mg base CX0 (2 * n + 3) f fd ["self","cells","atoms"] (xh6 T K n)/\zi3 K fd ["self","cells","atoms"] []/\mg "Cond" = some (.ref CC)
def spTI (T:Cl):Sp:=λvs H Q _=>∃ (a dx:Addr) (b:Bool) (H0:Hp),vs = [.ref a,.bl b]/\H a = some (.ins T.t dx [])/\Same H0 H/\H0 a = none/\∀ H',zb3 a H H'->IsC T H' (.truth b) (.ref a)->Q .non H'
def spSI (T:Cl):Sp:=λvs H Q _=>∃ (a dx:Addr) (x y:Key) (H0:Hp),vs = [.ref a,kV x,kV y]/\H a = some (.ins T.s dx [])/\Same H0 H/\H0 a = none/\∀ H',zb3 a H H'->IsC T H' (.same x y) (.ref a)->Q .non H'
def spPI (T:Cl) (n:Nat):Sp:=λvs H Q _=>∃ (a dx:Addr) (v:V) (c:Cd) (H0:Hp),vs = [.ref a,v]/\H a = some (.ins T.p dx [])/\Same H0 H/\H0 a = none/\IsC T H0 c v/\depth c<=n/\Pool (cells c) 1/\∀ H',zb3 a H H'->IsC T H' (.opp c) (.ref a)->Q .non H'
def spLI (T:Cl) (K:W.Frag) (n:Nat) (C:Addr) (mk:List Cd->Cd):Sp:=λvs H Q _=>∃ (a dx r:Addr) (xs:List V) (l:List Cd) (H0:Hp),vs = [.ref a,.ref r]/\H a = some (.ins C dx [])/\Same H0 H/\H0 a = none/\SqL K H r xs/\IsL T H0 l xs/\l.length<=4000/\zy4 l<=n/\Pool (zh7 l) l.length/\∀ H',zb3 a H H'->IsC T H' (mk l) (.ref a)->Q .non H'
theorem len1 {g:Str} {y:V}:(putF g y []).length<=10:=by have:=zc6 g y []; simp at this; omega
theorem len2 {g g':Str} {y y':V}:(putF g y (putF g' y' [])).length<=10:=by have:=zc6 g' y' []; have:=zc6 g y (putF g' y' []); simp at *; omega
theorem zp4 {g:Str} {y:V} (hg:g ∉ ze2):∀ m ∈ ze2,(putF g y []).lookup m = none:=zk1 hg (λ_ _=>rfl)
theorem xf2 {g g':Str} {y y':V} (hg:g ∉ ze2) (hg':g' ∉ ze2):∀ m ∈ ze2,(putF g y (putF g' y' [])).lookup m = none:=zk1 hg (zp4 hg')
theorem nm1:("said" : Str) ∉ ze2:=by unfold ze2; decide +kernel
theorem nm2:("one" : Str) ∉ ze2:=by unfold ze2; decide +kernel
theorem nm3:("other" : Str) ∉ ze2:=by unfold ze2; decide +kernel
theorem nm4:("parts" : Str) ∉ ze2:=by unfold ze2; decide +kernel
theorem nm5:("part" : Str) ∉ ze2:=by unfold ze2; decide +kernel
section
variable {P:Program} {w:World} {K:W.Frag} {mg:Str->Option Value} {base:Heap} {f:Addr} {fd:FuncData} {T:Cl} {CC:Addr}
theorem zp6 {H0 H':Hp} {a dx:Addr} {c:Cd} {fs:List (Str × V)} (s:Same H0 H') (ha:H' a = some (.ins (T.of c) dx fs)) (hm:∀ m ∈ ze2,fs.lookup m = none) (hB:Bas H' fs c) (hO:Own T H0 fs c):IsC T H' c (.ref a):=
  zh4.mpr ⟨a,dx,fs,rfl,ha,hm,hB,hO.kp (.of s)⟩
theorem scTI:FnScope ["self","said"] ["self","said"] (za1 ya0):=⟨rfl,rfl,rfl,by decide +kernel,rfl,by decide +kernel,by decide +kernel⟩
theorem xd4 {n:Nat} (F:Fun K "__init__" "Truth.__init__" ya0 f fd) (Z:Tc K mg T CC) (B:yt6 P w K mg base T CC n):FnOk P w K mg base CX0 (2 * n + 4) f fd ["self","said"] (spTI T):=by
  obtain ⟨g1,d1,mc,cf,G1,b1,m1⟩:=B
  refine F.ok scTI (λvs H Q E h=>?_) (λcdv A outer s H vs Q E hr h=>?_)
  · obtain ⟨a,dx,b,H0,rfl,_⟩:=h
    rfl
  obtain ⟨a,dx,b,H0,rfl,ha,s0,h0,q⟩:=h
  refine ⟨_,za3 (zh5 (pv 0) (pv 1) rfl) (za4 (zd3 (zp0 cf G1 hr rfl m1 b1 zb0 (za0 (pv 0) (za0 (ze7 za2) (za0 zb1 za2)))))),?_⟩
  refine ⟨_,rfl,_,rfl,a,T.t,dx,[],rfl,ha,Z.z.cl (.truth b),Z.z.nsd,by decide,?_⟩
  refine ⟨_,rfl,zb6 (by decide),λr hr'=>?_⟩
  have nra:a ≠ r:=λe=>by rw [<- e,upd_same] at hr'; cases hr'
  have k1:zb3 a H (upd (upd H a (.ins T.t dx (putF "said" (.bl b) []))) r (.lst [])):=zb3.upd.trans (zb3.of (same_new hr' _))
  refine ⟨a,r,H0,.truth b,dx,putF "said" (.bl b) [],[],[],rfl,by rw [za7 nra,upd_same]; rfl,k1.same s0 h0,h0,zf5,by simp [depth],SqL.of upd_same,by decide,by simp [cells],by decide,by simp [cells],len1,zp4 nm1,λH' fs' kb e1 e2 e3 e4=>?_⟩
  have kb':=k1.trans kb
  exact q H' kb' (zp6 (kb'.same s0 h0) e1 e2 e3 e4)
theorem scSI:FnScope ["self","one","other"] ["self","one","other"] (za1 ya2):=⟨rfl,rfl,rfl,by decide +kernel,rfl,by decide +kernel,by decide +kernel⟩
theorem xd5 {n:Nat} (F:Fun K "__init__" "Same.__init__" ya2 f fd) (Z:Tc K mg T CC) (B:yt6 P w K mg base T CC n):FnOk P w K mg base CX0 (2 * n + 4) f fd ["self","one","other"] (spSI T):=by
  obtain ⟨g1,d1,mc,cf,G1,b1,m1⟩:=B
  refine F.ok scSI (λvs H Q E h=>?_) (λcdv A outer s H vs Q E hr h=>?_)
  · obtain ⟨a,dx,x,y,H0,rfl,_⟩:=h
    rfl
  obtain ⟨a,dx,x,y,H0,rfl,ha,s0,h0,q⟩:=h
  refine ⟨_,za3 (zh5 (pv 0) (pv 1) rfl) (za3 (zh5 (pv 0) (pv 2) rfl) (za4 (zd3 (zp0 cf G1 hr rfl m1 b1 zb0 (za0 (pv 0) (za0 (ze7 (za0 (pv 1) (za0 (pv 2) za2))) (za0 zb1 za2))))))),?_⟩
  refine ⟨_,rfl,_,rfl,a,T.s,dx,[],rfl,ha,Z.z.cl (.same x y),Z.z.no1,by decide,?_⟩
  refine ⟨_,rfl,_,rfl,a,T.s,dx,_,rfl,upd_same,Z.z.cl (.same x y),Z.z.no2,Nat.lt_of_le_of_lt len1 (by decide),?_⟩
  refine ⟨_,rfl,_,rfl,_,rfl,zb6 (by simp),λr hr'=>?_⟩
  have nra:a ≠ r:=λe=>by rw [<- e,upd_same] at hr'; cases hr'
  have k1:zb3 a H (upd (upd (upd H a (.ins T.s dx (putF "one" (kV x) []))) a (.ins T.s dx (putF "other" (kV y) (putF "one" (kV x) [])))) r (.lst [kV x,kV y])):=(zb3.upd.trans zb3.upd).trans (zb3.of (same_new hr' _))
  refine ⟨a,r,H0,.same x y,dx,putF "other" (kV y) (putF "one" (kV x) []),[x,y],[x,y],rfl,by rw [za7 nra,upd_same]; rfl,k1.same s0 h0,h0,⟨by rw [zg1 (by decide),zf5],zf5⟩,by simp [depth],SqL.of upd_same,by simp,by simp [cells],by simp,by simp [cells],len2,xf2 nm3 nm2,λH' fs' kb e1 e2 e3 e4=>?_⟩
  have kb':=k1.trans kb
  exact q H' kb' (zp6 (kb'.same s0 h0) e1 e2 e3 e4)
theorem scPI:FnScope ["self","part"] ["self","part"] (za1 ya3):=⟨rfl,rfl,rfl,by decide +kernel,rfl,by decide +kernel,by decide +kernel⟩
theorem xd7 {n:Nat} (F:Fun K "__init__" "Opposite.__init__" ya3 f fd) (Z:Tc K mg T CC) (B:yt6 P w K mg base T CC n) (C4:Cal P w K mg base "cells_within" 1 ["parts"] (zi5 T K)):FnOk P w K mg base CX0 (2 * n + 4) f fd ["self","part"] (spPI T n):=by
  obtain ⟨g1,d1,mc,cf,G1,b1,m1⟩:=B
  obtain ⟨g2,d2,G2,b2,k2,m2⟩:=C4
  refine F.ok scPI (λvs H Q E h=>?_) (λcdv A outer s H vs Q E hr h=>?_)
  · obtain ⟨a,dx,v,c,H0,rfl,_⟩:=h
    rfl
  obtain ⟨a,dx,v,c,H0,rfl,ha,s0,h0,hC,hd,hp,q⟩:=h
  have hr1:Room 1 _:=hr.mono (by omega)
  refine ⟨_,za3 (zh5 (pv 0) (pv 1) rfl) (za4 (zd3 (zp0 cf G1 hr rfl m1 b1 zb0 (za0 (pv 0) (za0 (za9 G2 hr1 rfl m2 k2 b2 .nil zb0 (za0 (ze7 (za0 (pv 1) za2)) za2)) (za0 (zd8 (pv 1) rfl) za2)))))),?_⟩
  refine ⟨_,rfl,_,rfl,a,T.p,dx,[],rfl,ha,Z.z.cl (.opp c),Z.z.npp,by decide,?_⟩
  refine ⟨_,rfl,_,rfl,zb6 (by simp),λr hr'=>?_⟩
  have nra:a ≠ r:=λe=>by rw [<- e,upd_same] at hr'; cases hr'
  have k1:zb3 a H (upd (upd H a (.ins T.p dx (putF "part" v []))) r (.lst [v])):=zb3.upd.trans (zb3.of (same_new hr' _))
  have s1:=k1.same s0 h0
  have ha1:(upd (upd H a (.ins T.p dx (putF "part" v []))) r (.lst [v])) a = some (.ins T.p dx (putF "part" v [])):=by rw [za7 nra,upd_same]
  have hL1:IsL T (upd (upd H a (.ins T.p dx (putF "part" v []))) r (.lst [v])) [c] [v]:=by
    simp only [CD.IsL]
    exact ⟨v,[],rfl,hC.kp (.of s1),rfl⟩
  have hC1:zh7 [c] = cells c:=by simp [zh7]
  refine ⟨r,[v],[c],rfl,.inr (SqL.of upd_same),hL1,by rw [hC1]; exact hp,λr2 H2 ks s2 _ h2 kl km=>?_⟩
  have k2':=k1.trans (zb3.of s2)
  have s3:=k2'.same s0 h0
  have hC2:=hC.kp (.of s3)
  obtain ⟨av,dv,fv,rfl,hv,_,hB,_⟩:=zh4.mp hC2
  refine ⟨_,rfl,av,T.of c,dv,fv,_,rfl,hv,Z.z.cl c,Z.z.na c,hB.at_,?_⟩
  obtain ⟨pool,p1,p2,p3⟩:=hp
  refine ⟨a,r2,H0,.opp c,dx,putF "part" (.ref av) [],ks,pool,by simp [zf8],s2 _ _ ha1,s3,h0,⟨_,zf5,hC⟩,by simp only [depth]; omega,SqL.of h2,kl,(by rw [hC1] at km; simpa [cells] using km),p1,(by simpa only [cells] using p3),len1,zp4 nm5,λH' fs' kb e1 e2 e3 e4=>?_⟩
  have kb':=k2'.trans kb
  exact q H' kb' (zp6 (kb'.same s0 h0) e1 e2 e3 e4)
theorem scAI:FnScope ["self","parts"] ["self","parts"] (za1 yb4):=⟨rfl,rfl,rfl,by decide +kernel,rfl,by decide +kernel,by decide +kernel⟩
theorem xf1 {n:Nat} (F:Fun K "__init__" "AllOf.__init__" yb4 f fd) (Z:Tc K mg T CC) (B:yt6 P w K mg base T CC n) (C4:Cal P w K mg base "cells_within" 1 ["parts"] (zi5 T K)):FnOk P w K mg base CX0 (2 * n + 4) f fd ["self","parts"] (spLI T K n T.a .all):=by
  obtain ⟨g1,d1,mc,cf,G1,b1,m1⟩:=B
  obtain ⟨g2,d2,G2,b2,k2,m2⟩:=C4
  refine F.ok scAI (λvs H Q E h=>?_) (λcdv A outer s H vs Q E hr h=>?_)
  · obtain ⟨a,dx,r,xs,l,H0,rfl,_⟩:=h
    rfl
  obtain ⟨a,dx,r,xs,l,H0,rfl,ha,s0,h0,hS,hL,hll,hd,hp,q⟩:=h
  have hr1:Room 1 _:=hr.mono (by omega)
  refine ⟨_,za3 (zh5 (pv 0) (zc5 zc8 rfl Z.x.tuple PyProof.Rows.boot_tuple (za0 (pv 1) za2)) rfl)
    (za4 (zd3 (zp0 cf G1 hr rfl m1 b1 zb0 (za0 (pv 0) (za0 (za9 G2 hr1 rfl m2 k2 b2 .nil zb0 (za0 (zd8 (pv 0) rfl) za2)) (za0
      (zb4 (zp7 rfl) rfl Z.x.sum PyProof.Rows.boot_sum (za0 (zh6 (caps:=[]) ["part"] rfl (zt3 (zd8 (pv 0) rfl)) ⟨rfl,by decide +kernel,by decide +kernel,rfl,.nil,rfl,rfl,rfl⟩
        (λs H ex=>zb2 (X:=cxLG _ _ _ _ s H ex) (i:=0) (nd1 _) rfl (Or.inl rfl) (.inr rfl)) (λs H ex=>zi1)
        (λs H ex=>zr9 (K:=K) rfl (pe_var (X:=cxLG _ _ _ _ s H ex) (i:=0) rfl (Or.inl rfl)) rfl)) za2)) za2)))))),?_⟩
  refine ⟨_,rfl,r,xs,rfl,.inl ⟨hS,λtp htp=>?_⟩⟩
  have nta:tp ≠ a:=λe=>by rw [e,ha] at htp; cases htp
  have wt:=same_new htp (.tup xs)
  refine ⟨_,rfl,a,T.a,dx,[],rfl,wt _ _ ha,Z.z.cl (.all l),Z.z.npa,by decide,?_⟩
  have k1:zb3 a H (upd (upd H tp (.tup xs)) a (.ins T.a dx (putF "parts" (.ref tp) []))):=(zb3.of wt).trans zb3.upd
  have ht1:(upd (upd H tp (.tup xs)) a (.ins T.a dx (putF "parts" (.ref tp) []))) tp = some (.tup xs):=by rw [za7 nta,upd_same]
  have ha1:=upd_same (H:=upd H tp (.tup xs)) (a:=a) (o:=.ins T.a dx (putF "parts" (.ref tp) []))
  generalize upd (upd H tp (.tup xs)) a (.ins T.a dx (putF "parts" (.ref tp) [])) = H1 at k1 ht1 ha1
  have s1:=k1.same s0 h0
  have pf:(putF "parts" (.ref tp) []).lookup ("parts" : Str) = some (.ref tp):=zf5
  refine ⟨_,rfl,_,rfl,a,T.a,dx,_,_,rfl,ha1,Z.z.cl (.all l),Z.z.npa,pf,tp,xs,l,rfl,.inl (SqT.of ht1),hL.kp (.of s1),hp,λr2 H2 ks s2 _ h2 kl km=>?_⟩
  refine ⟨_,rfl,a,T.a,dx,_,_,rfl,s2 _ _ ha1,Z.z.cl (.all l),Z.z.npa,pf,tp,rfl,⟨_,SqT.of (s2 _ _ ht1)⟩,λD hD=>?_⟩
  have hL2:=hL.kp (.of (s1.trans s2))
  refine zu7 (K:=K) (a:=tp) (xs:=xs) (λi σ H3=>∃ u,σ = [u]/\Same H2 H3/\H3 D = some (.lst ((l.take i).map λc=>V.int (zf8 c))))
    ⟨none,rfl,same_new hD _,upd_same⟩ (λi σ H3 _ ⟨_,_,s3,_⟩=>SqT.of (s3 _ _ (s2 _ _ ht1))) ?_ ?_
  · rintro i x σ H3 hi ⟨u,rfl,s3,h3⟩
    obtain ⟨c,hci,hC⟩:=zj4 hL2 hi
    obtain ⟨av,dv,fv,rfl,hv,_,hB,_⟩:=zh4.mp hC
    refine ⟨_,rfl,av,T.of c,dv,fv,_,rfl,s3 _ _ hv,Z.z.cl c,Z.z.na c,hB.at_,_,h3,?_,_,rfl,zc4 s3 hD _,?_⟩
    · rw [List.length_map]
      have:(l.take i).length<=l.length:=by rw [List.length_take]; omega
      exact Nat.lt_of_le_of_lt (by omega:_<=4000) (by decide)
    · rw [upd_same,zd6 hci,List.map_append]; rfl
  · rintro σ H3 ⟨u,rfl,s3,h3⟩
    rw [<- zg4 hL,List.take_length] at h3
    have k3:=k1.trans ((zb3.of s2).trans (zb3.of s3))
    have e:(l.map λc=>V.int (zf8 c)) = (l.map zf8).map V.int:=by rw [List.map_map]; rfl
    refine ⟨D,l.map zf8,rfl,SqL.of (by rw [<- e]; exact h3),?_⟩
    rw [<- zt1]
    obtain ⟨pool,p1,p2,p3⟩:=hp
    have h0t:(upd H0 tp (.tup xs)) a = none:=by rw [za7 (Ne.symm nta)]; exact h0
    have s0t:Same (upd H0 tp (.tup xs)) H3:=by
      intro b o hb
      by_cases e:b = tp
      · subst e
        rw [upd_same] at hb
        cases hb
        exact s3 _ _ (s2 _ _ ht1)
      · rw [za7 e] at hb
        exact (k3.same s0 h0) _ _ hb
    have h0tp:H0 tp = none:=by
      cases e:H0 tp with
      | none=>rfl
      | some o=>rw [s0 _ _ e] at htp; cases htp
    refine ⟨a,r2,upd H0 tp (.tup xs),.all l,dx,putF "parts" (.ref tp) [],ks,pool,by simp [zf8],s3 _ _ (s2 _ _ ha1),s0t,h0t,⟨tp,xs,pf,upd_same,hL.kp (.of (same_new h0tp _))⟩,by simp only [depth]; omega,SqL.of (s3 _ _ h2),kl,(by simpa only [cells] using km),p1,(by simpa only [cells] using p3),len1,zp4 nm4,λH' fs' kb e1 e2 e3 e4=>?_⟩
    exact q H' (k3.trans kb) (zp6 (kb.same s0t h0t) e1 e2 e3 e4)
theorem scOI:FnScope ["self","parts"] ["self","parts"] (za1 ya4):=⟨rfl,rfl,rfl,by decide +kernel,rfl,by decide +kernel,by decide +kernel⟩
theorem xd8 {n:Nat} (F:Fun K "__init__" "OneOf.__init__" ya4 f fd) (Z:Tc K mg T CC) (B:yt6 P w K mg base T CC n) (C4:Cal P w K mg base "cells_within" 1 ["parts"] (zi5 T K)):FnOk P w K mg base CX0 (2 * n + 4) f fd ["self","parts"] (spLI T K n T.o .one):=by
  obtain ⟨g1,d1,mc,cf,G1,b1,m1⟩:=B
  obtain ⟨g2,d2,G2,b2,k2,m2⟩:=C4
  refine F.ok scOI (λvs H Q E h=>?_) (λcdv A outer s H vs Q E hr h=>?_)
  · obtain ⟨a,dx,r,xs,l,H0,rfl,_⟩:=h
    rfl
  obtain ⟨a,dx,r,xs,l,H0,rfl,ha,s0,h0,hS,hL,hll,hd,hp,q⟩:=h
  have hr1:Room 1 _:=hr.mono (by omega)
  refine ⟨_,za3 (zh5 (pv 0) (zc5 zc8 rfl Z.x.tuple PyProof.Rows.boot_tuple (za0 (pv 1) za2)) rfl)
    (za4 (zd3 (zp0 cf G1 hr rfl m1 b1 zb0 (za0 (pv 0) (za0 (za9 G2 hr1 rfl m2 k2 b2 .nil zb0 (za0 (zd8 (pv 0) rfl) za2)) (za0
      (zb4 (zp7 rfl) rfl Z.x.sum PyProof.Rows.boot_sum (za0 (zh6 (caps:=[]) ["part"] rfl (zt3 (zd8 (pv 0) rfl)) ⟨rfl,by decide +kernel,by decide +kernel,rfl,.nil,rfl,rfl,rfl⟩
        (λs H ex=>zb2 (X:=cxLG _ _ _ _ s H ex) (i:=0) (nd1 _) rfl (Or.inl rfl) (.inr rfl)) (λs H ex=>zi1)
        (λs H ex=>zr9 (K:=K) rfl (pe_var (X:=cxLG _ _ _ _ s H ex) (i:=0) rfl (Or.inl rfl)) rfl)) za2)) za2)))))),?_⟩
  refine ⟨_,rfl,r,xs,rfl,.inl ⟨hS,λtp htp=>?_⟩⟩
  have nta:tp ≠ a:=λe=>by rw [e,ha] at htp; cases htp
  have wt:=same_new htp (.tup xs)
  refine ⟨_,rfl,a,T.o,dx,[],rfl,wt _ _ ha,Z.z.cl (.one l),Z.z.npo,by decide,?_⟩
  have k1:zb3 a H (upd (upd H tp (.tup xs)) a (.ins T.o dx (putF "parts" (.ref tp) []))):=(zb3.of wt).trans zb3.upd
  have ht1:(upd (upd H tp (.tup xs)) a (.ins T.o dx (putF "parts" (.ref tp) []))) tp = some (.tup xs):=by rw [za7 nta,upd_same]
  have ha1:=upd_same (H:=upd H tp (.tup xs)) (a:=a) (o:=.ins T.o dx (putF "parts" (.ref tp) []))
  generalize upd (upd H tp (.tup xs)) a (.ins T.o dx (putF "parts" (.ref tp) [])) = H1 at k1 ht1 ha1
  have s1:=k1.same s0 h0
  have pf:(putF "parts" (.ref tp) []).lookup ("parts" : Str) = some (.ref tp):=zf5
  refine ⟨_,rfl,_,rfl,a,T.o,dx,_,_,rfl,ha1,Z.z.cl (.one l),Z.z.npo,pf,tp,xs,l,rfl,.inl (SqT.of ht1),hL.kp (.of s1),hp,λr2 H2 ks s2 _ h2 kl km=>?_⟩
  refine ⟨_,rfl,a,T.o,dx,_,_,rfl,s2 _ _ ha1,Z.z.cl (.one l),Z.z.npo,pf,tp,rfl,⟨_,SqT.of (s2 _ _ ht1)⟩,λD hD=>?_⟩
  have hL2:=hL.kp (.of (s1.trans s2))
  refine zu7 (K:=K) (a:=tp) (xs:=xs) (λi σ H3=>∃ u,σ = [u]/\Same H2 H3/\H3 D = some (.lst ((l.take i).map λc=>V.int (zf8 c))))
    ⟨none,rfl,same_new hD _,upd_same⟩ (λi σ H3 _ ⟨_,_,s3,_⟩=>SqT.of (s3 _ _ (s2 _ _ ht1))) ?_ ?_
  · rintro i x σ H3 hi ⟨u,rfl,s3,h3⟩
    obtain ⟨c,hci,hC⟩:=zj4 hL2 hi
    obtain ⟨av,dv,fv,rfl,hv,_,hB,_⟩:=zh4.mp hC
    refine ⟨_,rfl,av,T.of c,dv,fv,_,rfl,s3 _ _ hv,Z.z.cl c,Z.z.na c,hB.at_,_,h3,?_,_,rfl,zc4 s3 hD _,?_⟩
    · rw [List.length_map]
      have:(l.take i).length<=l.length:=by rw [List.length_take]; omega
      exact Nat.lt_of_le_of_lt (by omega:_<=4000) (by decide)
    · rw [upd_same,zd6 hci,List.map_append]; rfl
  · rintro σ H3 ⟨u,rfl,s3,h3⟩
    rw [<- zg4 hL,List.take_length] at h3
    have k3:=k1.trans ((zb3.of s2).trans (zb3.of s3))
    have e:(l.map λc=>V.int (zf8 c)) = (l.map zf8).map V.int:=by rw [List.map_map]; rfl
    refine ⟨D,l.map zf8,rfl,SqL.of (by rw [<- e]; exact h3),?_⟩
    rw [<- zt1]
    obtain ⟨pool,p1,p2,p3⟩:=hp
    have h0t:(upd H0 tp (.tup xs)) a = none:=by rw [za7 (Ne.symm nta)]; exact h0
    have s0t:Same (upd H0 tp (.tup xs)) H3:=by
      intro b o hb
      by_cases e:b = tp
      · subst e
        rw [upd_same] at hb
        cases hb
        exact s3 _ _ (s2 _ _ ht1)
      · rw [za7 e] at hb
        exact (k3.same s0 h0) _ _ hb
    have h0tp:H0 tp = none:=by
      cases e:H0 tp with
      | none=>rfl
      | some o=>rw [s0 _ _ e] at htp; cases htp
    refine ⟨a,r2,upd H0 tp (.tup xs),.one l,dx,putF "parts" (.ref tp) [],ks,pool,by simp [zf8],s3 _ _ (s2 _ _ ha1),s0t,h0t,⟨tp,xs,pf,upd_same,hL.kp (.of (same_new h0tp _))⟩,by simp only [depth]; omega,SqL.of (s3 _ _ h2),kl,(by simpa only [cells] using km),p1,(by simpa only [cells] using p3),len1,zp4 nm4,λH' fs' kb e1 e2 e3 e4=>?_⟩
    exact q H' (k3.trans kb) (zp6 (kb.same s0t h0t) e1 e2 e3 e4)
end
end K55
namespace L2
open PySem PySem.Spec PyProof.Rows
section
variable {X:Cx}
theorem zw8 {K:W.Frag} {es:List Expr} {k:Nat} {t:TGs} {n:Nat} {pos:Pos} (hK:X.K = K) (hc:X.calm = true) (h:PGs X es t) (hn:(assignEach es X.env).length = n:=by rfl) (hst:(assignEach es X.env).findIdx? (·.1) = none:=by rfl):PG X (.Tuple es k pos) (gTup K n t):=by
  subst hK; exact zo9 hc h hn hst
def xq0 (K:W.Frag):List V->Hp->VK->Prop:=λxs H Q=>∃ p ys,xs = [.ref p]/\((SqL K H p ys/\∀ l,H l = none->Q (.ref l) (upd H l (.tup ys)))\/(SqT K H p ys/\Q (.ref p) H))
theorem zz4 {K:W.Frag} (hK:X.K = K):zn0 X (.type "tuple") (xq0 K):=by
  subst hK; exact zc8
end
end L2
namespace K55
open PySem L2 CD
def zu0:Sp:=λvs H Q _=>∃ (tc:Addr) (cs:List Str),vs = [.ref tc]/\H tc = some (.tup (cs.map V.str))/\cs.Nodup/\cs.length<=100/\∀ H',Same H H'->Q .non H'
def Wide (H:Hp) (n:Nat) (x:V):Prop:=∃ (a rt:Addr) (cv:V) (ys:List V),x = .ref a/\H a = some (.tup [.ref rt,cv])/\H rt = some (.tup ys)/\ys.length = n
def zt9:Sp:=λvs H Q _=>∃ (tr:Addr) (xs:List V) (n:Nat),vs = [.ref tr,.int n]/\H tr = some (.tup xs)/\(∀ x ∈ xs,Wide H n x)/\∀ H',Same H H'->Q .non H'
theorem yo7 {x:Str}:∀ {cs:List Str},cs.Nodup->((cs.map V.str).countP λz=>eqV z (.str x))<=1
  | [],_=>Nat.zero_le _
  | a :: r,h=>by
    obtain ⟨h1,h2⟩:=List.nodup_cons.mp h
    rw [List.map_cons,List.countP_cons]
    by_cases e:a = x
    · subst e
      have z:((r.map V.str).countP λz=>eqV z (.str a)) = 0:=by
        rw [List.countP_eq_zero]
        intro v hv
        obtain ⟨y,hy,rfl⟩:=List.mem_map.mp hv
        intro c
        have:(y == a) = true:=c
        exact h1 (beq_iff_eq.mp this ▸ hy)
      rw [z]
      split <;> omega
    · have n:¬ eqV (.str a) (.str x) = true:=λc=>e (beq_iff_eq.mp (show (a == x) = true from c))
      rw [if_neg n]
      exact yo7 h2
theorem zf0 (cs:List Str):(cs.map V.str).all zf2 = true:=by
  rw [List.all_eq_true]
  intro x hx
  obtain ⟨o,_,rfl⟩:=List.mem_map.mp hx
  rfl
theorem zf7 {b:Bool} {A B:Prop} (h:b = false) (hB:B):if b = true then A else B:=by rw [h]; exact iteF hB
theorem zm6 {b:Bool} {A B:Prop} (h:b = true) (hA:A):if b = true then A else B:=by rw [h]; exact iteT hA
theorem ndC2:(["name","columns"]:List Str).Nodup:=by decide +kernel
section
variable {P:Program} {w:World} {K:W.Frag} {mg:Str->Option Value} {base:Heap} {f:Addr} {fd:FuncData}
theorem scCC:FnScope ["columns","repeated"] ["columns"] (za1 zn9):=⟨rfl,rfl,rfl,by decide +kernel,rfl,by decide +kernel,by decide +kernel⟩
theorem yx5 (Fn:Fun K "check_columns" "check_columns" zn9 f fd):FnOk P w K mg base CX0 1 f fd ["columns"] zu0:=by
  refine Fn.ok scCC (λvs H Q E h=>?_) (λcdv A outer s H vs Q E hr h=>?_)
  · obtain ⟨tc,cs,rfl,_⟩:=h
    rfl
  obtain ⟨tc,cs,rfl,hc,nd,hl,q⟩:=h
  refine ⟨_,za3 (zo7 (i:=1) ["name"] (caps:=[("columns",0)]) rfl scCC.nd rfl rfl (zt3 (pv 0)) ⟨rfl,by decide +kernel,by decide +kernel,rfl,.cons rfl (.inl rfl) rfl .nil,rfl,rfl,rfl⟩
      (λs H ex=>zb2 (X:=cxLG _ _ _ _ s H ex) (i:=0) ndC2 rfl (Or.inl rfl) (.inr rfl))
      (λs H ex=>zj2 (zb7 yw6 (xq7 (X:=cxLG _ _ _ _ s H ex) PySem.F.slot_tuple_count PySem.F.type_tuple_count yy5 (pe_var (X:=cxLG _ _ _ _ s H ex) (i:=1) rfl (Or.inr (Or.inl rfl))) (za0 (pe_var (X:=cxLG _ _ _ _ s H ex) (i:=0) rfl (Or.inl rfl)) za2)) zb1 (zd0 _)))
      (λs H ex=>pe_var (X:=cxLG _ _ _ _ s H ex) (i:=0) rfl (Or.inl rfl)) rfl)
    (za4 (zg5 (yd8 (pv 1) (λ_=>rfl)) zi0 zb8)),?_⟩
  refine ⟨_,rfl,tc,rfl,⟨_,SqT.of hc⟩,λD hD=>?_⟩
  refine zu7 (K:=K) (a:=tc) (xs:=cs.map V.str) (λi σ H2=>∃ (u:Option V),σ = [u,some (.ref tc)]/\Same H H2/\H2 D = some (.lst []))
    ⟨none,rfl,same_new hD _,upd_same⟩ (λi σ H2 _ ⟨_,_,z,_⟩=>SqT.of (z _ _ hc)) ?_ ?_
  · rintro i v σ H2 hi ⟨u,rfl,s2,h2⟩
    obtain ⟨x,hxi,hxm,rfl⟩:=zp3 hi
    refine ⟨_,rfl,⟨tc,_,rfl,s2 _ _ hc⟩,_,rfl,tc,_,_,rfl,rfl,s2 _ _ hc,rfl,zf0 cs,_,_,rfl,rfl,_,rfl,?_⟩
    have:=yo7 (x:=x) nd
    refine zf7 ?_ ⟨_,rfl,s2,h2⟩
    rw [decide_eq_false_iff_not]
    omega
  · rintro σ H2 ⟨u,rfl,s2,h2⟩
    exact ⟨_,rfl,_,.inl ⟨[],SqL.of h2,rfl⟩,iteF (q H2 s2)⟩
theorem scCR:FnScope ["rows","width","number","row"] ["rows","width"] (za1 zr3):=⟨rfl,rfl,rfl,by decide +kernel,rfl,by decide +kernel,by decide +kernel⟩
theorem yx3 (Fn:Fun K "check_rows" "check_rows" zr3 f fd) (X:Txt mg):FnOk P w K mg base CX0 1 f fd ["rows","width"] zt9:=by
  refine Fn.ok scCR (λvs H Q E h=>?_) (λcdv A outer s H vs Q E hr h=>?_)
  · obtain ⟨tr,xs,n,rfl,_⟩:=h
    rfl
  obtain ⟨tr,xs,n,rfl,ht,hw,q⟩:=h
  refine ⟨_,za4 (zi6 PassesOwn.never rfl (xd0 rfl X.range2 (za0 (pv 0) za2)) (zo9 rfl (zc1 (zb2 (i:=2) scCR.nd rfl (Or.inl rfl)) (zc1 (zb2 (i:=3) scCR.nd rfl (Or.inl rfl)) zg8)))
      (za4 (zg5 (zb7 xr1 (zb4 zc3 rfl X.len PySem.boot_len (za0 (ye0 xi4 (pv 3) zb1 (λ_ _=>rfl)) za2)) (pv 1) (zd0 _)) zi0 zb8))),?_⟩
  refine ⟨_,rfl,tr,_,rfl,SqT.of ht,xa3 (K:=K) (a:=tr) (xs:=xs) (λi σ H2=>∃ (u2 u3:Option V),σ = [some (.ref tr),some (.int n),u2,u3]/\Same H H2)
    ⟨none,none,rfl,Same.refl _⟩ (λi σ H2 _ ⟨_,_,_,z⟩=>SqT.of (z _ _ ht)) ?_ ?_⟩
  · rintro i x t0 σ H2 hi ht0 ⟨u2,u3,rfl,s2⟩
    obtain ⟨a,rt,cv,ys,rfl,ha,hrt,hl⟩:=hw x (List.mem_of_getElem? hi)
    have s3:=same_new ht0 (.tup [.int i,.ref a])
    have w3:=s2.trans s3
    refine ⟨t0,_,rfl,SqT.of upd_same,rfl,_,_,rfl,_,_,rfl,rfl,?_⟩
    refine ⟨_,rfl,a,_,_,_,rfl,rfl,SqT.of (w3 _ _ ha),rfl,rt,_,rfl,.inr (SqT.of (w3 _ _ hrt)),_,rfl,rfl,_,rfl,?_⟩
    refine zf7 ?_ ⟨_,_,rfl,w3⟩
    rw [ze6,hl]
    simp
  · rintro σ H2 ⟨u2,u3,rfl,s2⟩
    exact q H2 s2
end
abbrev Row:=List Key × Cd
def RowI (T:Cl) (H:Hp) (v:V) (r:Row):Prop:=∃ (a rr:Addr) (cv:V),v = .ref a/\H a = some (.tup [.ref rr,cv])/\(H rr = some (.lst (r.1.map kV))\/H rr = some (.tup (r.1.map kV)))/\IsC T H r.2 cv
def RowX (T:Cl) (H0 H:Hp) (v:V) (r:Row):Prop:=∃ (a rt:Addr) (cv:V),v = .ref a/\H a = some (.tup [.ref rt,cv])/\H rt = some (.tup (r.1.map kV))/\IsC T H0 r.2 cv
def AllC (rows:List Row) (w:Cd) (k:Key):Prop:=(∃ r ∈ rows,k ∈ r.1\/k ∈ cells r.2)\/k ∈ cells w
def zf3:List Str:=["columns","rows","whole","gaps","standing"]
structure IsB (T:Cl) (BC:Addr) (H:Hp) (b:Addr) (cs:List Str) (rows:List Row) (w:Cd):Prop where
  ex:∃ (dx tc tr tg tv:Addr) (cw:V) (fs:List (Str × V)) (xs:List V) (gs:List Str) (vs:List Int),H b = some (.ins BC dx fs)/\(∀ m ∈ zf3,fs.lookup m = none) /\
    fs.lookup ("kept_columns" : Str) = some (.ref tc)/\H tc = some (.tup (cs.map V.str))/\fs.lookup ("kept_rows" : Str) = some (.ref tr)/\H tr = some (.tup xs)/\Paired (RowX T H H) xs rows/\fs.lookup ("kept_whole" : Str) = some cw/\IsC T H w cw /\
    fs.lookup ("kept_gaps" : Str) = some (.ref tg)/\H tg = some (.tup (gs.map V.str))/\gs.Nodup/\PyProof.Rows.sortedS gs = true/\(∀ x,x ∈ gs ↔ AllC rows w (Sum.inr x)) /\
    fs.lookup ("kept_values" : Str) = some (.ref tv)/\H tv = some (.tup (vs.map V.int))/\vs.Nodup/\vs.Pairwise (·<=·)/\∀ x,x ∈ vs ↔ AllC rows w (Sum.inl x)
structure Bz (K:W.Frag) (T:Cl) (BC:Addr):Prop where
  cl:Cls K BC
  nc:zd9 K BC "kept_columns"
  nr:zd9 K BC "kept_rows"
  nw:zd9 K BC "kept_whole"
  ng:zd9 K BC "kept_gaps"
  nv:zd9 K BC "kept_values"
  ne:T.t ≠ BC
structure KX (T:Cl) (H H':Hp):Prop where
  t:∀ x xs,H x = some (.tup xs)->H' x = some (.tup xs)
  i:∀ x dx fs,H x = some (.ins T.t dx fs)->H' x = some (.ins T.t dx fs)
theorem KX.of {T:Cl} {H H':Hp} (s:Same H H'):KX T H H':=⟨λx xs h=>s _ _ h,λx dx fs h=>s _ _ h⟩
theorem KX.trans {T:Cl} {H H1 H2:Hp} (a:KX T H H1) (b:KX T H1 H2):KX T H H2:=⟨λx xs h=>b.t _ _ (a.t _ _ h),λx dx fs h=>b.i _ _ _ (a.i _ _ _ h)⟩
theorem KX.keepB {T:Cl} {BC:Addr} {H H':Hp} {b dx:Addr} {fs:List (Str × V)} (k:zb3 b H H') (hb:H b = some (.ins BC dx fs)) (ne:T.t ≠ BC):KX T H H':=
  ⟨λx xs h=>k _ _ (λe=>by rw [e,hb] at h; cases h) h,λx dx' fs' h=>k _ _ (λe=>by rw [e,hb] at h; cases h; exact ne rfl) h⟩
theorem KX.updL {T:Cl} {H:Hp} {D:Addr} {ys zs:List V} (h:H D = some (.lst ys)):KX T H (upd H D (.lst zs)):=
  ⟨λx xs hx=>by rw [za7 (λe=>by rw [e,h] at hx; cases hx)]; exact hx,λx dx fs hx=>by rw [za7 (λe=>by rw [e,h] at hx; cases hx)]; exact hx⟩
theorem xc1 {T:Cl} {H H':Hp} {b:Bool} {v:V} (k:KX T H H') (h:IsC T H (.truth b) v):IsC T H' (.truth b) v:=by
  simp only [CD.IsC] at h ⊢
  obtain ⟨a,dx,fs,e1,e2,e3,⟨⟨tg,gs,g1,g2,g3⟩,⟨tv,vs,v1,v2,v3⟩,b3,b4⟩,e5⟩:=h
  exact ⟨a,dx,fs,e1,k.i _ _ _ e2,e3,⟨⟨tg,gs,g1,k.t _ _ g2,g3⟩,⟨tv,vs,v1,k.t _ _ v2,v3⟩,b3,b4⟩,e5⟩
def WhOk (T:Cl) (H0 H:Hp) (w:Cd) (cw:V):Prop:=IsC T H0 w cw\/(w = .truth true/\IsC T H (.truth true) cw)
theorem WhOk.kx {T:Cl} {H0 H H':Hp} {w:Cd} {cw:V} (k:KX T H H') (h:WhOk T H0 H w cw):WhOk T H0 H' w cw:=h.imp id λ⟨e,z⟩=>⟨e,xc1 k z⟩
theorem WhOk.isC {T:Cl} {H0 H:Hp} {w:Cd} {cw:V} (s:Same H0 H) (h:WhOk T H0 H w cw):IsC T H w cw:=by
  rcases h with h | ⟨rfl,h⟩
  · exact h.kp (.of s)
  · exact h
theorem zj8 {T:Cl} {H0 H H':Hp} (k:KX T H H'):∀ {xs:List V} {rows:List Row},Paired (RowX T H0 H) xs rows->Paired (RowX T H0 H') xs rows
  | _,_,.nil=>.nil
  | _,_,.cons ⟨a,rt,cv,e,h1,h2,h3⟩ r=>.cons ⟨a,rt,cv,e,k.t _ _ h1,k.t _ _ h2,h3⟩ (zj8 k r)
theorem ym9 {T:Cl} {H0 H:Hp} (s:Same H0 H):∀ {xs:List V} {rows:List Row},Paired (RowX T H0 H) xs rows->Paired (RowX T H H) xs rows
  | _,_,.nil=>.nil
  | _,_,.cons ⟨a,rt,cv,e,h1,h2,h3⟩ r=>.cons ⟨a,rt,cv,e,h1,h2,h3.kp (.of s)⟩ (ym9 s r)
theorem pget {α β:Type} {R:α->β->Prop}:∀ {xs:List α} {ys:List β},Paired R xs ys->∀ {i:Nat} {x:α},xs[i]? = some x->∃ y,ys[i]? = some y/\R x y
  | _,_,.nil,i,x,e=>by simp at e
  | _,_,.cons r t,0,x,e=>by simp at e; subst e; exact ⟨_,rfl,r⟩
  | _,_,.cons r t,i + 1,x,e=>by
    obtain ⟨y,h1,h2⟩:=pget t (i:=i) (x:=x) (by simpa using e)
    exact ⟨y,by simpa using h1,h2⟩
theorem plen {α β:Type} {R:α->β->Prop}:∀ {xs:List α} {ys:List β},Paired R xs ys->xs.length = ys.length
  | _,_,.nil=>rfl
  | _,_,.cons _ t=>by rw [List.length_cons,List.length_cons,plen t]
theorem yk1 {α β:Type} {R:α->β->Prop} {a:α} {b:β}:∀ {xs:List α} {ys:List β},Paired R xs ys->R a b->Paired R (xs ++ [a]) (ys ++ [b])
  | _,_,.nil,r=>.cons r .nil
  | _,_,.cons q t,r=>.cons q (yk1 t r)
theorem yc4 {rows:List Row} {w:Cd} {k:Key}:k ∈ zh7 (rows.map (·.2) ++ [w]) ↔ (∃ r ∈ rows,k ∈ cells r.2)\/k ∈ cells w:=by
  rw [zh8]
  constructor
  · rintro ⟨c,hc,hk⟩
    rcases List.mem_append.mp hc with hc | hc
    · obtain ⟨r,hr,rfl⟩:=List.mem_map.mp hc
      exact .inl ⟨r,hr,hk⟩
    · have:c = w:=by simpa using hc
      exact .inr (this ▸ hk)
  · rintro (⟨r,hr,hk⟩ | hk)
    · exact ⟨r.2,List.mem_append_left _ (List.mem_map.mpr ⟨r,hr,rfl⟩),hk⟩
    · exact ⟨w,List.mem_append_right _ (by simp),hk⟩
theorem yu7 {ks kys:List Key} {Pd:Key->Prop} {pool:List Key} (nd:ks.Nodup) (hm:∀ k,k ∈ ks ↔ k ∈ (zk4 kys).map Sum.inr) (hk:∀ k:Key,k ∈ kys ↔ Pd k) (hp:∀ k,Pd k->k ∈ pool) (pl:pool.length < 64) :
    ∃ xs:List Str,ks = xs.map Sum.inr/\xs.Nodup/\xs.length < 64/\∀ x,x ∈ xs ↔ Pd (Sum.inr x):=by
  obtain ⟨xs,rfl⟩:=xb6 (ks:=ks) (λk h=>by obtain ⟨x,_,e⟩:=List.mem_map.mp ((hm k).mp h); exact ⟨x,e.symm⟩)
  have mem:∀ x,x ∈ xs ↔ Pd (Sum.inr x):=λx=>by
    have h1:=hm (Sum.inr x)
    rw [List.mem_map,List.mem_map] at h1
    rw [<- hk,<- yb9]
    constructor
    · intro hx
      obtain ⟨y,hy,e⟩:=h1.mp ⟨x,hx,rfl⟩
      exact (Sum.inr.inj e) ▸ hy
    · intro hx
      obtain ⟨y,hy,e⟩:=h1.mpr ⟨x,hx,rfl⟩
      exact (Sum.inr.inj e) ▸ hy
  refine ⟨xs,rfl,zh1 nd,?_,mem⟩
  have:=zi2 (l:=xs.map (Sum.inr:Str->Key)) (m:=pool) nd (λk hk=>by
    obtain ⟨x,hx,rfl⟩:=List.mem_map.mp hk
    exact hp _ ((mem x).mp hx))
  rw [List.length_map] at this
  omega
theorem yz8 {ks kys:List Key} {Pd:Key->Prop} {pool:List Key} (nd:ks.Nodup) (hm:∀ k,k ∈ ks ↔ k ∈ (zk5 kys).map Sum.inl) (hk:∀ k:Key,k ∈ kys ↔ Pd k) (hp:∀ k,Pd k->k ∈ pool) (pl:pool.length < 64) :
    ∃ xs:List Int,ks = xs.map Sum.inl/\xs.Nodup/\xs.length < 64/\∀ x,x ∈ xs ↔ Pd (Sum.inl x):=by
  obtain ⟨xs,rfl⟩:=xb7 (ks:=ks) (λk h=>by obtain ⟨x,_,e⟩:=List.mem_map.mp ((hm k).mp h); exact ⟨x,e.symm⟩)
  have mem:∀ x,x ∈ xs ↔ Pd (Sum.inl x):=λx=>by
    have h1:=hm (Sum.inl x)
    rw [List.mem_map,List.mem_map] at h1
    rw [<- hk,<- yc0]
    constructor
    · intro hx
      obtain ⟨y,hy,e⟩:=h1.mp ⟨x,hx,rfl⟩
      exact (Sum.inl.inj e) ▸ hy
    · intro hx
      obtain ⟨y,hy,e⟩:=h1.mpr ⟨x,hx,rfl⟩
      exact (Sum.inl.inj e) ▸ hy
  refine ⟨xs,rfl,zh1 nd,?_,mem⟩
  have:=zi2 (l:=xs.map (Sum.inl:Int->Key)) (m:=pool) nd (λk hk=>by
    obtain ⟨x,hx,rfl⟩:=List.mem_map.mp hk
    exact hp _ ((mem x).mp hx))
  rw [List.length_map] at this
  omega
theorem ndRC:(["row","cond"]:List Str).Nodup:=by decide +kernel
section
variable {P:Program} {w:World} {K:W.Frag} {mg:Str->Option Value} {base:Heap} {f:Addr} {fd:FuncData} {T:Cl} {CC BC:Addr}
theorem scBI:FnScope ["self","columns","rows","whole","cells","row","cond"] ["self","columns","rows","whole"] (za1 zg6):=⟨rfl,rfl,rfl,by decide +kernel,rfl,by decide +kernel,by decide +kernel⟩
theorem xo4 {cdv:Value} {A:Around} {outer:List Env} {s:Shared} {H0':Hp} {E:XK} {n:Nat} (hr:Room n (A.deeper (PyProof.Rows.envOfC "Table.__init__" (za1 zg6) s.heap.objs.size f cdv))) (hn:1<=n) (X:Txt mg) (Z:Bz K T BC)
    (C1:Cal P w K mg base "gaps_among" 1 ["cells"] (zq7 K)) (C2:Cal P w K mg base "values_among" 1 ["cells"] (zq6 K)) (C3:Cal P w K mg base "cells_within" 1 ["parts"] (zi5 T K)) :
    ∃ t,PSs (cxOf CX0 P w K mg base ["self","columns","rows","whole","cells","row","cond"] "Table.__init__" (za1 zg6) f cdv A outer s H0' E).nox ((za5 zg6).drop 5) t /\
      ∀ (Q:VK) (H0 H:Hp) (b dx tr:Addr) (v1 v2 v3:Option V) (fs:List (Str × V)) (xs:List V) (rows:List Row) (cw:V) (wc:Cd) (pool:List Key),H b = some (.ins BC dx fs)->fs.length<=10->fs.lookup ("kept_rows" : Str) = some (.ref tr)->H tr = some (.tup xs)->Paired (RowX T H0 H) xs rows->fs.lookup ("kept_whole" : Str) = some cw->WhOk T H0 H wc cw->Same H0 H->H0 b = none ->
        rows.length<=30->(∀ r ∈ rows,r.1.length<=10)->pool.length<=40->(∀ k,AllC rows wc k->k ∈ pool) ->
        (∀ (H':Hp) (tg tv:Addr) (gs:List Str) (vs:List Int),zb3 b H H'->H' b = some (.ins BC dx (putF "kept_values" (.ref tv) (putF "kept_gaps" (.ref tg) fs)))->H' tg = some (.tup (gs.map V.str))->gs.Nodup->PyProof.Rows.sortedS gs = true->(∀ x,x ∈ gs ↔ AllC rows wc (Sum.inr x))->H' tv = some (.tup (vs.map V.int))->vs.Nodup->vs.Pairwise (·<=·)->(∀ x,x ∈ vs ↔ AllC rows wc (Sum.inl x))->Q .non H') ->
        t { nx:=λ_ H'=>Q .non H',rt:=Q } [some (.ref b),v1,v2,v3,none,none,none] H:=by
  obtain ⟨g1,d1,G1,b1,k1,m1⟩:=C1
  obtain ⟨g2,d2,G2,b2,k2,m2⟩:=C2
  obtain ⟨g3,d3,G3,b3,k3,m3⟩:=C3
  have hr1:Room 1 _:=hr.mono hn
  refine ⟨_,za3 (zc7 (i:=4) scBI.nd rfl (Or.inl rfl) (za9 G3 hr1 rfl m3 k3 b3 .nil zb0 (za0 (zc9 zm3
        (zh6 (caps:=[]) ["row","cond"] rfl (zt3 (zd8 (pv 0) rfl)) ⟨rfl,by decide +kernel,by decide +kernel,rfl,.nil,rfl,rfl,rfl⟩
          (λs H ex=>zw8 (K:=K) (n:=2) rfl rfl (zc1 (zb2 (X:=cxLG _ _ _ _ s H ex) (i:=0) ndRC rfl (Or.inl rfl) (.inr rfl)) (zc1 (zb2 (X:=cxLG _ _ _ _ s H ex) (i:=1) ndRC rfl (Or.inl rfl) (.inr rfl)) zg8))) (λs H ex=>zi1)
          (λs H ex=>pe_var (X:=cxLG _ _ _ _ s H ex) (i:=1) rfl (Or.inl rfl)))
        (ze7 (za0 (zd8 (pv 0) rfl) za2))) za2)))
    (za3 (zi6 PassesOwn.never rfl (zt3 (zd8 (pv 0) rfl)) (zo9 rfl (zc1 (zb2 (i:=5) scBI.nd rfl (Or.inl rfl)) (zc1 (zb2 (i:=6) scBI.nd rfl (Or.inl rfl)) zg8)))
      (za4 (zd3 (zz2 PySem.F.plainAttrs_list PySem.F.slot_list_extend PySem.F.type_list_extend zj7 (pv 4) (za0 (pv 5) za2)))))
    (za3 (zh5 (pv 0) (zc5 zc8 rfl X.tuple PyProof.Rows.boot_tuple (za0 (zb4 (zk7 rfl) rfl X.sorted PyProof.Rows.boot_sorted (za0 (zc5 (zk3 rfl) rfl X.set PyProof.Rows.boot_set (za0 (za9 G1 hr1 rfl m1 k1 b1 .nil zb0 (za0 (pv 4) za2)) za2)) za2)) za2)) rfl)
    (za4 (zh5 (pv 0) (zc5 zc8 rfl X.tuple PyProof.Rows.boot_tuple (za0 (zb4 (zk8 rfl) rfl X.sorted PyProof.Rows.boot_sorted (za0 (zc5 (zk3 rfl) rfl X.set PyProof.Rows.boot_set (za0 (za9 G2 hr1 rfl m2 k2 b2 .nil zb0 (za0 (pv 4) za2)) za2)) za2)) za2)) rfl)))),?_⟩
  intro Q H0 H b dx tr v1 v2 v3 fs xs rows cw wc pool hb hfl lr htr hP lw hW s0 h0b rl rw10 pl40 hpool q
  have len:=plen hP
  refine ⟨_,rfl,b,BC,dx,fs,_,rfl,hb,Z.cl,Z.nr,lr,tr,rfl,⟨_,SqT.of htr⟩,λD hD=>?_⟩
  refine zu7 (K:=K) (a:=tr) (xs:=xs) (λi σ H2=>∃ (u1 u2:Option V) (vs:List V),σ = [u1,u2]/\Same H H2/\H2 D = some (.lst vs)/\IsL T H0 ((rows.take i).map (·.2)) vs)
    ⟨none,none,[],rfl,same_new hD _,upd_same,by simp only [List.take_zero,List.map_nil,CD.IsL]⟩ (λi σ H2 _ ⟨_,_,_,_,z,_⟩=>SqT.of (z _ _ htr)) ?_ ?_
  · rintro i x σ H2 hi ⟨u1,u2,vs,rfl,s2,h2,hL⟩
    obtain ⟨r,hri,a,rt,cv,rfl,ha,hrt,hC⟩:=pget hP hi
    have hil:=(List.getElem?_eq_some_iff.mp hri).1
    have hll:=zg4 hL
    rw [List.length_map,List.length_take] at hll
    refine ⟨a,_,rfl,SqT.of (s2 _ _ ha),rfl,_,_,rfl,_,_,rfl,rfl,_,rfl,vs,h2,zb5 (by omega),_,_,vs ++ [cv],rfl,zc4 s2 hD _,upd_same,?_⟩
    rw [zd6 hri,List.map_append]
    exact zi9 hL hC
  rintro σ H2 ⟨u1,u2,vs,rfl,s2,h2,hL⟩
  rw [len,List.take_length] at hL
  have hll:=zg4 hL
  rw [List.length_map] at hll
  have hb2:=s2 _ _ hb
  refine ⟨_,rfl,b,BC,dx,fs,_,rfl,hb2,Z.cl,Z.nw,lw,zb6 (by simp),λL1 hL1=>?_⟩
  have s3:=same_new hL1 (.lst [cw])
  have h3:=upd_same (H:=H2) (a:=L1) (o:=.lst [cw])
  have h3D:=s3 _ _ h2
  generalize upd H2 L1 (.lst [cw]) = H3 at s3 h3 h3D ⊢
  refine ⟨D,L1,vs,[cw],rfl,rfl,h3D,h3,zb6 (by rw [List.length_singleton]; omega),λL2 hL2=>?_⟩
  have s4:=same_new hL2 (.lst (vs ++ [cw]))
  have h4:=upd_same (H:=H3) (a:=L2) (o:=.lst (vs ++ [cw]))
  generalize upd H3 L2 (.lst (vs ++ [cw])) = H4 at s4 h4 ⊢
  have w4:Same H H4:=s2.trans (s3.trans s4)
  have hL4:IsL T H4 (rows.map (·.2) ++ [wc]) (vs ++ [cw]):=zi9 (hL.kp (.of (s0.trans w4))) ((hW.kx (KX.of w4)).isC (s0.trans w4))
  have hcp:∀ k ∈ zh7 (rows.map (·.2) ++ [wc]),k ∈ pool:=λk hk=>hpool k (by
    rcases yc4.mp hk with ⟨r,hr',hk'⟩ | hk'
    · exact .inl ⟨r,hr',.inr hk'⟩
    · exact .inr hk')
  refine ⟨L2,vs ++ [cw],rows.map (·.2) ++ [wc],rfl,.inr (SqL.of h4),hL4,⟨pool,by omega,?_,hcp⟩,λr H5 ks s5 hr4 h5 ksl hks=>?_⟩
  · rw [List.length_append,List.length_map,List.length_singleton]
    exact Nat.le_trans (Nat.mul_le_mul (show rows.length + 1<=31 by omega) pl40) (by decide)
  have w5:=w4.trans s5
  have hb5:=w5 _ _ hb
  have htr5:=w5 _ _ htr
  have nrb:b ≠ r:=λe=>by rw [e,h5] at hb5; cases hb5
  refine ⟨_,rfl,b,BC,dx,fs,_,rfl,hb5,Z.cl,Z.nr,lr,tr,rfl,⟨_,SqT.of htr5⟩,yf0 (K:=K) (a:=tr) (xs:=xs) (λi σ H6=>∃ (u5 u6:Option V) (ms:List Key),σ = [some (.ref b),v1,v2,v3,some (.ref r),u5,u6]/\(∀ x o,x ≠ r->H5 x = some o->H6 x = some o)/\H6 r = some (.lst (ms.map kV))/\ms.length<=3000 + 10 * i/\∀ k,k ∈ ms ↔ k ∈ ks\/∃ r' ∈ rows.take i,k ∈ r'.1)
    ⟨none,none,ks,rfl,λx o _ h=>h,h5,by omega,λk=>⟨.inl,λz=>z.elim id λ⟨r',hr',_⟩=>by rw [List.take_zero] at hr'; cases hr'⟩⟩ (λi σ H6 _ ⟨_,_,_,_,z,_⟩=>SqT.of (z _ _ (λe=>by rw [e,h5] at htr5; cases htr5) htr5)) ?_ ?_⟩
  · rintro i x σ H6 hi ⟨u5,u6,ms,rfl,k6,h6,ml,mm⟩
    obtain ⟨r',hri,a,rt,cv,rfl,ha,hrt,hC⟩:=pget hP hi
    have hil:=(List.getElem?_eq_some_iff.mp hri).1
    have ha5:=w5 _ _ ha
    have hrt5:=w5 _ _ hrt
    have ha6:=k6 _ _ (λe=>by rw [e,h5] at ha5; cases ha5) ha5
    have hrt6:=k6 _ _ (λe=>by rw [e,h5] at hrt5; cases hrt5) hrt5
    have r10:=rw10 r' (List.mem_of_getElem? hri)
    refine ⟨a,_,rfl,SqT.of ha6,rfl,_,_,rfl,_,_,rfl,rfl,?_⟩
    refine ⟨_,rfl,.inl ⟨rfl,_,SqL.of h6⟩,_,rfl,r,rt,_,_,rfl,rfl,h6,SqT.of hrt6,zb6 (by rw [List.length_map,List.length_map]; omega),?_⟩
    refine ⟨_,_,ms ++ r'.1,rfl,λx o nx hx=>by rw [za7 nx]; exact k6 x o nx hx,by rw [upd_same,List.map_append],by rw [List.length_append]; omega,λk=>?_⟩
    rw [List.mem_append,mm k,zd6 hri,or_assoc]
    refine or_congr Iff.rfl ⟨?_,?_⟩
    · rintro (⟨r2,h1,h2⟩ | h2)
      · exact ⟨r2,List.mem_append_left _ h1,h2⟩
      · exact ⟨r',List.mem_append_right _ (by simp),h2⟩
    · rintro ⟨r2,h1,h2⟩
      rcases List.mem_append.mp h1 with h1 | h1
      · exact .inl ⟨r2,h1,h2⟩
      · have:r2 = r':=by simpa using h1
        exact .inr (this ▸ h2)
  rintro σ H6 ⟨u5,u6,ms,rfl,k6,h6,ml,mm⟩
  rw [len] at ml
  rw [len,List.take_length] at mm
  have mall:∀ k,k ∈ ms ↔ AllC rows wc k:=λk=>by
    rw [mm k,hks k,yc4]
    unfold AllC
    constructor
    · rintro ((⟨r',h1,h2⟩ | h2) | ⟨r',h1,h2⟩)
      · exact .inl ⟨r',h1,.inr h2⟩
      · exact .inr h2
      · exact .inl ⟨r',h1,.inl h2⟩
    · rintro (⟨r',h1,h2 | h2⟩ | h2)
      · exact .inr ⟨r',h1,h2⟩
      · exact .inl (.inl ⟨r',h1,h2⟩)
      · exact .inl (.inr h2)
  have s6:Same H H6:=λx o hx=>k6 x o (λe=>by
    rw [e] at hx
    have:=w4 _ _ hx
    rw [hr4] at this
    cases this) (w5 _ _ hx)
  have hb6:=s6 _ _ hb
  refine ⟨_,rfl,r,ms,rfl,SqL.of h6,by omega,λl1 H7 s7 hl1=>⟨l1,(zk4 ms).map Sum.inr,rfl,SqL.of (by rw [<- yy7]; exact hl1),by rw [List.length_map]; exact Nat.le_trans (zq0 _) (by omega),λl2 kz hl2 nd hm=>?_⟩⟩
  obtain ⟨gs0,rfl,gnd,gl,gm⟩:=yu7 nd hm mall hpool (by omega)
  refine ⟨l2,gs0,rfl,upd_same,gl,λl3 gs hl3 pg sg=>⟨l3,_,rfl,.inl ⟨SqL.of upd_same,λtg htg=>?_⟩⟩⟩
  generalize SetO _ _ l2 (List.map Sum.inr gs0) = so at hl3 htg ⊢
  have x2:=same_new hl2 so
  have x3:=same_new hl3 (.lst (gs.map V.str))
  have x4:=same_new htg (.tup (gs.map V.str))
  have s8:=s7.trans (x2.trans (x3.trans x4))
  have hg8:=upd_same (H:=upd (upd H7 l2 so) l3 (.lst (gs.map V.str))) (a:=tg) (o:=.tup (gs.map V.str))
  generalize upd (upd (upd H7 l2 so) l3 (.lst (gs.map V.str))) tg (.tup (gs.map V.str)) = H8 at s8 hg8 ⊢
  have hb8:=s8 _ _ hb6
  refine ⟨_,rfl,b,BC,dx,fs,rfl,hb8,Z.cl,Z.ng,by omega,?_⟩
  have ntb:tg ≠ b:=λe=>by rw [e,hb8] at hg8; cases hg8
  have kb9:zb3 b H6 (upd H8 b (.ins BC dx (putF "kept_gaps" (.ref tg) fs))):=(zb3.of s8).trans zb3.upd
  have hb9:=upd_same (H:=H8) (a:=b) (o:=.ins BC dx (putF "kept_gaps" (.ref tg) fs))
  have hg9:(upd H8 b (.ins BC dx (putF "kept_gaps" (.ref tg) fs))) tg = some (.tup (gs.map V.str)):=by rw [za7 ntb]; exact hg8
  generalize upd H8 b (.ins BC dx (putF "kept_gaps" (.ref tg) fs)) = H9 at kb9 hb9 hg9 ⊢
  have h9:=kb9 _ _ (Ne.symm nrb) h6
  refine ⟨_,rfl,r,ms,rfl,SqL.of h9,by omega,λj1 J1 z1 hj1=>⟨j1,(zk5 ms).map Sum.inl,rfl,SqL.of (by rw [<- zs2]; exact hj1),by rw [List.length_map]; exact Nat.le_trans (zs5 _) (by omega),λj2 kz hj2 nd' hm'=>?_⟩⟩
  obtain ⟨vs0,rfl,vnd,vl,vm⟩:=yz8 nd' hm' mall hpool (by omega)
  refine ⟨j2,vs0,rfl,upd_same,vl,λj3 vs hj3 pv' sv=>⟨j3,_,rfl,.inl ⟨SqL.of upd_same,λtv htv=>?_⟩⟩⟩
  generalize SetO _ _ j2 (List.map Sum.inl vs0) = so' at hj3 htv ⊢
  have y2:=same_new hj2 so'
  have y3:=same_new hj3 (.lst (vs.map V.int))
  have y4:=same_new htv (.tup (vs.map V.int))
  have sA:=z1.trans (y2.trans (y3.trans y4))
  have hvA:=upd_same (H:=upd (upd J1 j2 so') j3 (.lst (vs.map V.int))) (a:=tv) (o:=.tup (vs.map V.int))
  generalize upd (upd (upd J1 j2 so') j3 (.lst (vs.map V.int))) tv (.tup (vs.map V.int)) = HA at sA hvA ⊢
  have hbA:=sA _ _ hb9
  have lf1:=zc6 "kept_gaps" (.ref tg) fs
  refine ⟨_,rfl,b,BC,dx,_,rfl,hbA,Z.cl,Z.nv,by omega,?_⟩
  have nvb:tv ≠ b:=λe=>by rw [e,hbA] at hvA; cases hvA
  refine q _ tg tv gs vs ((zb3.of s6).trans (kb9.trans ((zb3.of sA).trans zb3.upd))) upd_same (by rw [za7 ntb]; exact sA _ _ hg9) (pg.nodup_iff.mpr gnd) sg (λx=>pg.mem_iff.trans (gm x)) (by rw [za7 nvb]; exact hvA) (pv'.nodup_iff.mpr vnd) sv (λx=>pv'.mem_iff.trans (vm x))
end
theorem ze8 {H:Hp} {x dx C:Addr} (h1:H x = none) (h2:H dx = none):Same H (upd (upd H dx (.own x)) x (.ins C dx [])):=zc4 (same_new h2 _) h1 _
def MkC (P:Program) (w:World) (K:W.Frag) (mg:Str->Option Value) (base:Heap) (x:Str) (C:Addr) (k:Nat) (ps:List Str) (sp:Sp):Prop:=∃ f fd,Mk K C f/\FnOk P w K mg base CX0 k f fd ps sp/\zi3 K fd ps []/\mg x = some (.ref C)
def spBI (T:Cl) (BC:Addr):Sp:=λvs H Q _=>∃ (b dx ca ra:Addr) (wv:V) (cs:List Str) (xs:List V) (rows:List Row) (wc:Cd) (pool:List Key) (H0:Hp),vs = [.ref b,.ref ca,.ref ra,wv]/\H b = some (.ins BC dx [])/\Same H0 H/\H0 b = none/\H0 ca = some (.lst (cs.map V.str))/\cs.Nodup/\cs.length<=10/\H0 ra = some (.lst xs)/\Paired (RowI T H0) xs rows/\(∀ r ∈ rows,r.1.length = cs.length)/\rows.length<=30 /\
  ((wv = .non/\wc = .truth true)\/IsC T H0 wc wv)/\pool.length<=40/\(∀ k,AllC rows wc k->k ∈ pool)/\∀ H',zb3 b H H'->IsB T BC H' b cs rows wc->Q .non H'
theorem yj0 {fs:List (Str × V)} {g:Str} {y:V} (hg:g ∉ zf3) (h:∀ m ∈ zf3,fs.lookup m = none):∀ m ∈ zf3,(putF g y fs).lookup m = none:=by
  intro m hm
  rw [zg0,if_neg (λz:m = g=>hg (z ▸ hm))]
  exact h m hm
theorem nb1:("kept_columns" : Str) ∉ zf3:=by unfold zf3; decide +kernel
theorem nb2:("kept_rows" : Str) ∉ zf3:=by unfold zf3; decide +kernel
theorem nb3:("kept_whole" : Str) ∉ zf3:=by unfold zf3; decide +kernel
theorem nb4:("kept_gaps" : Str) ∉ zf3:=by unfold zf3; decide +kernel
theorem nb5:("kept_values" : Str) ∉ zf3:=by unfold zf3; decide +kernel
section
variable {P:Program} {w:World} {K:W.Frag} {mg:Str->Option Value} {base:Heap} {f:Addr} {fd:FuncData} {T:Cl} {CC BC:Addr}
theorem yt9 {H0 H:Hp} {n:Nat}:∀ {xs:List V} {rows:List Row},Paired (RowX T H0 H) xs rows->(∀ r ∈ rows,r.1.length = n)->∀ x ∈ xs,Wide H n x
  | _,_,.nil,_,x,hx=>by cases hx
  | _,_,.cons (b:=r) ⟨a,rt,cv,e,h1,h2,h3⟩ t,hw,x,hx=>by
    rcases List.mem_cons.mp hx with rfl | hx
    · exact ⟨a,rt,cv,_,e,h1,h2,by rw [List.length_map]; exact hw r List.mem_cons_self⟩
    · exact yt9 t (λr hr=>hw r (List.mem_cons_of_mem _ hr)) x hx
theorem xh2 {cdv:Value} {A:Around} {outer:List Env} {s:Shared} {H0':Hp} {E:XK} {n:Nat} (hr:Room n (A.deeper (PyProof.Rows.envOfC "Table.__init__" (za1 zg6) s.heap.objs.size f cdv))) (hn:1<=n) (X:Txt mg) (Z:Bz K T BC)
    (C1:Cal P w K mg base "gaps_among" 1 ["cells"] (zq7 K)) (C2:Cal P w K mg base "values_among" 1 ["cells"] (zq6 K)) (C3:Cal P w K mg base "cells_within" 1 ["parts"] (zi5 T K)) (C4:Cal P w K mg base "check_columns" 1 ["columns"] zu0) (C5:Cal P w K mg base "check_rows" 1 ["rows","width"] zt9) :
    ∃ t,PSs (cxOf CX0 P w K mg base ["self","columns","rows","whole","cells","row","cond"] "Table.__init__" (za1 zg6) f cdv A outer s H0' E).nox ((za5 zg6).drop 3) t /\
      ∀ (Q:VK) (H0 H:Hp) (b dx tc tr:Addr) (v1 v2 v3:Option V) (fs:List (Str × V)) (cs:List Str) (xs:List V) (rows:List Row) (cw:V) (wc:Cd) (pool:List Key),H b = some (.ins BC dx fs)->fs.length<=10->(∀ m ∈ zf3,fs.lookup m = none)->fs.lookup ("kept_columns" : Str) = some (.ref tc)->H tc = some (.tup (cs.map V.str))->cs.Nodup->cs.length<=10->fs.lookup ("kept_rows" : Str) = some (.ref tr)->H tr = some (.tup xs)->Paired (RowX T H0 H) xs rows->(∀ r ∈ rows,r.1.length = cs.length)->fs.lookup ("kept_whole" : Str) = some cw->WhOk T H0 H wc cw->Same H0 H->H0 b = none ->
        rows.length<=30->pool.length<=40->(∀ k,AllC rows wc k->k ∈ pool) ->
        (∀ (H':Hp),zb3 b H H'->IsB T BC H' b cs rows wc->Q .non H') ->
        t { nx:=λ_ H'=>Q .non H',rt:=Q } [some (.ref b),v1,v2,v3,none,none,none] H:=by
  obtain ⟨tt,ht,q5⟩:=xo4 (P:=P) (w:=w) (K:=K) (mg:=mg) (base:=base) (f:=f) (outer:=outer) (H0':=H0') (E:=E) hr hn X Z C1 C2 C3
  obtain ⟨g4,d4,G4,b4,k4,m4⟩:=C4
  obtain ⟨g5,d5,G5,b5,k5,m5⟩:=C5
  have hr1:Room 1 _:=hr.mono hn
  refine ⟨_,za3 (zd3 (za9 G4 hr1 rfl m4 k4 b4 .nil zb0 (za0 (zd8 (pv 0) rfl) za2)))
    (za3 (zd3 (za9 G5 hr1 rfl m5 k5 b5 .nil zb0 (za0 (zd8 (pv 0) rfl) (za0 (zb4 zc3 rfl X.len PySem.boot_len (za0 (zd8 (pv 0) rfl) za2)) za2))))
    ht),?_⟩
  intro Q H0 H b dx tc tr v1 v2 v3 fs cs xs rows cw wc pool hb hfl hbm lc htc cnd cl lr htr hP hw lw hW s0 h0b rl pl40 hpool q
  refine ⟨_,rfl,b,BC,dx,fs,_,rfl,hb,Z.cl,Z.nc,lc,tc,cs,rfl,htc,cnd,by omega,λH1 s1=>?_⟩
  have hb1:=s1 _ _ hb
  have htc1:=s1 _ _ htc
  have hP1:=zj8 (KX.of s1) hP
  refine ⟨_,rfl,b,BC,dx,fs,_,rfl,hb1,Z.cl,Z.nr,lr,_,rfl,b,BC,dx,fs,_,rfl,hb1,Z.cl,Z.nc,lc,tc,_,rfl,.inr (SqT.of htc1),tr,xs,(cs.map V.str).length,rfl,s1 _ _ htr,yt9 hP1 (λr hr'=>by rw [List.length_map]; exact hw r hr'),λH2 s2=>?_⟩
  have w2:=s1.trans s2
  have hb2:=w2 _ _ hb
  refine q5 Q H0 H2 b dx tr v1 v2 v3 fs xs rows cw wc pool hb2 hfl lr (w2 _ _ htr) (zj8 (KX.of w2) hP) lw (hW.kx (KX.of w2)) (s0.trans w2) h0b rl (λr hr'=>by rw [hw r hr']; exact cl) pl40 hpool ?_
  intro H' tg tv gs vs kb hb' hg' gnd gso gm hv' vnd vso vm
  have kx:KX T H2 H':=KX.keepB kb hb2 Z.ne
  have s':Same H0 H':=kb.same (s0.trans w2) h0b
  refine q H' ((zb3.of w2).trans kb) ⟨dx,tc,tr,tg,tv,cw,_,xs,gs,vs,hb',yj0 nb5 (yj0 nb4 hbm),?_,kx.t _ _ (w2 _ _ htc),?_,kx.t _ _ (w2 _ _ htr),ym9 s' (zj8 kx (zj8 (KX.of w2) hP)),?_,((hW.kx (KX.of w2)).kx kx).isC s',?_,hg',gnd,gso,gm,?_,hv',vnd,vso,vm⟩
  · rw [zg1 (by decide),zg1 (by decide)]; exact lc
  · rw [zg1 (by decide),zg1 (by decide)]; exact lr
  · rw [zg1 (by decide),zg1 (by decide)]; exact lw
  · rw [zg1 (by decide),zf5]
  · rw [zf5]
theorem xe8 (F:FunD K "__init__" "Table.__init__" zg6 f fd) (X:Txt mg) (Z:Bz K T BC)
    (C1:Cal P w K mg base "gaps_among" 1 ["cells"] (zq7 K)) (C2:Cal P w K mg base "values_among" 1 ["cells"] (zq6 K)) (C3:Cal P w K mg base "cells_within" 1 ["parts"] (zi5 T K)) (C4:Cal P w K mg base "check_columns" 1 ["columns"] zu0) (C5:Cal P w K mg base "check_rows" 1 ["rows","width"] zt9)
    (M1:MkC P w K mg base "Truth" T.t 42 ["self","said"] (spTI T)):FnOk P w K mg base CX0 44 f fd ["self","columns","rows","whole"] (spBI T BC):=by
  refine F.ok (k:=43) scBI (λvs H Q E h=>?_) (λcdv A outer s H vs Q E hr h=>?_)
  · obtain ⟨b,dx,ca,ra,wv,cs,xs,rows,wc,pool,H0,rfl,_⟩:=h
    rfl
  obtain ⟨b,dx,ca,ra,wv,cs,xs,rows,wc,pool,H0,rfl,hb,s0,h0b,hca,cnd,cl,hra,hP,hw,rl,hwv,pl40,hpool,q⟩:=h
  obtain ⟨tt,ht,q3⟩:=xh2 (P:=P) (w:=w) (K:=K) (mg:=mg) (base:=base) (f:=f) (outer:=outer) (H0':=H) (E:=E) hr (by decide) X Z C1 C2 C3 C4 C5
  obtain ⟨f1,d1,mk1,G1,b1,m1⟩:=M1
  have len:=plen hP
  refine ⟨_,za3 (zh5 (pv 0) (zc5 zc8 rfl X.tuple PyProof.Rows.boot_tuple (za0 (pv 1) za2)) rfl)
    (za3 (zh5 (pv 0) (zc5 zc8 rfl X.tuple PyProof.Rows.boot_tuple (za0
      (zh6 (caps:=[]) ["row","cond"] rfl (ze1 (pv 2)) ⟨rfl,by decide +kernel,by decide +kernel,rfl,.nil,rfl,rfl,rfl⟩
        (λs H ex=>zw8 (K:=K) (n:=2) rfl rfl (zc1 (zb2 (X:=cxLG _ _ _ _ s H ex) (i:=0) ndRC rfl (Or.inl rfl) (.inr rfl)) (zc1 (zb2 (X:=cxLG _ _ _ _ s H ex) (i:=1) ndRC rfl (Or.inl rfl) (.inr rfl)) zg8))) (λs H ex=>zi1)
        (λs H ex=>zg3 (za0 (zc5 (X:=cxLG _ _ _ _ s H ex) (zz4 (K:=K) rfl) rfl X.tuple PyProof.Rows.boot_tuple (za0 (pe_var (X:=cxLG _ _ _ _ s H ex) (i:=0) rfl (Or.inl rfl)) za2)) (za0 (pe_var (X:=cxLG _ _ _ _ s H ex) (i:=1) rfl (Or.inl rfl)) za2)))) za2)) rfl)
    (za3 (zh5 (pv 0) (ye1 (zb7 yw5 (pv 3) yh3 (zd0 _)) (zf9 mk1 G1 hr rfl m1 b1 .nil zb0 (za0 zj5 za2)) (pv 3)) rfl)
    ht)),?_⟩
  refine ⟨_,rfl,ca,_,rfl,.inl ⟨SqL.of (s0 _ _ hca),λtc htc=>?_⟩⟩
  have s1:=same_new htc (.tup (cs.map V.str))
  have h1:=upd_same (H:=H) (a:=tc) (o:=.tup (cs.map V.str))
  generalize upd H tc (.tup (cs.map V.str)) = H1 at s1 h1 ⊢
  have hb1:=s1 _ _ hb
  have ntb:tc ≠ b:=λe=>by rw [e,hb1] at h1; cases h1
  refine ⟨_,rfl,b,BC,dx,[],rfl,hb1,Z.cl,Z.nc,by decide,?_⟩
  have kb2:zb3 b H (upd H1 b (.ins BC dx (putF "kept_columns" (.ref tc) []))):=(zb3.of s1).trans zb3.upd
  have hb2:=upd_same (H:=H1) (a:=b) (o:=.ins BC dx (putF "kept_columns" (.ref tc) []))
  have htc2:(upd H1 b (.ins BC dx (putF "kept_columns" (.ref tc) []))) tc = some (.tup (cs.map V.str)):=by rw [za7 ntb]; exact h1
  generalize upd H1 b (.ins BC dx (putF "kept_columns" (.ref tc) [])) = H2 at kb2 hb2 htc2 ⊢
  have s02:Same H0 H2:=kb2.same s0 h0b
  refine ⟨_,rfl,ra,rfl,⟨_,SqL.of (s02 _ _ hra)⟩,λD hD=>?_⟩
  refine ze3 (K:=K) (a:=ra) (xs:=xs) (λi σ H3=>∃ (u1 u2:Option V) (ys:List V),σ = [u1,u2]/\Same H2 H3/\H3 D = some (.lst ys)/\Paired (RowX T H0 H3) ys (rows.take i))
    ⟨none,none,[],rfl,same_new hD _,upd_same,by rw [List.take_zero]; exact .nil⟩ (λi σ H3 _ ⟨_,_,_,_,z,_⟩=>SqL.of ((s02.trans z) _ _ hra)) ?_ ?_
  · rintro i x σ H3 hi ⟨u1,u2,ys,rfl,s3,h3,hP3⟩
    obtain ⟨r,hri,a,rr,cv,rfl,ha,hrr,hC⟩:=pget hP hi
    have hil:=(List.getElem?_eq_some_iff.mp hri).1
    have s03:=s02.trans s3
    have yl:=plen hP3
    rw [List.length_take] at yl
    have last:∀ (rt t1:Addr) (H4:Hp),Same H3 H4->H4 rt = some (.tup (r.1.map kV))->H4 t1 = none->∃ zs,(upd H4 t1 (.tup [.ref rt,cv])) D = some (.lst zs)/\zs.length < sizeLine/\∃ (u1 u2:Option V) (ys:List V),[some (V.ref rr),some cv] = [u1,u2]/\Same H2 (upd (upd H4 t1 (.tup [.ref rt,cv])) D (.lst (zs ++ [.ref t1])))/\(upd (upd H4 t1 (.tup [.ref rt,cv])) D (.lst (zs ++ [.ref t1]))) D = some (.lst ys)/\Paired (RowX T H0 (upd (upd H4 t1 (.tup [.ref rt,cv])) D (.lst (zs ++ [.ref t1])))) ys (rows.take (i + 1)):=λrt t1 H4 s4 hrt ht1=>by
      have s5:=same_new ht1 (.tup [.ref rt,cv])
      have h5:=upd_same (H:=H4) (a:=t1) (o:=.tup [.ref rt,cv])
      have h5D:=s5 _ _ (s4 _ _ h3)
      have h5r:=s5 _ _ hrt
      generalize upd H4 t1 (.tup [.ref rt,cv]) = H5 at s5 h5 h5D h5r ⊢
      have kx:KX T H5 (upd H5 D (.lst (ys ++ [.ref t1]))):=KX.updL h5D
      refine ⟨ys,h5D,zb5 (by omega),_,_,ys ++ [.ref t1],rfl,zc4 (s3.trans (s4.trans s5)) hD _,upd_same,?_⟩
      rw [zd6 hri]
      exact yk1 (zj8 kx (zj8 (KX.of (s4.trans s5)) hP3)) ⟨t1,rt,cv,rfl,kx.t _ _ h5,kx.t _ _ h5r,hC⟩
    refine ⟨a,_,rfl,SqT.of (s03 _ _ ha),rfl,_,_,rfl,_,_,rfl,rfl,_,rfl,rr,r.1.map kV,rfl,?_⟩
    rcases hrr with hrr | hrr
    · refine .inl ⟨SqL.of (s03 _ _ hrr),λrt hrt=>⟨_,rfl,zb6 (by simp),λt1 ht1=>?_⟩⟩
      exact last rt t1 _ (same_new hrt _) upd_same ht1
    · refine .inr ⟨SqT.of (s03 _ _ hrr),_,rfl,zb6 (by simp),λt1 ht1=>?_⟩
      exact last rr t1 _ (Same.refl _) (s03 _ _ hrr) ht1
  rintro σ H3 ⟨u1,u2,ys,rfl,s3,h3,hP3⟩
  rw [len,List.take_length] at hP3
  refine ⟨D,_,rfl,.inl ⟨SqL.of h3,λtr htr=>?_⟩⟩
  have s4:=same_new htr (.tup ys)
  have h4:=upd_same (H:=H3) (a:=tr) (o:=.tup ys)
  generalize upd H3 tr (.tup ys) = H4 at s4 h4 ⊢
  have w4:=s3.trans s4
  have hb4:=w4 _ _ hb2
  have nrb:tr ≠ b:=λe=>by rw [e,hb4] at h4; cases h4
  have lf1:=zc6 "kept_columns" (.ref tc) []
  refine ⟨_,rfl,b,BC,dx,_,rfl,hb4,Z.cl,Z.nr,Nat.lt_of_le_of_lt lf1 (by decide),?_⟩
  have kb5:zb3 b H2 (upd H4 b (.ins BC dx (putF "kept_rows" (.ref tr) (putF "kept_columns" (.ref tc) [])))):=(zb3.of w4).trans zb3.upd
  have hb5:=upd_same (H:=H4) (a:=b) (o:=.ins BC dx (putF "kept_rows" (.ref tr) (putF "kept_columns" (.ref tc) [])))
  have kx5:KX T H3 (upd H4 b (.ins BC dx (putF "kept_rows" (.ref tr) (putF "kept_columns" (.ref tc) [])))):=KX.keepB ((zb3.of s4).trans zb3.upd) (s3 _ _ hb2) Z.ne
  have htr5:(upd H4 b (.ins BC dx (putF "kept_rows" (.ref tr) (putF "kept_columns" (.ref tc) [])))) tr = some (.tup ys):=by rw [za7 nrb]; exact h4
  generalize upd H4 b (.ins BC dx (putF "kept_rows" (.ref tr) (putF "kept_columns" (.ref tc) []))) = H5 at kb5 hb5 kx5 htr5 ⊢
  have htc5:=kx5.t _ _ (s3 _ _ htc2)
  have hP5:=zj8 kx5 hP3
  have kb05:=kb2.trans kb5
  have s05:Same H0 H5:=kb05.same s0 h0b
  have lf2:=zc6 "kept_rows" (.ref tr) (putF "kept_columns" (.ref tc) [])
  have l0:([]:List (Str × V)).length = 0:=rfl
  have go:∀ (cw:V) (H6:Hp),Same H5 H6->WhOk T H0 H6 wc cw->∃ v,[some (V.ref b),some (.ref ca),some (.ref ra),some wv,none,none,none][0]? = some (some v)/\∃ a' C' dx' fs',v = V.ref a'/\H6 a' = some (.ins C' dx' fs')/\Cls K C'/\zd9 K C' "kept_whole"/\fs'.length < 1000/\tt { nx:=λ_ H'=>Q .non H',rt:=Q } [some (.ref b),some (.ref ca),some (.ref ra),some wv,none,none,none] (upd H6 a' (.ins C' dx' (putF "kept_whole" cw fs'))):=λcw H6 s6 hW=>by
    have hb6:=s6 _ _ hb5
    refine ⟨_,rfl,b,BC,dx,_,rfl,hb6,Z.cl,Z.nw,by omega,?_⟩
    have kb7:zb3 b H5 (upd H6 b (.ins BC dx (putF "kept_whole" cw (putF "kept_rows" (.ref tr) (putF "kept_columns" (.ref tc) []))))):=(zb3.of s6).trans zb3.upd
    have hb7:=upd_same (H:=H6) (a:=b) (o:=.ins BC dx (putF "kept_whole" cw (putF "kept_rows" (.ref tr) (putF "kept_columns" (.ref tc) []))))
    have kx7:KX T H6 (upd H6 b (.ins BC dx (putF "kept_whole" cw (putF "kept_rows" (.ref tr) (putF "kept_columns" (.ref tc) []))))):=KX.keepB zb3.upd hb6 Z.ne
    generalize upd H6 b (.ins BC dx (putF "kept_whole" cw (putF "kept_rows" (.ref tr) (putF "kept_columns" (.ref tc) [])))) = H7 at kb7 hb7 kx7 ⊢
    have kx57:=(KX.of (T:=T) s6).trans kx7
    have lf3:=zc6 "kept_whole" cw (putF "kept_rows" (.ref tr) (putF "kept_columns" (.ref tc) []))
    refine q3 Q H0 H7 b dx tc tr _ _ _ _ cs ys rows cw wc pool hb7 (by omega) (yj0 nb3 (yj0 nb2 (yj0 nb1 (λm hm=>rfl)))) ?_ (kx57.t _ _ htc5) cnd cl ?_ (kx57.t _ _ htr5) (zj8 kx57 hP5) hw ?_ (hW.kx kx7) ((kb05.trans kb7).same s0 h0b) h0b rl pl40 hpool (λH' kb hB=>q H' ((kb05.trans kb7).trans kb) hB)
    · rw [zg1 (by decide),zg1 (by decide),zf5]
    · rw [zg1 (by decide),zf5]
    · rw [zf5]
  refine ⟨_,rfl,rfl,_,rfl,?_⟩
  rcases hwv with ⟨rfl,rfl⟩ | hwC
  · refine iteT λx dx' hx hdx ne=>?_
    have ms:=ze8 (C:=T.t) hx hdx
    exact ⟨x,dx',true,H5,rfl,upd_same,ms,hx,λH6 kb hC=>⟨rfl,go _ H6 (kb.same ms hx) (.inr ⟨rfl,hC⟩)⟩⟩
  · obtain ⟨ca',dx',fs',rfl,_⟩:=zh4.mp hwC
    exact iteF ⟨_,rfl,go _ H5 (Same.refl _) (.inl hwC)⟩
end
def zl2 (T:Cl) (BC:Addr):Sp:=λvs H Q _=>∃ (b:Addr) (cs:List Str) (rows:List Row) (wc:Cd),vs = [.ref b]/\IsB T BC H b cs rows wc/\∀ l,H l = none->Q (.ref l) (upd H l (.lst (cs.map V.str)))
def zh2 (T:Cl) (BC:Addr):Sp:=λvs H Q _=>∃ (b:Addr) (cs:List Str) (rows:List Row) (wc:Cd),vs = [.ref b]/\IsB T BC H b cs rows wc/\∀ l xs,H l = none->Paired (RowX T H H) xs rows->Q (.ref l) (upd H l (.lst xs))
def zu3 (T:Cl) (BC:Addr):Sp:=λvs H Q _=>∃ (b:Addr) (cs:List Str) (rows:List Row) (wc:Cd),vs = [.ref b]/\IsB T BC H b cs rows wc/\∀ cw,IsC T H wc cw->Q cw H
section
variable {P:Program} {w:World} {K:W.Frag} {mg:Str->Option Value} {base:Heap} {f:Addr} {fd:FuncData} {T:Cl} {CC BC:Addr}
theorem scB1:FnScope ["self"] ["self"] (za1 yb2):=⟨rfl,rfl,rfl,by decide +kernel,rfl,by decide +kernel,by decide +kernel⟩
theorem xe9 (F:Fun K "columns" "Table.columns" yb2 f fd) (X:Txt mg) (Z:Bz K T BC):FnOk P w K mg base CX0 1 f fd ["self"] (zl2 T BC):=by
  refine F.ok scB1 (λvs H Q E h=>?_) (λcdv A outer s H vs Q E hr h=>?_)
  · obtain ⟨b,cs,rows,wc,rfl,_⟩:=h
    rfl
  obtain ⟨b,cs,rows,wc,rfl,⟨dx,tc,tr,tg,tv,cw,fs,xs,gs,vs,hb,hm,l1,h1,_⟩,q⟩:=h
  refine ⟨_,za4 (zb9 (zc5 zj1 rfl X.list PyProof.Rows.boot_list (za0 (zd8 (pv 0) rfl) za2))),?_⟩
  exact ⟨_,rfl,b,BC,dx,fs,_,rfl,hb,Z.cl,Z.nc,l1,tc,_,rfl,.inr (SqT.of h1),λl hl=>q l hl⟩
theorem scB2:FnScope ["self"] ["self"] (za1 yb1):=⟨rfl,rfl,rfl,by decide +kernel,rfl,by decide +kernel,by decide +kernel⟩
theorem xe7 (F:Fun K "rows" "Table.rows" yb1 f fd) (X:Txt mg) (Z:Bz K T BC):FnOk P w K mg base CX0 1 f fd ["self"] (zh2 T BC):=by
  refine F.ok scB2 (λvs H Q E h=>?_) (λcdv A outer s H vs Q E hr h=>?_)
  · obtain ⟨b,cs,rows,wc,rfl,_⟩:=h
    rfl
  obtain ⟨b,cs,rows,wc,rfl,⟨dx,tc,tr,tg,tv,cw,fs,xs,gs,vs,hb,hm,l1,h1,l2,h2,hP,_⟩,q⟩:=h
  refine ⟨_,za4 (zb9 (zc5 zj1 rfl X.list PyProof.Rows.boot_list (za0 (zd8 (pv 0) rfl) za2))),?_⟩
  exact ⟨_,rfl,b,BC,dx,fs,_,rfl,hb,Z.cl,Z.nr,l2,tr,_,rfl,.inr (SqT.of h2),λl hl=>q l xs hl hP⟩
theorem scB3:FnScope ["self"] ["self"] (za1 zr8):=⟨rfl,rfl,rfl,by decide +kernel,rfl,by decide +kernel,by decide +kernel⟩
theorem yx9 (F:Fun K "whole" "Table.whole" zr8 f fd) (Z:Bz K T BC):FnOk P w K mg base CX0 1 f fd ["self"] (zu3 T BC):=by
  refine F.ok scB3 (λvs H Q E h=>?_) (λcdv A outer s H vs Q E hr h=>?_)
  · obtain ⟨b,cs,rows,wc,rfl,_⟩:=h
    rfl
  obtain ⟨b,cs,rows,wc,rfl,⟨dx,tc,tr,tg,tv,cw,fs,xs,gs,vs,hb,hm,l1,h1,l2,h2,hP,l3,hC,_⟩,q⟩:=h
  refine ⟨_,za4 (zb9 (zd8 (pv 0) rfl)),?_⟩
  exact ⟨_,rfl,b,BC,dx,fs,_,rfl,hb,Z.cl,Z.nw,l3,q cw hC⟩
end
end K55
namespace L2
open PySem PySem.Spec PyProof.Rows
section
variable {prog:Program} {w:World} {A:Around} {E:Value->Shared->Prop} {s:Shared}
end
section
variable {prog:Program} {w:World} {A:Around} {E:Value->Shared->Prop} {s:Shared}
end
section
variable {X:Cx} {pins:List (Addr × Obj)} {σ:St} {H:Hp} {s:Shared} {h':Heap}
theorem Inv.turnedL {t':Nat} {fp:List Addr} (I:Inv X pins σ H s) (k:∀ b o,b ∉ fp->s.heap.get? b = some o->h'.get? b = some o) (hf:∀ b ∈ fp,FpOk X pins H b):Inv X pins σ H { s with heap:=h',toks:=t' }:=by
  have nit:∀ b u,H b = some u->b ∉ fp:=λb u e z=>by rw [(hf b z).1] at e; cases e
  have nL:X.env.locals ∉ fp:=λz=>(hf _ z).2.1 rfl
  refine I.step (g':=s.gens) (d':=s.drawn) (ch:=fp) (λb hb=>?_) (λb o _ _ hc e _=>k b o hc e) (λb o _ _ hc e _=>⟨o.slots,k b o hc e⟩) (λ_ _ _ _ n=>n)
    (λb o hc e=>⟨o,k b o hc e⟩) (λ_ _ e=>e) (λ_ _ _ e=>e) (λb ps e=>⟨#[],by rw [e]; simp⟩) (λm hm=>?_) (λb u e=>?_) I.bare
  · obtain ⟨f0,f1,f2,f3,f4,f5⟩:=hf b hb
    exact ⟨f3,f1,f4,f5⟩
  · obtain ⟨o,es,ep,ho,r⟩:=hm
    exact ⟨o,es,ep,k _ o nL ho,r⟩
  · refine (I.hok b u e).stay (λc v hc q=>k c v ?_ q) (λ_ q=>q) λ_ _ q=>q
    rcases hc with z | z
    · rw [z]; exact nit b u e
    · exact nit c _ z
end
section
variable {prog:Program} {w:World} {A:Around} {E:Value->Shared->Prop} {s:Shared}
theorem yp1 {z TI TO i1 i2 l1 l2:Addr} {k:Nat} {xs ys:Array Value} {x y a b:Value} {Q:Value->Shared->Prop} (D:ZipApart z TI TO i1 i2 l1 l2) (ez:IsZip s.heap z TI TO .none) (eI:IsPair s.heap TI (.ref i1) (.ref i2)) (eO:IsPair s.heap TO a b)
    (st1:s.heap.IsTupleIter i1 l1 k) (st2:s.heap.IsTupleIter i2 l2 k) (t1:s.heap.IsTuple l1 xs) (t2:s.heap.IsTuple l2 ys) (ix:xs[k]? = some x) (iy:ys[k]? = some y)
    (q:∀ h',IsZip h' z TI TO (rawInt s.heap.objs.size)->IsPair h' TO x y->h'.IsTupleIter i1 l1 (k + 1)->h'.IsTupleIter i2 l2 (k + 1)->IsPair h' s.heap.objs.size x y->h'.objs.size = s.heap.objs.size + 1 ->
      (∀ c o,c ≠ z->c ≠ TO->c ≠ i1->c ≠ i2->s.heap.get? c = some o->h'.get? c = some o)->Q (.ref s.heap.objs.size) { s with heap:=h' }) :
    wpAny (model prog w) A (Builtin.«zip.__next__» ⟨[.ref z],[]⟩) (λfin s'=>∃ v,fin = .done (.ret v)/\Q v s') E s:=by
  show wpAny _ _ (field (.ref z) 2 >>= _) _ _ _; refine wpAny_bind (wpAny_field ez rfl (x:=.bool false) rfl ?_)
  show wpAny _ _ (field (.ref z) 3 >>= _) _ _ _; refine wpAny_bind (wpAny_field ez rfl (x:=.ref TI) rfl ?_); refine wpAny_bind (wpAny_seqItems eI rfl ?_)
  show wpAny _ _ (Builtin.SmallTypes.ownedTupleIsFree (.ref z) >>= _) _ _ _; refine wpAny_bind ?_; unfold Builtin.SmallTypes.ownedTupleIsFree
  refine wpAny_bind (wpAny_field ez rfl (x:=.none) rfl (wpAny_pure ?_)); simp only [if_true]; refine wpAny_bind (wpAny_rule ?_)
  refine wpAny_bind (wpAny_field ez rfl (x:=.ref TO) rfl ?_); refine wpAny_bind (wpAny_setField_rec ez (by simp) λg1 z1 d1=>?_)
  replace z1:IsZip g1 z TI TO .ellipsis:=z1; refine wpAny_bind ?_; simp only [List.zipIdx_cons,List.zipIdx_nil,List.forIn_cons,List.forIn_nil]
  refine wpAny_bind (wpAny_bind (wpAny_onRaise ?_)); show wpAny _ _ (Builtin.SmallTypes.nextOf (.ref i1) >>= _) _ _ _
  have t1':g1.IsTuple l1 xs:=by
    obtain ⟨o,e,r⟩:=t1
    exact ⟨o,d1.extBut _ _ D.l1z e,r⟩
  have st1':g1.IsTupleIter i1 l1 k:=st1.at λo e=>d1.extBut _ _ D.i1z e
  refine wpAny_bind (zn2 (s:={ s with heap:=g1 }) st1' t1' ix λg2 u1 d2=>wpAny_pure ?_)
  have o2:IsPair g2 TO a b:=d2.extBut _ _ D.TOi1 (d1.extBut _ _ D.TOz eO)
  refine wpAny_bind (wpAny_seqItems o2 rfl ?_); refine wpAny_bind (wpAny_updateSeq_pair o2 λg3 o3 d3=>?_)
  replace o3:IsPair g3 TO x b:=o3; refine wpAny_bind (wpAny_letGo (wpAny_pure ?_))
  refine wpAny_bind (wpAny_bind (wpAny_onRaise ?_)); show wpAny _ _ (Builtin.SmallTypes.nextOf (.ref i2) >>= _) _ _ _
  have t2':g3.IsTuple l2 ys:=by
    obtain ⟨o,e,r⟩:=t2
    exact ⟨o,d3.extBut _ _ D.l2TO (d2.extBut _ _ D.l2i1 (d1.extBut _ _ D.l2z e)),r⟩
  have st2':g3.IsTupleIter i2 l2 k:=st2.at λo e=>d3.extBut _ _ D.TOi2.symm (d2.extBut _ _ D.i12.symm (d1.extBut _ _ D.i2z e))
  refine wpAny_bind (zn2 (s:={ s with heap:=g3 }) st2' t2' iy λg4 u2 d4=>wpAny_pure ?_)
  have o4:IsPair g4 TO x b:=d4.extBut _ _ D.TOi2 o3
  refine wpAny_bind (wpAny_seqItems o4 rfl ?_); refine wpAny_bind (wpAny_updateSeq_pair o4 λg5 o5 d5=>?_)
  replace o5:IsPair g5 TO x y:=o5; refine wpAny_bind (wpAny_letGo (wpAny_pure (wpAny_pure ?_)))
  refine wpAny_bind (wpAny_seqItems o5 rfl ?_); refine wpAny_bind (wpAny_newTuple ?_)
  have sz:g5.objs.size = s.heap.objs.size:=by rw [d5.1,d4.1,d3.1,d2.1,d1.1]
  have z5:IsZip g5 z TI TO .ellipsis:=d5.extBut _ _ D.TOz.symm (d4.extBut _ _ D.i2z.symm (d3.extBut _ _ D.TOz.symm (d2.extBut _ _ D.i1z.symm z1)))
  have kk:∀ c o,c ≠ z->c ≠ TO->c ≠ i1->c ≠ i2->s.heap.get? c = some o->g5.get? c = some o:=λc o n1 n2 n3 n4 e=>d5.extBut _ _ n2 (d4.extBut _ _ n4 (d3.extBut _ _ n2 (d2.extBut _ _ n3 (d1.extBut _ _ n1 e))))
  have v1:g5.IsTupleIter i1 l1 (k + 1):=u1.at λo e=>d5.extBut _ _ D.TOi1.symm (d4.extBut _ _ D.i12 (d3.extBut _ _ D.TOi1.symm e))
  have v2:g5.IsTupleIter i2 l2 (k + 1):=u2.at λo e=>d5.extBut _ _ D.TOi2.symm e
  have zlt:z < g5.objs.size:=Heap.lt_size z5
  show wpAny _ _ (Builtin.SmallTypes.ownedTupleHandOut (.ref z) (.ref g5.objs.size) >>= _) _ _ _; refine wpAny_bind ?_; unfold Builtin.SmallTypes.ownedTupleHandOut
  have z6:IsZip (g5.push { cls:=.type "tuple",data:=.seq #[x,y] }) z TI TO .ellipsis:=Heap.get?_push_of_some _ z5
  refine wpAny_bind (wpAny_setField_rec z6 (by simp) λg7 z7 d7=>?_); replace z7:IsZip g7 z TI TO (rawInt g5.objs.size):=z7
  refine wpAny_setField_rec z7 (by simp) λg8 z8 d8=>?_; replace z8:IsZip g8 z TI TO (rawInt g5.objs.size):=z8
  have up:∀ c o,c ≠ z->g5.get? c = some o->g8.get? c = some o:=λc o n e=>d8.extBut _ _ n (d7.extBut _ _ n (Heap.get?_push_of_some _ e))
  have p8:IsPair g8 g5.objs.size x y:=d8.extBut _ _ (Nat.ne_of_gt zlt) (d7.extBut _ _ (Nat.ne_of_gt zlt) (Heap.get?_push_size _ rfl))
  have s8:g8.objs.size = g5.objs.size + 1:=by rw [d8.1,d7.1,Heap.size_push]
  rw [sz] at z8 p8 s8; refine wpAny_pure ⟨_,rfl,?_⟩; show Q (.ref g5.objs.size) _; rw [sz]
  exact q g8 z8 (up _ _ D.TOz o5) (v1.at λo e=>up _ o D.i1z e) (v2.at λo e=>up _ o D.i2z e) p8 s8 λc o n1 n2 n3 n4 e=>up c o n1 (kk c o n1 n2 n3 n4 e)
theorem yt8 {z TI TO i1 i2 l1 l2:Addr} {k:Nat} {xs ys:Array Value} {a b:Value} {Q:Fin->Shared->Prop} (hh:A.handled = none) (D:ZipApart z TI TO i1 i2 l1 l2) (ez:IsZip s.heap z TI TO .none) (eI:IsPair s.heap TI (.ref i1) (.ref i2)) (eO:IsPair s.heap TO a b)
    (st1:s.heap.IsTupleIter i1 l1 k) (st2:s.heap.IsTupleIter i2 l2 k) (t1:s.heap.IsTuple l1 xs) (t2:s.heap.IsTuple l2 ys) (ix:xs[k]? = none\/ys[k]? = none)
    (q:∀ h' e,(∀ c o,c ≠ z->c ≠ TO->c ≠ i1->c ≠ i2->s.heap.get? c = some o->h'.get? c = some o)->(∃ o,h'.get? e = some o/\o.cls = .type "StopIteration")->E (.ref e) { s with heap:=h' }) :
    wpAny (model prog w) A (Builtin.«zip.__next__» ⟨[.ref z],[]⟩) Q E s:=by
  show wpAny _ _ (field (.ref z) 2 >>= _) _ _ _; refine wpAny_bind (wpAny_field ez rfl (x:=.bool false) rfl ?_)
  show wpAny _ _ (field (.ref z) 3 >>= _) _ _ _; refine wpAny_bind (wpAny_field ez rfl (x:=.ref TI) rfl ?_); refine wpAny_bind (wpAny_seqItems eI rfl ?_)
  show wpAny _ _ (Builtin.SmallTypes.ownedTupleIsFree (.ref z) >>= _) _ _ _; refine wpAny_bind ?_; unfold Builtin.SmallTypes.ownedTupleIsFree
  refine wpAny_bind (wpAny_field ez rfl (x:=.none) rfl (wpAny_pure ?_)); simp only [if_true]; refine wpAny_bind (wpAny_rule ?_)
  refine wpAny_bind (wpAny_field ez rfl (x:=.ref TO) rfl ?_); refine wpAny_bind (wpAny_setField_rec ez (by simp) λg1 z1 d1=>?_)
  replace z1:IsZip g1 z TI TO .ellipsis:=z1; refine wpAny_bind ?_; simp only [List.zipIdx_cons,List.zipIdx_nil,List.forIn_cons,List.forIn_nil]
  refine wpAny_bind (wpAny_bind (wpAny_onRaise ?_)); show wpAny _ _ (Builtin.SmallTypes.nextOf (.ref i1) >>= _) _ _ _
  have t1':g1.IsTuple l1 xs:=by
    obtain ⟨o,e,r⟩:=t1
    exact ⟨o,d1.extBut _ _ D.l1z e,r⟩
  have st1':g1.IsTupleIter i1 l1 k:=st1.at λo e=>d1.extBut _ _ D.i1z e
  cases hx:xs[k]? with
  | none=>
    refine wpAny_bind (zx3 (s:={ s with heap:=g1 }) hh st1' t1' hx λg2 e d2 ⟨oe,he,hc⟩=>?_)
    have z2:IsZip g2 z TI TO .ellipsis:=d2 _ _ D.i1z.symm z1
    have ne:e ≠ z:=λx=>by subst x; rw [z2] at he; cases he; simp at hc
    exact wpAny_setField_rec z2 (by simp) λg3 _ d3=>q g3 e (λc o n1 _ n3 _ x=>d3.extBut _ _ n1 (d2 _ _ n3 (d1.extBut _ _ n1 x))) ⟨oe,d3.extBut _ _ ne he,hc⟩
  | some x=>
    have hy:ys[k]? = none:=ix.resolve_left (by rw [hx]; simp)
    refine wpAny_bind (zn2 (s:={ s with heap:=g1 }) st1' t1' hx λg2 u1 d2=>wpAny_pure ?_)
    have o2:IsPair g2 TO a b:=d2.extBut _ _ D.TOi1 (d1.extBut _ _ D.TOz eO)
    refine wpAny_bind (wpAny_seqItems o2 rfl ?_); refine wpAny_bind (wpAny_updateSeq_pair o2 λg3 o3 d3=>?_); refine wpAny_bind (wpAny_letGo (wpAny_pure ?_))
    refine wpAny_bind (wpAny_bind (wpAny_onRaise ?_)); show wpAny _ _ (Builtin.SmallTypes.nextOf (.ref i2) >>= _) _ _ _
    have t2':g3.IsTuple l2 ys:=by
      obtain ⟨o,e,r⟩:=t2
      exact ⟨o,d3.extBut _ _ D.l2TO (d2.extBut _ _ D.l2i1 (d1.extBut _ _ D.l2z e)),r⟩
    have st2':g3.IsTupleIter i2 l2 k:=st2.at λo e=>d3.extBut _ _ D.TOi2.symm (d2.extBut _ _ D.i12.symm (d1.extBut _ _ D.i2z e))
    refine wpAny_bind (zx3 (s:={ s with heap:=g3 }) hh st2' t2' hy λg4 e d4 ⟨oe,he,hc⟩=>?_)
    have z4:IsZip g4 z TI TO .ellipsis:=d4 _ _ D.i2z.symm (d3.extBut _ _ D.TOz.symm (d2.extBut _ _ D.i1z.symm z1))
    have ne:e ≠ z:=λx=>by subst x; rw [z4] at he; cases he; simp at hc
    exact wpAny_setField_rec z4 (by simp) λg5 _ d5=>q g5 e (λc o n1 n2 n3 n4 x=>d5.extBut _ _ n1 (d4 _ _ n4 (d3.extBut _ _ n2 (d2.extBut _ _ n3 (d1.extBut _ _ n1 x))))) ⟨oe,d5.extBut _ _ ne he,hc⟩
theorem yk5 {z TI TO i1 i2 l1 l2:Addr} {k:Nat} {xs ys:Array Value} {x y a b:Value} {Q:Option Value->Shared->Prop} (D:ZipApart z TI TO i1 i2 l1 l2) (ez:IsZip s.heap z TI TO .none) (eI:IsPair s.heap TI (.ref i1) (.ref i2)) (eO:IsPair s.heap TO a b)
    (st1:s.heap.IsTupleIter i1 l1 k) (st2:s.heap.IsTupleIter i2 l2 k) (t1:s.heap.IsTuple l1 xs) (t2:s.heap.IsTuple l2 ys) (ix:xs[k]? = some x) (iy:ys[k]? = some y)
    (q:∀ h',IsZip h' z TI TO (rawInt s.heap.objs.size)->IsPair h' TO x y->h'.IsTupleIter i1 l1 (k + 1)->h'.IsTupleIter i2 l2 (k + 1)->IsPair h' s.heap.objs.size x y->h'.objs.size = s.heap.objs.size + 1 ->
      (∀ c o,c ≠ z->c ≠ TO->c ≠ i1->c ≠ i2->s.heap.get? c = some o->h'.get? c = some o)->Q (some (.ref s.heap.objs.size)) { s with heap:=h' }):wpAny (model prog w) A (pyNext (.ref z)) Q E s:=by
  have ty:s.TypeIs (.ref z) "zip":=⟨_,ez,rfl⟩
  unfold pyNext
  exact wpAny_bind (wpAny_attempt (wpAny_callSpecial?_slot (name:=Str.ofString "__next__") ty F.slot_zip_next (wpAny_call_entry F.slot_zip_next ty F.entry_zip_next
    (yp1 D ez eI eO st1 st2 t1 t2 ix iy λh' a1 a2 a3 a4 a5 a6 a7=>wpAny_pure (q h' a1 a2 a3 a4 a5 a6 a7)) (F.args_zip_next_1 _))))
theorem yr3 {z TI TO i1 i2 l1 l2:Addr} {k:Nat} {xs ys:Array Value} {a b:Value} {Q:Option Value->Shared->Prop} (hh:A.handled = none) (D:ZipApart z TI TO i1 i2 l1 l2) (ez:IsZip s.heap z TI TO .none) (eI:IsPair s.heap TI (.ref i1) (.ref i2)) (eO:IsPair s.heap TO a b)
    (st1:s.heap.IsTupleIter i1 l1 k) (st2:s.heap.IsTupleIter i2 l2 k) (t1:s.heap.IsTuple l1 xs) (t2:s.heap.IsTuple l2 ys) (ix:xs[k]? = none\/ys[k]? = none)
    (q:∀ h',(∀ c o,c ≠ z->c ≠ TO->c ≠ i1->c ≠ i2->s.heap.get? c = some o->h'.get? c = some o)->Q none { s with heap:=h' }):wpAny (model prog w) A (pyNext (.ref z)) Q E s:=by
  have ty:s.TypeIs (.ref z) "zip":=⟨_,ez,rfl⟩
  unfold pyNext
  refine wpAny_bind (wpAny_attempt (wpAny_callSpecial?_slot (name:=Str.ofString "__next__") ty F.slot_zip_next (wpAny_call_entry F.slot_zip_next ty F.entry_zip_next (yt8 hh D ez eI eO st1 st2 t1 t2 ix λh' e hk ⟨o,ho,hc⟩=>?_) (F.args_zip_next_1 _))))
  exact wpAny_bind (wpAny_isInstance (T:="StopIteration") (b:=true) ⟨o,ho,hc⟩ isSubtype_stop (wpAny_pure (q _ hk)))
end
abbrev zq1 (h:Heap) (a:Addr):Heap:=h.push { cls:=.type "tuple_iterator",data:=.fields #[.ref a,.int 0 0] }
abbrev zq2 (h:Heap) (a b:Addr):Heap:=(zq1 h a).push { cls:=.type "tuple_iterator",data:=.fields #[.ref b,.int 0 0] }
abbrev zq3 (h:Heap) (a b:Addr):Heap:=(zq2 h a b).push { cls:=.type "tuple",data:=.seq #[.ref h.objs.size,.ref (zq1 h a).objs.size] }
abbrev zq4 (h:Heap) (a b:Addr):Heap:=(zq3 h a b).push { cls:=.type "tuple",data:=.seq #[.none,.none] }
abbrev zq5 (h:Heap) (a b:Addr):Heap:=(zq4 h a b).push { cls:=.type "zip",data:=.fields #[.none,.bool false,.bool false,.ref (zq2 h a b).objs.size,.ref (zq3 h a b).objs.size] }
theorem yk8 (a b:Addr) (xs ys:Array Value) :
    Meets (Builtin.«zip.__new__» ⟨[.type "zip",.ref a,.ref b],[]⟩) (λ_ R s=>s.heap.IsTuple a xs/\s.heap.IsTuple b ys/\R (.ok (.ret (.ref (zq4 s.heap a b).objs.size))) { s with heap:=zq5 s.heap a b }):=
  .of_wp λprog w A R s h=>by
    obtain ⟨hp,g,d,tk,os⟩:=s; obtain ⟨e1,e2,h⟩:=h; have hsub:=sub_zip
    have f1:Heap.IsTuple (Shared.heap ⟨hp,g,d,tk,os⟩) a xs:=e1
    have f2:Heap.IsTuple (Shared.heap ⟨hp.push { cls:=.type "tuple_iterator",data:=.fields #[.ref a,.int 0 0] },g,d,tk,os⟩) b ys:=by
      obtain ⟨o,e,r⟩:=e2
      exact ⟨o,Heap.get?_push_of_some _ e,r⟩
    wp_walk using wpAny_pyIter_tuple f1,wpAny_pyIter_tuple f2
    exact ⟨_,rfl,h⟩
section
variable {prog:Program} {w:World} {A:Around} {E:Value->Shared->Prop} {s:Shared}
theorem yt1 {a b:Addr} {xs ys:Array Value} {Q:Value->Shared->Prop} (e1:s.heap.IsTuple a xs) (e2:s.heap.IsTuple b ys)
    (q:∀ h',IsZip h' (s.heap.objs.size + 4) (s.heap.objs.size + 2) (s.heap.objs.size + 3) .none->IsPair h' (s.heap.objs.size + 2) (.ref s.heap.objs.size) (.ref (s.heap.objs.size + 1))->IsPair h' (s.heap.objs.size + 3) .none .none ->
      h'.IsTupleIter s.heap.objs.size a 0->h'.IsTupleIter (s.heap.objs.size + 1) b 0->h'.objs.size = s.heap.objs.size + 5->(∀ c o,s.heap.get? c = some o->h'.get? c = some o)->Q (.ref (s.heap.objs.size + 4)) { s with heap:=h' }) :
    wpAny (model prog w) A (call (.type "zip") [.ref a,.ref b]) Q E s:=by
  refine callType_new F.called_zip (by decide) (F.typeCall_zip_2 _ _) (F.newCall_zip_2 _ _) (λobj=>F.args_object_init_3 obj _ _) F.entry_zip_new (yk8 a b xs ys) ⟨e1,e2,?_⟩
  have n1:(zq1 s.heap a).objs.size = s.heap.objs.size + 1:=Heap.size_push ..
  have n2:(zq2 s.heap a b).objs.size = s.heap.objs.size + 2:=by rw [Heap.size_push,n1]
  have n3:(zq3 s.heap a b).objs.size = s.heap.objs.size + 3:=by rw [Heap.size_push,n2]
  have n4:(zq4 s.heap a b).objs.size = s.heap.objs.size + 4:=by rw [Heap.size_push,n3]
  have n5:(zq5 s.heap a b).objs.size = s.heap.objs.size + 5:=by rw [Heap.size_push,n4]
  have m5:(zq5 s.heap a b).get? (zq4 s.heap a b).objs.size = some _:=Heap.get?_push_size _ rfl
  have m4:(zq5 s.heap a b).get? (zq3 s.heap a b).objs.size = some _:=Heap.get?_push_of_some _ (Heap.get?_push_size _ rfl)
  have m3:(zq5 s.heap a b).get? (zq2 s.heap a b).objs.size = some _:=Heap.get?_push_of_some _ (Heap.get?_push_of_some _ (Heap.get?_push_size _ rfl))
  have m2:(zq5 s.heap a b).get? (zq1 s.heap a).objs.size = some _:=Heap.get?_push_of_some _ (Heap.get?_push_of_some _ (Heap.get?_push_of_some _ (Heap.get?_push_size _ rfl)))
  have m1:(zq5 s.heap a b).get? s.heap.objs.size = some _:=Heap.get?_push_of_some _ (Heap.get?_push_of_some _ (Heap.get?_push_of_some _ (Heap.get?_push_of_some _ (Heap.get?_push_size _ rfl))))
  show _/\_
  rw [n2,n3,n4] at m5; rw [n1,n2] at m3; rw [n3] at m4; rw [n1] at m2; rw [n4]
  exact ⟨⟨_,m5,rfl⟩,q _ m5 m3 m4 ⟨_,m1,rfl,rfl⟩ ⟨_,m2,rfl,rfl⟩ n5 λc o x=>Heap.get?_push_of_some _ (Heap.get?_push_of_some _ (Heap.get?_push_of_some _ (Heap.get?_push_of_some _ (Heap.get?_push_of_some _ x))))⟩
end
def Itzt (K:W.Frag) (a b:Addr):It:=
  ⟨λi H=>∃ xs ys x y,SqT K H a xs/\SqT K H b ys/\xs[i]? = some x/\ys[i]? = some y,
   λi H v H'=>∃ T,v = .ref T/\H T = none/\∀ xs ys x y,SqT K H a xs->SqT K H b ys->xs[i]? = some x->ys[i]? = some y->H' = upd H T (.tup [x,y]),
   λi H=>∃ xs ys,SqT K H a xs/\SqT K H b ys/\(xs.length<=i\/ys.length<=i)⟩
def xt7 (z TI TO i1 i2 a b:Addr) (i:Nat) (h:Heap):Prop:=IsZip h z TI TO .none/\IsPair h TI (.ref i1) (.ref i2)/\(∃ u v,IsPair h TO u v)/\h.IsTupleIter i1 a i/\h.IsTupleIter i2 b i
theorem yu2 {P:Program} {w:World} {K:W.Frag} {elts:List Expr} {kk:Nat} {pos:Pos} {z TI TO i1 i2 a b:Addr} (D:ZipApart z TI TO i1 i2 a b):Turn P w K (.Tuple elts kk pos) (Itzt K a b) [z,TI,TO,i1,i2] z (xt7 z TI TO i1 i2 a b) where
  mem:=by simp
  obj:=λi h st c hc=>by
    obtain ⟨ez,eI,⟨u,v,eO⟩,⟨o1,e1,c1,d1⟩,⟨o2,e2,c2,d2⟩⟩:=st
    simp only [List.mem_cons,List.not_mem_nil,or_false] at hc
    rcases hc with rfl | rfl | rfl | rfl | rfl
    · exact ⟨_,ez,λv y=>by cases y⟩
    · exact ⟨_,eI,λv y=>by cases y⟩
    · exact ⟨_,eO,λv y=>by cases y⟩
    · exact ⟨o1,e1,λv y=>by rw [d1] at y; cases y⟩
    · exact ⟨o2,e2,λv y=>by rw [d2] at y; cases y⟩
  keep:=λi h h' st k=>by
    obtain ⟨ez,eI,⟨u,v,eO⟩,s1,s2⟩:=st
    exact ⟨k z (by simp) _ ez,k TI (by simp) _ eI,⟨u,v,k TO (by simp) _ eO⟩,s1.at λo e=>k i1 (by simp) o e,s2.at λo e=>k i2 (by simp) o e⟩
  item:=by
    intro X hP hw hK hc i pins s σ H E I hf st hg
    subst hP hw hK
    obtain ⟨ez,eI,⟨u,v,eO⟩,s1,s2⟩:=st
    obtain ⟨xs,ys,x,y,q1,q2,g1,g2⟩:=hg
    obtain ⟨its1,r1,p1,z1⟩:=I.tuple q1
    obtain ⟨its2,r2,p2,z2⟩:=I.tuple q2
    obtain ⟨ux,hx,rx⟩:=r1.get g1
    obtain ⟨uy,hy,ry⟩:=r2.get g2
    refine yk5 D ez eI eO s1 s2 (show s.heap.IsTuple a its1.toArray from p1) (show s.heap.IsTuple b its2.toArray from p2) (x:=ux) (y:=uy) (by simpa using hx) (by simpa using hy) λh' a1 a2 a3 a4 a5 a6 a7=>⟨_,rfl,?_⟩
    refine wpAny_letOwnedTupleGo_zip (s:={ s with heap:=h' }) a1 λh2 b1 b2=>?_
    have zlt:z < s.heap.objs.size:=Heap.lt_size ez
    have olt:TO < s.heap.objs.size:=Heap.lt_size eO
    have Ilt:TI < s.heap.objs.size:=Heap.lt_size eI
    obtain ⟨o1,e1,_⟩:=id s1
    obtain ⟨o2,e2,_⟩:=id s2
    have lt1:i1 < s.heap.objs.size:=Heap.lt_size e1
    have lt2:i2 < s.heap.objs.size:=Heap.lt_size e2
    have fr:H s.heap.objs.size = none:=I.hok.fresh (Nat.le_refl _)
    have I0:Inv X pins σ (upd H s.heap.objs.size (.tup [x,y])) { s with heap:=s.heap.push { cls:=.type "tuple",data:=.seq #[ux,uy] } }:=by
      refine I.laid (t':=s.toks) (λc o e=>Heap.get?_push_of_some _ e) (Nat.le_refl _) ?_
      exact ⟨by show 2<=sizeLine; exact Nat.le_of_lt (zb5 (by decide)),[ux,uy],.cons rx (.cons ry .nil),⟨_,Heap.get?_push_size _ rfl,rfl,rfl,_,rfl⟩⟩
    have nlt:∀ c ∈ [z,TI,TO,i1,i2],c ≠ s.heap.objs.size:=by
      intro c hc
      simp only [List.mem_cons,List.not_mem_nil,or_false] at hc
      rcases hc with rfl | rfl | rfl | rfl | rfl
      · exact Nat.ne_of_lt zlt
      · exact Nat.ne_of_lt Ilt
      · exact Nat.ne_of_lt olt
      · exact Nat.ne_of_lt lt1
      · exact Nat.ne_of_lt lt2
    have hf0:∀ c ∈ [z,TI,TO,i1,i2],FpOk X pins (upd H s.heap.objs.size (.tup [x,y])) c:=λc hc=>by
      obtain ⟨f0,f1⟩:=hf c hc
      exact ⟨by rw [za7 (nlt c hc)]; exact f0,f1⟩
    have I1:Inv X pins σ (upd H s.heap.objs.size (.tup [x,y])) { s with heap:=h2 }:=by
      refine Inv.turnedL (s:={ s with heap:=s.heap.push { cls:=.type "tuple",data:=.seq #[ux,uy] } }) (h':=h2) (t':=s.toks) (fp:=[z,TI,TO,i1,i2]) I0 (λc o nc e=>?_) hf0
      simp only [List.mem_cons,List.not_mem_nil,or_false,not_or] at nc
      obtain ⟨n1,n2,n3,n4,n5⟩:=nc
      rcases Heap.get?_push_cases e with ⟨rfl,rfl⟩ | e
      · exact b2.extBut _ _ n1 a5
      · exact b2.extBut _ _ n1 (a7 c o n1 n3 n4 n5 e)
    refine ⟨.ref s.heap.objs.size,_,I1,rfl,⟨_,rfl,fr,λxs' ys' x' y' q1' q2' g1' g2'=>?_⟩,⟨b1,b2.extBut _ _ D.TIz (a7 _ _ D.TIz D.TITO D.TIi1 D.TIi2 eI),⟨_,_,b2.extBut _ _ D.TOz a2⟩,a3.at λo e=>b2.extBut _ _ D.i1z e,a4.at λo e=>b2.extBut _ _ D.i2z e⟩,λc hc=>(hf0 c hc).1⟩
    have ex:xs' = xs:=I.tuple_inj q1' q1
    have ey:ys' = ys:=I.tuple_inj q2' q2
    subst ex ey
    rw [g1] at g1'
    rw [g2] at g2'
    cases g1'
    cases g2'
    rfl
  done:=by
    intro X hP hw hK hc i pins s σ H E I hf st hg
    subst hP hw hK
    obtain ⟨ez,eI,⟨u,v,eO⟩,s1,s2⟩:=st
    obtain ⟨xs,ys,q1,q2,g⟩:=hg
    obtain ⟨its1,r1,p1,z1⟩:=I.tuple q1
    obtain ⟨its2,r2,p2,z2⟩:=I.tuple q2
    have l1:=r1.length
    have l2:=r2.length
    refine yr3 (I.ok.hd hc) D ez eI eO s1 s2 (show s.heap.IsTuple a its1.toArray from p1) (show s.heap.IsTuple b its2.toArray from p2) ?_ λh' kk=>⟨rfl,?_⟩
    · rcases g with g | g
      · left; simp; omega
      · right; simp; omega
    · refine I.turnedL (t':=s.toks) (fp:=[z,TI,TO,i1,i2]) (λc o nc e=>?_) hf
      simp only [List.mem_cons,List.not_mem_nil,or_false,not_or] at nc
      obtain ⟨n1,n2,n3,n4,n5⟩:=nc
      exact kk c o n1 n3 n4 n5 e
  self:=λ_ _ _ _ _ st h=>wpAny_pyIter_zip st.1 h
theorem yp0 {n a b:Nat} (ha:a < n) (hb:b < n):ZipApart (n + 4) (n + 2) (n + 3) n (n + 1) a b:=by
  constructor <;> exact λ(e:@Eq Nat _ _)=>absurd e (by omega)
section
variable {X:Cx}
def xw0 (K:W.Frag) (ta:TA):TI:=λσ H R=>ta σ H λvs H1=>∃ a b xs ys,vs = [.ref a,.ref b]/\SqT K H1 a xs/\SqT K H1 b ys/\R (Itzt K a b) H1
theorem xk5 {a b:Expr} {ta:TA} {p pos:Pos} {elts:List Expr} {kk:Nat} {tp:Pos} (hg:Gl X "zip") (hm:X.mg "zip" = none) (ha:PA X [a,b] ta) (hs:starEach [a,b] X.env = [(false,eval a X.env),(false,eval b X.env)]:=by rfl) (hs2:starEach [b] X.env = [(false,eval b X.env)]:=by rfl) :
    PI X (.Tuple elts kk tp) (.Call (.Name "zip" p) [a,b] [] pos) (xw0 X.K ta):=by
  intro pins s σ H R I h
  refine Call_ (zx6 I hg hm boot_zip (PyProof.Rows.callWith_type1 (thn (ha pos pins s σ H _ I h) λus s1 ⟨vs,H1,I1,r1,q1⟩=>?_) (by rw [hs,hs2]) (by rw [hs2]; rfl)))
  obtain ⟨ea,eb,xs,ys,rfl,h1,h2,q⟩:=q1
  obtain ⟨u1,u2,rfl,rr1,rr2⟩:=xc0 r1
  cases rr1
  cases rr2
  obtain ⟨its1,v1,p1,z1⟩:=I1.tuple h1
  obtain ⟨its2,v2,p2,z2⟩:=I1.tuple h2
  have t1:s1.heap.IsTuple ea its1.toArray:=p1
  obtain ⟨oa,eoa,_⟩:=id t1
  have t2:s1.heap.IsTuple eb its2.toArray:=p2
  obtain ⟨ob,eob,_⟩:=id t2
  have la:ea < s1.heap.objs.size:=Heap.lt_size eoa
  have lb:eb < s1.heap.objs.size:=Heap.lt_size eob
  refine yt1 t1 t2 λh' c1 c2 c3 c4 c5 c6 c7=>?_
  refine wpAny_pyIter_zip (s:={ s1 with heap:=h' }) c1 ?_
  have D:ZipApart (s1.heap.objs.size + 4) (s1.heap.objs.size + 2) (s1.heap.objs.size + 3) s1.heap.objs.size (s1.heap.objs.size + 1) ea eb:=by
    exact yp0 la lb
  refine ⟨s1.heap.objs.size + 4,[s1.heap.objs.size + 4,s1.heap.objs.size + 2,s1.heap.objs.size + 3,s1.heap.objs.size,s1.heap.objs.size + 1],_,_,H1,rfl,I1.kept (t':=s1.toks) c7,yu2 D,⟨c1,c2,⟨_,_,c3⟩,c4,c5⟩,λc hc=>?_,q⟩
  have hge:s1.heap.objs.size<=c:=by
    simp only [List.mem_cons,List.not_mem_nil,or_false] at hc
    rcases hc with rfl | rfl | rfl | rfl | rfl
    · exact Nat.le_add_right _ 4
    · exact Nat.le_add_right _ 2
    · exact Nat.le_add_right _ 3
    · exact Nat.le_refl _
    · exact Nat.le_add_right _ 1
  exact I1.fpOk hge (I1.hok.fresh hge)
end
theorem xf6 {K:PySem.W.Frag} {a b D:Addr} {xs ys:List V} {g:TG} {tt:TT} {te:TE} {R:Hp->Prop} {σ0:St} {H1:Hp} (hlen:xs.length = ys.length) (Pv:Nat->St->Hp->Prop) (h0:Pv 0 σ0 (upd H1 D (.lst []))) (hl:∀ i σ H,i<=xs.length->Pv i σ H->SqT K H a xs/\SqT K H b ys)
    (hs:∀ i x y T σ H,xs[i]? = some x->ys[i]? = some y->H T = none->Pv i σ H->g (.ref T) σ (upd H T (.tup [x,y])) λσ3 H3=>tt σ3 H3 λb H4=>if b = true then te σ3 H4 λy H5=>∃ zs,H5 D = some (.lst zs)/\zs.length < sizeLine/\Pv (i + 1) σ3 (upd H5 D (.lst (zs ++ [y]))) else Pv (i + 1) σ3 H4) (hd:∀ σ H,Pv xs.length σ H->R H) :
    ∃ W:Nat->Nat->St->Hp->Prop,(∃ m,W 0 m σ0 (upd H1 D (.lst [])))/\∀ i m σ' H',W i m σ' H' ->
      ((Itzt K a b).stop i H'/\R H')\/((Itzt K a b).go i H'/\∃ N:St->Hp->Prop,(∀ σ2 H2,N σ2 H2->∃ m',m' < m/\W (i + 1) m' σ2 H2) /\
        ∀ x H2,(Itzt K a b).yld i H' x H2->g x σ' H2 λσ3 H3=>tt σ3 H3 λb H4=>if b = true then te σ3 H4 λy H5=>∃ zs,H5 D = some (.lst zs)/\zs.length < sizeLine/\N σ3 (upd H5 D (.lst (zs ++ [y]))) else N σ3 H4):=by
  refine ⟨λi m σ H=>m = xs.length - i/\i<=xs.length/\Pv i σ H,⟨xs.length,rfl,Nat.zero_le _,h0⟩,?_⟩
  rintro i m σ H ⟨rfl,hi,p⟩
  obtain ⟨q1,q2⟩:=hl i σ H hi p
  rcases Nat.lt_or_ge i xs.length with hlt | hge
  · have hlt2:i < ys.length:=by omega
    refine .inr ⟨⟨xs,ys,xs[i],ys[i],q1,q2,List.getElem?_eq_getElem hlt,List.getElem?_eq_getElem hlt2⟩,Pv (i + 1),λσ' H' p'=>⟨xs.length - (i + 1),by omega,rfl,hlt,p'⟩,λx H' y=>?_⟩
    obtain ⟨T,e1,e2,e3⟩:=y
    have e:=e3 xs ys _ _ q1 q2 (List.getElem?_eq_getElem hlt) (List.getElem?_eq_getElem hlt2)
    subst e e1
    exact hs i _ _ T σ H (List.getElem?_eq_getElem hlt) (List.getElem?_eq_getElem hlt2) e2 p
  · have e:i = xs.length:=Nat.le_antisymm hi hge
    subst e
    exact .inl ⟨⟨xs,ys,q1,q2,.inl (Nat.le_refl _)⟩,hd σ H p⟩
def eqVs:List V->List V->Bool
  | [],[]=>true
  | x :: xs,y :: ys=>eqV x y && eqVs xs ys
  | _,_=>false
theorem zn6:∀ {xs ys:List V},xs.length = ys.length->((List.range xs.length).all λj=>eqV (xs.getD j .non) (ys.getD j .non)) = eqVs xs ys
  | [],[],_=>rfl
  | x :: xs,y :: ys,h=>by
    have h':xs.length = ys.length:=by simpa using h
    rw [List.length_cons,List.range_succ_eq_map,List.all_cons,List.all_map]
    show (eqV x y && _) = (eqV x y && eqVs xs ys)
    rw [<- zn6 h']
    rfl
theorem yf3:∀ {xs ys:List V},xs.length ≠ ys.length->eqVs xs ys = false
  | [],[],h=>absurd rfl h
  | [],_ :: _,_=>rfl
  | _ :: _,[],_=>rfl
  | x :: xs,y :: ys,h=>by
    show (eqV x y && eqVs xs ys) = false
    rw [yf3 (by simpa using h),Bool.and_false]
theorem zy0:∀ {xs ys:List Str},eqVs (xs.map V.str) (ys.map V.str) = decide (xs = ys)
  | [],[]=>rfl
  | [],_ :: _=>rfl
  | _ :: _,[]=>rfl
  | x :: xs,y :: ys=>by
    show ((x == y) && eqVs (xs.map V.str) (ys.map V.str)) = _
    rw [zy0,Bool.eq_iff_iff,Bool.and_eq_true,decide_eq_true_iff,decide_eq_true_iff,List.cons.injEq,beq_iff_eq]
section
variable {X:Cx}
theorem yl6 {xs:List V} (h:xs.all zf2 = true) {j:Nat} {x:V} (e:xs[j]? = some x):zf2 x = true:=List.all_eq_true.mp h x (List.mem_of_getElem? e)
theorem zs8 {A:Around} {s:Shared} {xs ys:List V} {i1 i2:List Value} (w1:Vals xs i1) (w2:Vals ys i2) (f1:xs.all zf2 = true) (f2:ys.all zf2 = true) (j:Nat) (j1:j < i1.toArray.size) (j2:j < i2.toArray.size):SeqAt.EqAt A s i1.toArray[j] i2.toArray[j] (eqV (xs.getD j .non) (ys.getD j .non)):=by
  have l1:=w1.length
  have l2:=w2.length
  have j1':j < i1.length:=by simpa using j1
  have j2':j < i2.length:=by simpa using j2
  have jx:j < xs.length:=by omega
  have jy:j < ys.length:=by omega
  obtain ⟨u1,e1,v1⟩:=w1.get (i:=j) (x:=xs[j]) (List.getElem?_eq_getElem jx)
  obtain ⟨u2,e2,v2⟩:=w2.get (i:=j) (x:=ys[j]) (List.getElem?_eq_getElem jy)
  rw [List.getElem?_eq_getElem j1'] at e1
  rw [List.getElem?_eq_getElem j2'] at e2
  have g1:i1.toArray[j] = u1:=by simpa using Option.some.inj e1
  have g2:i2.toArray[j] = u2:=by simpa using Option.some.inj e2
  rw [g1,g2,show xs.getD j .non = xs[j] by simp [jx],show ys.getD j .non = ys[j] by simp [jy]]
  exact xi5 v1 v2 (yl6 f1 (List.getElem?_eq_getElem jx)) (yl6 f2 (List.getElem?_eq_getElem jy))
def rEqL (K:W.Frag) (neg:Bool):V->V->Hp->VK->Prop:=λx y H Q=>∃ (a b:Addr) (xs ys:List V),x = .ref a/\y = .ref b/\SqL K H a xs/\SqL K H b ys/\xs.all zf2 = true/\ys.all zf2 = true/\Q (.bl (if neg then !eqVs xs ys else eqVs xs ys)) H
theorem yw7 (hu:X.A.units + 8 < cLine):OpR X (compareOp .Eq) (rEqL X.K false):=by
  intro pins s σ H x y v u Q I r1 r2 h
  obtain ⟨a,b,xs,ys,rfl,rfl,h1,h2,f1,f2,q⟩:=h
  cases r1
  cases r2
  obtain ⟨i1,w1,p1,z1⟩:=I.list h1
  obtain ⟨i2,w2,p2,z2⟩:=I.list h2
  have l1:=w1.length
  have l2:=w2.length
  by_cases hl:xs.length = ys.length
  · refine SeqAt.RcAt.lists (A:=X.A) (e:=λj=>eqV (xs.getD j .non) (ys.getD j .non)) p1.isList p2.isList (by simp; omega) (by omega) (λj j1 j2=>zs8 w1 w2 f1 f2 j j1 j2) _ _ _ _ ⟨.bl _,H,I,rfl,?_⟩
    rw [List.size_toArray,<- l1,zn6 hl]
    exact q
  · refine SeqAt.RcAt.lists_lengths (A:=X.A) p1.isList p2.isList (by simp; omega) (by omega) _ _ _ _ ⟨.bl _,H,I,rfl,?_⟩
    rw [<- yf3 hl]
    exact q
theorem xi0 (hu:X.A.units + 8 < cLine):OpR X (compareOp .NotEq) (rEqL X.K true):=by
  intro pins s σ H x y v u Q I r1 r2 h
  obtain ⟨a,b,xs,ys,rfl,rfl,h1,h2,f1,f2,q⟩:=h
  cases r1
  cases r2
  obtain ⟨i1,w1,p1,z1⟩:=I.list h1
  obtain ⟨i2,w2,p2,z2⟩:=I.list h2
  have l1:=w1.length
  have l2:=w2.length
  by_cases hl:xs.length = ys.length
  · refine SeqAt.RcNeAt.lists (A:=X.A) (e:=λj=>eqV (xs.getD j .non) (ys.getD j .non)) p1.isList p2.isList (by simp; omega) (by omega) (λj j1 j2=>zs8 w1 w2 f1 f2 j j1 j2) _ _ _ _ ⟨.bl _,H,I,rfl,?_⟩
    rw [List.size_toArray,<- l1,zn6 hl]
    exact q
  · refine SeqAt.RcNeAt.lists_lengths (A:=X.A) p1.isList p2.isList (by simp; omega) (by omega) _ _ _ _ ⟨.bl _,H,I,rfl,?_⟩
    rw [show true = !eqVs xs ys by rw [yf3 hl]; rfl]
    exact q
def rNeT (K:W.Frag):V->V->Hp->VK->Prop:=λx y H Q=>∃ (a b:Addr) (xs ys:List V),x = .ref a/\y = .ref b/\SqT K H a xs/\SqT K H b ys/\xs.length = ys.length/\xs.all zf2 = true/\ys.all zf2 = true/\Q (.bl (!eqVs xs ys)) H
theorem xr0 (hu:X.A.units + 8 < cLine):OpR X (compareOp .NotEq) (rNeT X.K):=by
  intro pins s σ H x y v u Q I r1 r2 h
  obtain ⟨a,b,xs,ys,rfl,rfl,h1,h2,hl,f1,f2,q⟩:=h
  cases r1
  cases r2
  obtain ⟨i1,w1,p1,z1⟩:=I.tuple h1
  obtain ⟨i2,w2,p2,z2⟩:=I.tuple h2
  have l1:=w1.length
  have l2:=w2.length
  refine SeqAt.RcNeAt.tuples (A:=X.A) (e:=λj=>eqV (xs.getD j .non) (ys.getD j .non)) p1 p2 (by omega) (λj j1 j2=>zs8 w1 w2 f1 f2 j j1 j2) _ _ _ _ ⟨.bl _,H,I,rfl,?_⟩
  rw [List.size_toArray,List.size_toArray,<- l1,<- l2,<- hl,Nat.min_self,zn6 hl,beq_self_eq_true,Bool.and_true]
  exact q
def xj9:V->List V->Hp->VK->Prop:=λx vs H Q=>∃ (p:Addr) (xs:List V) (y:V) (j:Nat) (z:V),x = .ref p/\vs = [y]/\H p = some (.lst xs)/\zf2 y = true/\xs.all zf2 = true/\xs[j]? = some z/\eqV z y = true/\(∀ m z,m < j->xs[m]? = some z->eqV z y = false)/\Q (.int (j:Nat)) H
theorem yy4:MtM X "list.index" xj9:=by
  intro pins s σ H x vs v us Q I rx rv h
  obtain ⟨p,xs,y,j,z,rfl,rfl,hp,fy,fs,hj,hz',hno,q⟩:=h
  cases rx
  obtain ⟨u,rfl,ru⟩:=rv.one
  obtain ⟨hz,its,n,r,e1⟩:=(show zd7 X.prog X.w H s.heap p (.lst xs) from I.hok p _ hp)
  have len:=r.length
  have jx:=(List.getElem?_eq_some_iff.mp hj).1
  have at_:∀ m w,xs[m]? = some w->∀ hm:m < its.toArray.size,eqU y its.toArray[m] = eqV w y:=λm w hw hm=>by
    obtain ⟨u1,g1,v1⟩:=r.get hw
    have hm':m < its.length:=by simpa using hm
    rw [List.getElem?_eq_getElem hm'] at g1
    have g:its.toArray[m] = u1:=by simpa using Option.some.inj g1
    rw [g]
    exact yo6 v1 (yl6 fs hw)
  have small63:(j:Int) < 2 ^ 63 - 1:=by
    have:xs.length<=sizeLine:=hz
    have h2:(sizeLine:Int) < 2 ^ 63 - 1:=by decide
    omega
  refine call_meets F.slot_list_index ⟨_,e1,rfl⟩ F.entry_list_index (F.args_list_index_2 _ _) (SeqAt.list_indexAt p its.toArray n none _ u (eqU y) j (by simp; omega) small63 ?_ ?_) ⟨e1,λw' hw=>zi8 ru fy r fs w' (by simpa using hw),?_⟩
  · rw [at_ j z hj]
    exact hz'
  · intro m hm hlt
    have hmx:m < xs.length:=by omega
    rw [at_ m _ (List.getElem?_eq_getElem hmx)]
    exact hno m _ hlt (List.getElem?_eq_getElem hmx)
  · exact ⟨.int (j:Nat),H,I.kept (t':=s.toks + 1) λb o e=>e,⟨s.toks,rfl⟩,q⟩
end
end L2
namespace K55
open PySem L2 CD
def Emp (c:Cd):Prop:=cells c = []/\depth c<=2
def zo4 (T:Cl):Sp:=λvs H Q _=>∃ (pa:Addr) (zs:List V) (l:List Cd),vs = [.ref pa]/\H pa = some (.lst zs)/\IsL T H l zs/\l.length<=100/\(∀ c ∈ l,zm4 c = true)/\∀ v c H',Same H H'->IsC T H' c v->cells c = []->depth c<=1->Q v H'
def yc9 (T:Cl):Sp:=λvs H Q _=>∃ (a b:Addr) (xs ys:List Int),vs = [.ref a,.ref b]/\H a = some (.tup (xs.map V.int))/\H b = some (.tup (ys.map V.int))/\xs.length = ys.length/\xs.length<=10 /\
  ∀ (l:Addr) (zs:List V) (cs:List Cd) (H':Hp),Same H H'->H l = none->H' l = some (.lst zs)->IsL T H' cs zs->(∀ c ∈ cs,zm4 c = true)->cs.length<=10->Q (.ref l) H'
theorem ym7 {T:Cl} {H:Hp}:∀ {l:List Cd} {zs:List V},IsL T H l zs->(l.map setl).all zf2 = true
  | l,_,_=>by
    rw [List.all_eq_true]
    intro x hx
    obtain ⟨c,_,rfl⟩:=List.mem_map.mp hx
    unfold setl
    split <;> rfl
theorem yy1 {ns:List Int} {i:Nat} {x:V} (hi:(ns.map V.int)[i]? = some x):∃ n,ns[i]? = some n/\n ∈ ns/\x = V.int n:=by
  rw [List.getElem?_map] at hi
  cases z:ns[i]? with
  | none=>rw [z] at hi; cases hi
  | some v=>rw [z] at hi; exact ⟨v,rfl,List.mem_of_getElem? z,(Option.some.inj hi).symm⟩
theorem ndOO:(["one","other"]:List Str).Nodup:=by decide +kernel
theorem yz9 (e:Expr) (g:List Comprehension) (sc:Scope) (p:Pos):behindInMarks .In (.ListComp e g sc p) = false:=rfl
section
variable {P:Program} {w:World} {K:W.Frag} {mg:Str->Option Value} {base:Heap} {f:Addr} {fd:FuncData} {T:Cl} {CC BC:Addr}
theorem scAO:FnScope ["parts","left"] ["parts"] (za1 yq8):=⟨rfl,rfl,rfl,by decide +kernel,rfl,by decide +kernel,by decide +kernel⟩
theorem xm4 (Fn:Fun K "all_of" "all_of" yq8 f fd) (X:Txt mg) (Z:Tc K mg T CC) (M1:MkC P w K mg base "Truth" T.t 42 ["self","said"] (spTI T)) (M2:MkC P w K mg base "AllOf" T.a 42 ["self","parts"] (spLI T K 19 T.a .all)):FnOk P w K mg base CX0 44 f fd ["parts"] (zo4 T):=by
  obtain ⟨f1,d1,mk1,G1,b1,m1⟩:=M1
  obtain ⟨f2,d2,mk2,G2,b2,m2⟩:=M2
  refine Fn.ok (k:=43) scAO (λvs H Q E h=>?_) (λcdv A outer s H vs Q E hr h=>?_)
  · obtain ⟨pa,zs,l,rfl,_⟩:=h
    rfl
  obtain ⟨pa,zs,l,rfl,hpa,hL,hl,hng,q⟩:=h
  have len:=zg4 hL
  refine ⟨_,za3 (zg5 (zb7 zm2 zj5 (zh6 (caps:=[]) ["part"] rfl (ze1 (pv 0)) ⟨rfl,by decide +kernel,by decide +kernel,rfl,.nil,rfl,rfl,rfl⟩
        (λs H ex=>zb2 (X:=cxLG _ _ _ _ s H ex) (i:=0) (nd1 _) rfl (Or.inl rfl) (.inr rfl)) (λs H ex=>zi1)
        (λs H ex=>zr9 (K:=K) rfl (pe_var (X:=cxLG _ _ _ _ s H ex) (i:=0) rfl (Or.inl rfl)) rfl)) (yz9 _ _ _ _))
      (za4 (zb9 (zf9 mk1 G1 hr rfl m1 b1 .nil zb0 (za0 zj5 za2)))) zb8)
    (za3 (zo7 (i:=1) ["part"] (caps:=[]) rfl scAO.nd rfl rfl (ze1 (pv 0)) ⟨rfl,by decide +kernel,by decide +kernel,rfl,.nil,rfl,rfl,rfl⟩
        (λs H ex=>zb2 (X:=cxLG _ _ _ _ s H ex) (i:=0) (nd1 _) rfl (Or.inl rfl) (.inr rfl))
        (λs H ex=>zj2 (zb7 yw5 (zr9 (K:=K) rfl (pe_var (X:=cxLG _ _ _ _ s H ex) (i:=0) rfl (Or.inl rfl)) rfl) yh3 (zd0 _)))
        (λs H ex=>pe_var (X:=cxLG _ _ _ _ s H ex) (i:=0) rfl (Or.inl rfl)) rfl)
    (za4 (zb9 (ye1 (zb7 zp2 (zb4 zc3 rfl X.len PySem.boot_len (za0 (pv 1) za2)) zb1 (zd0 _)) (ye0 zs4 (pv 1) zb1 (λ_ _=>rfl)) (zf9 mk2 G2 hr rfl m2 b2 .nil zb0 (za0 (pv 1) za2)))))),?_⟩
  refine ⟨_,rfl,pa,rfl,⟨_,SqL.of hpa⟩,λD hD=>?_⟩
  refine ze3 (K:=K) (a:=pa) (xs:=zs) (λi σ H2=>∃ (u:Option V),σ = [u]/\Same H H2/\H2 D = some (.lst ((l.take i).map setl)))
    ⟨none,rfl,same_new hD _,upd_same⟩ (λi σ H2 _ ⟨_,_,z,_⟩=>SqL.of (z _ _ hpa)) ?_ ?_
  · rintro i x σ H2 hi ⟨u,rfl,s2,h2⟩
    obtain ⟨c,hci,hC⟩:=zj4 hL hi
    have hil:=(List.getElem?_eq_some_iff.mp hci).1
    obtain ⟨a,dx,fs,rfl,ha,_,hB,_⟩:=zh4.mp hC
    refine ⟨_,rfl,a,_,dx,fs,_,rfl,s2 _ _ ha,Z.z.cl c,Z.z.ns c,hB.st,_,h2,zb5 (by rw [List.length_map,List.length_take]; omega),_,rfl,zc4 s2 hD _,?_⟩
    rw [upd_same,zd6 hci,List.map_append]
    rfl
  rintro σ H2 ⟨u,rfl,s2,h2⟩
  rw [<- len,List.take_length] at h2
  refine ⟨D,_,rfl,.inl (SqL.of h2),rfl,ym7 hL,_,rfl,ite2 (λ_=>?_) (λ_=>?_)⟩
  · refine λy dy hy hdy ney=>⟨y,dy,false,H2,rfl,upd_same,ze8 hy hdy,hy,λH3 kb hC=>⟨rfl,?_⟩⟩
    exact q _ _ _ (s2.trans (kb.same (ze8 hy hdy) hy)) hC rfl (Nat.le_refl 1)
  have hpa2:=s2 _ _ hpa
  refine ⟨_,rfl,pa,rfl,⟨_,SqL.of hpa2⟩,λD2 hD2=>?_⟩
  refine ze3 (K:=K) (a:=pa) (xs:=zs) (λi σ H3=>∃ (u:Option V),σ = [u]/\Same H2 H3/\H3 D2 = some (.lst []))
    ⟨none,rfl,same_new hD2 _,upd_same⟩ (λi σ H3 _ ⟨_,_,z,_⟩=>SqL.of (z _ _ hpa2)) ?_ ?_
  · rintro i x σ H3 hi ⟨u,rfl,s3,h3⟩
    obtain ⟨c,hci,hC⟩:=zj4 hL hi
    obtain ⟨a,dx,fs,rfl,ha,_,hB,_⟩:=zh4.mp hC
    have w3:=s2.trans s3
    have st:fs.lookup ("settled" : Str) = some (.bl (ev (λ_=>0) c)):=by
      rw [<- zu4 (hng c (List.mem_of_getElem? hci))]
      exact hB.st
    exact ⟨_,rfl,a,_,dx,fs,_,rfl,w3 _ _ ha,Z.z.cl c,Z.z.ns c,st,rfl,_,rfl,zf7 (by simp) ⟨_,rfl,s3,h3⟩⟩
  rintro σ H3 ⟨u,rfl,s3,h3⟩
  refine ⟨_,rfl,D2,_,rfl,.inl (SqL.of h3),rfl,_,rfl,zf7 (by decide) ?_⟩
  refine ⟨_,rfl,λy dy hy hdy ney=>?_⟩
  have ms:=ze8 (C:=T.a) hy hdy
  refine ⟨y,dy,D2,[],[],H3,rfl,upd_same,ms,hy,SqL.of (ms _ _ h3),rfl,by decide,by decide,⟨[],by decide,by decide,λk h=>(nomatch h)⟩,λH4 kb hC=>⟨rfl,?_⟩⟩
  exact q _ _ _ (s2.trans (s3.trans (kb.same ms hy))) hC rfl (Nat.le_refl 1)
theorem scOO:FnScope ["parts","left"] ["parts"] (za1 yp9):=⟨rfl,rfl,rfl,by decide +kernel,rfl,by decide +kernel,by decide +kernel⟩
theorem xl5 (Fn:Fun K "one_of" "one_of" yp9 f fd) (X:Txt mg) (Z:Tc K mg T CC) (M1:MkC P w K mg base "Truth" T.t 42 ["self","said"] (spTI T)) (M2:MkC P w K mg base "OneOf" T.o 42 ["self","parts"] (spLI T K 19 T.o .one)):FnOk P w K mg base CX0 44 f fd ["parts"] (zo4 T):=by
  obtain ⟨f1,d1,mk1,G1,b1,m1⟩:=M1
  obtain ⟨f2,d2,mk2,G2,b2,m2⟩:=M2
  refine Fn.ok (k:=43) scOO (λvs H Q E h=>?_) (λcdv A outer s H vs Q E hr h=>?_)
  · obtain ⟨pa,zs,l,rfl,_⟩:=h
    rfl
  obtain ⟨pa,zs,l,rfl,hpa,hL,hl,hng,q⟩:=h
  have len:=zg4 hL
  refine ⟨_,za3 (zg5 (zb7 zm2 zj5 (zh6 (caps:=[]) ["part"] rfl (ze1 (pv 0)) ⟨rfl,by decide +kernel,by decide +kernel,rfl,.nil,rfl,rfl,rfl⟩
        (λs H ex=>zb2 (X:=cxLG _ _ _ _ s H ex) (i:=0) (nd1 _) rfl (Or.inl rfl) (.inr rfl)) (λs H ex=>zi1)
        (λs H ex=>zr9 (K:=K) rfl (pe_var (X:=cxLG _ _ _ _ s H ex) (i:=0) rfl (Or.inl rfl)) rfl)) (yz9 _ _ _ _))
      (za4 (zb9 (zf9 mk1 G1 hr rfl m1 b1 .nil zb0 (za0 zj5 za2)))) zb8)
    (za3 (zo7 (i:=1) ["part"] (caps:=[]) rfl scOO.nd rfl rfl (ze1 (pv 0)) ⟨rfl,by decide +kernel,by decide +kernel,rfl,.nil,rfl,rfl,rfl⟩
        (λs H ex=>zb2 (X:=cxLG _ _ _ _ s H ex) (i:=0) (nd1 _) rfl (Or.inl rfl) (.inr rfl))
        (λs H ex=>zj2 (zb7 yw5 (zr9 (K:=K) rfl (pe_var (X:=cxLG _ _ _ _ s H ex) (i:=0) rfl (Or.inl rfl)) rfl) yh3 (zd0 _)))
        (λs H ex=>pe_var (X:=cxLG _ _ _ _ s H ex) (i:=0) rfl (Or.inl rfl)) rfl)
    (za4 (zb9 (ye1 (zb7 zp2 (zb4 zc3 rfl X.len PySem.boot_len (za0 (pv 1) za2)) zb1 (zd0 _)) (ye0 zs4 (pv 1) zb1 (λ_ _=>rfl)) (zf9 mk2 G2 hr rfl m2 b2 .nil zb0 (za0 (pv 1) za2)))))),?_⟩
  refine ⟨_,rfl,pa,rfl,⟨_,SqL.of hpa⟩,λD hD=>?_⟩
  refine ze3 (K:=K) (a:=pa) (xs:=zs) (λi σ H2=>∃ (u:Option V),σ = [u]/\Same H H2/\H2 D = some (.lst ((l.take i).map setl)))
    ⟨none,rfl,same_new hD _,upd_same⟩ (λi σ H2 _ ⟨_,_,z,_⟩=>SqL.of (z _ _ hpa)) ?_ ?_
  · rintro i x σ H2 hi ⟨u,rfl,s2,h2⟩
    obtain ⟨c,hci,hC⟩:=zj4 hL hi
    have hil:=(List.getElem?_eq_some_iff.mp hci).1
    obtain ⟨a,dx,fs,rfl,ha,_,hB,_⟩:=zh4.mp hC
    refine ⟨_,rfl,a,_,dx,fs,_,rfl,s2 _ _ ha,Z.z.cl c,Z.z.ns c,hB.st,_,h2,zb5 (by rw [List.length_map,List.length_take]; omega),_,rfl,zc4 s2 hD _,?_⟩
    rw [upd_same,zd6 hci,List.map_append]
    rfl
  rintro σ H2 ⟨u,rfl,s2,h2⟩
  rw [<- len,List.take_length] at h2
  refine ⟨D,_,rfl,.inl (SqL.of h2),rfl,ym7 hL,_,rfl,ite2 (λ_=>?_) (λ_=>?_)⟩
  · refine λy dy hy hdy ney=>⟨y,dy,true,H2,rfl,upd_same,ze8 hy hdy,hy,λH3 kb hC=>⟨rfl,?_⟩⟩
    exact q _ _ _ (s2.trans (kb.same (ze8 hy hdy) hy)) hC rfl (Nat.le_refl 1)
  have hpa2:=s2 _ _ hpa
  refine ⟨_,rfl,pa,rfl,⟨_,SqL.of hpa2⟩,λD2 hD2=>?_⟩
  refine ze3 (K:=K) (a:=pa) (xs:=zs) (λi σ H3=>∃ (u:Option V),σ = [u]/\Same H2 H3/\H3 D2 = some (.lst []))
    ⟨none,rfl,same_new hD2 _,upd_same⟩ (λi σ H3 _ ⟨_,_,z,_⟩=>SqL.of (z _ _ hpa2)) ?_ ?_
  · rintro i x σ H3 hi ⟨u,rfl,s3,h3⟩
    obtain ⟨c,hci,hC⟩:=zj4 hL hi
    obtain ⟨a,dx,fs,rfl,ha,_,hB,_⟩:=zh4.mp hC
    have w3:=s2.trans s3
    have st:fs.lookup ("settled" : Str) = some (.bl (ev (λ_=>0) c)):=by
      rw [<- zu4 (hng c (List.mem_of_getElem? hci))]
      exact hB.st
    exact ⟨_,rfl,a,_,dx,fs,_,rfl,w3 _ _ ha,Z.z.cl c,Z.z.ns c,st,rfl,_,rfl,zf7 (by simp) ⟨_,rfl,s3,h3⟩⟩
  rintro σ H3 ⟨u,rfl,s3,h3⟩
  refine ⟨_,rfl,D2,_,rfl,.inl (SqL.of h3),rfl,_,rfl,zf7 (by decide) ?_⟩
  refine ⟨_,rfl,λy dy hy hdy ney=>?_⟩
  have ms:=ze8 (C:=T.o) hy hdy
  refine ⟨y,dy,D2,[],[],H3,rfl,upd_same,ms,hy,SqL.of (ms _ _ h3),rfl,by decide,by decide,⟨[],by decide,by decide,λk h=>(nomatch h)⟩,λH4 kb hC=>⟨rfl,?_⟩⟩
  exact q _ _ _ (s2.trans (s3.trans (kb.same ms hy))) hC rfl (Nat.le_refl 1)
theorem scSC:FnScope ["cells","others"] ["cells","others"] (za1 ya1):=⟨rfl,rfl,rfl,by decide +kernel,rfl,by decide +kernel,by decide +kernel⟩
theorem xd6 (Fn:Fun K "same_cells" "same_cells" ya1 f fd) (X:Txt mg) (M1:MkC P w K mg base "Same" T.s 42 ["self","one","other"] (spSI T)):FnOk P w K mg base CX0 44 f fd ["cells","others"] (yc9 T):=by
  obtain ⟨f1,d1,mk1,G1,b1,m1⟩:=M1
  refine Fn.ok (k:=43) scSC (λvs H Q E h=>?_) (λcdv A outer s H vs Q E hr h=>?_)
  · obtain ⟨a,b,xs,ys,rfl,_⟩:=h
    rfl
  obtain ⟨a,b,xs,ys,rfl,ha,hb,hl,h10,q⟩:=h
  have hr42:Room 43 _:=hr
  refine ⟨_,za4 (zb9 (zh6 (caps:=[]) ["one","other"] rfl (xk5 rfl X.zip (za0 (pv 0) (za0 (pv 1) za2))) ⟨rfl,by decide +kernel,by decide +kernel,rfl,.nil,rfl,rfl,rfl⟩
      (λs H ex=>zw8 (K:=K) (n:=2) rfl rfl (zc1 (zb2 (X:=cxLG _ _ _ _ s H ex) (i:=0) ndOO rfl (Or.inl rfl) (.inr rfl)) (zc1 (zb2 (X:=cxLG _ _ _ _ s H ex) (i:=1) ndOO rfl (Or.inl rfl) (.inr rfl)) zg8)))
      (λs H ex=>zj2 (zb7 xr1 (pe_var (X:=cxLG _ _ _ _ s H ex) (i:=0) rfl (Or.inl rfl)) (pe_var (X:=cxLG _ _ _ _ s H ex) (i:=1) rfl (Or.inl rfl)) (zd0 _)))
      (λs H ex=>zf9 (X:=cxLG _ _ _ _ s H ex) mk1 G1 hr rfl m1 b1 .nil zb0 (za0 (pe_var (X:=cxLG _ _ _ _ s H ex) (i:=0) rfl (Or.inl rfl)) (za0 (pe_var (X:=cxLG _ _ _ _ s H ex) (i:=1) rfl (Or.inl rfl)) za2))))),?_⟩
  refine ⟨_,rfl,_,rfl,a,b,_,_,rfl,SqT.of ha,SqT.of hb,λD hD=>?_⟩
  refine xf6 (K:=K) (a:=a) (b:=b) (xs:=xs.map V.int) (ys:=ys.map V.int) (by rw [List.length_map,List.length_map,hl]) (λi σ H2=>∃ (u1 u2:Option V) (zs:List V) (cs:List Cd),σ = [u1,u2]/\Same H H2/\H2 D = some (.lst zs)/\IsL T H2 cs zs/\(∀ c ∈ cs,zm4 c = true)/\cs.length<=i)
    ⟨none,none,[],[],rfl,same_new hD _,upd_same,rfl,λc h=>(nomatch h),Nat.le_refl 0⟩ (λi σ H2 _ ⟨_,_,_,_,_,z,_⟩=>⟨SqT.of (z _ _ ha),SqT.of (z _ _ hb)⟩) ?_ ?_
  · rintro i x y T0 σ H2 hi hj hT0 ⟨u1,u2,zs,cs,rfl,s2,h2,hL,hng,cl⟩
    obtain ⟨n,hn,_,rfl⟩:=yy1 hi
    obtain ⟨m,hm,_,rfl⟩:=yy1 hj
    have hil:=(List.getElem?_eq_some_iff.mp hn).1
    have s3:=same_new hT0 (.tup [.int n,.int m])
    have h3:=upd_same (H:=H2) (a:=T0) (o:=.tup [.int n,.int m])
    generalize upd H2 T0 (.tup [.int n,.int m]) = H3 at s3 h3 ⊢
    refine ⟨T0,_,rfl,SqT.of h3,rfl,_,_,rfl,_,_,rfl,rfl,_,rfl,_,rfl,rfl,_,rfl,ite2 (λ_=>?_) (λ_=>⟨_,_,zs,cs,rfl,s2.trans s3,s3 _ _ h2,hL.kp (.of s3),hng,by omega⟩)⟩
    refine ⟨_,rfl,_,rfl,λy dy hy hdy ney=>?_⟩
    have ms:=ze8 (C:=T.s) hy hdy
    refine ⟨y,dy,Sum.inl n,Sum.inl m,H3,rfl,upd_same,ms,hy,λH4 kb hC=>⟨rfl,?_⟩⟩
    have s4:=kb.same ms hy
    have h4:=s4 _ _ (s3 _ _ h2)
    have zl:=zg4 hL
    have kD:Kp H4 (upd H4 D (.lst (zs ++ [.ref y]))):=⟨λb xs h=>by rw [za7 (λe=>by rw [e,h4] at h; cases h)]; exact h,λb C dx fs h=>by rw [za7 (λe=>by rw [e,h4] at h; cases h)]; exact h⟩
    refine ⟨zs,h4,zb5 (by omega),_,_,zs ++ [.ref y],cs ++ [.same (Sum.inl n) (Sum.inl m)],rfl,zc4 (s2.trans (s3.trans s4)) hD _,upd_same,(zi9 (hL.kp (.of (s3.trans s4))) hC).kp kD,λc hc=>?_,by rw [List.length_append]; exact Nat.succ_le_succ cl⟩
    rcases List.mem_append.mp hc with hc | hc
    · exact hng c hc
    · rw [show c = .same (Sum.inl n) (Sum.inl m) by simpa using hc]
      rfl
  · rintro σ H2 ⟨u1,u2,zs,cs,rfl,s2,h2,hL,hng,cl⟩
    rw [List.length_map] at cl
    exact q D zs cs H2 s2 hD h2 hL hng (by omega)
end
end K55
namespace L2
open PySem PySem.Spec PyProof.Rows
section
variable {X:Cx} {pins:List (Addr × Obj)} {σ:St} {H:Hp} {s:Shared} {A:Around}
end
def Ite (K:W.Frag) (a:Addr):It:=
  ⟨λi H=>∃ xs x,SqL K H a xs/\xs[i]? = some x,
   λi H v H'=>∃ T,v = .ref T/\H T = none/\∀ xs x,SqL K H a xs->xs[i]? = some x->H' = upd H T (.tup [.int i,x]),
   λi H=>∃ xs,SqL K H a xs/\xs.length<=i⟩
def xt8 (e it a:Addr) (i:Nat) (h:Heap):Prop:=(∃ old,IsEnum h e it i old)/\h.IsListIter it a i
theorem yu4 {P:Program} {w:World} {K:W.Frag} {elts:List Expr} {kk:Nat} {pos:Pos} {e it a:Addr} (D:e ≠ it):Turn P w K (.Tuple elts kk pos) (Ite K a) [e,it] e (xt8 e it a) where
  mem:=by simp
  obj:=λi h st c hc=>by
    obtain ⟨⟨old,ez⟩,⟨o1,e1,c1,d1⟩⟩:=st
    simp only [List.mem_cons,List.not_mem_nil,or_false] at hc
    rcases hc with rfl | rfl
    · exact ⟨_,ez,λv y=>by cases y⟩
    · exact ⟨o1,e1,λv y=>by rw [d1] at y; cases y⟩
  keep:=λi h h' st k=>by
    obtain ⟨⟨old,ez⟩,s1⟩:=st
    exact ⟨⟨old,k e (by simp) _ ez⟩,s1.at λo e1=>k it (by simp) o e1⟩
  item:=by
    intro X hP hw hK hc i pins s σ H E I hf st hg
    subst hP hw hK
    obtain ⟨⟨old,ez⟩,s1⟩:=st
    obtain ⟨xs,x,q1,g1⟩:=hg
    obtain ⟨its1,r1,p1,z1⟩:=I.list q1
    obtain ⟨ux,hx,rx⟩:=r1.get g1
    refine wpAny_pyNext_enum_item ez s1 p1.isList (x:=ux) (by simpa using hx) D λh' a1 a2 a3 a4 a5=>⟨_,rfl,?_⟩
    refine wpAny_letOwnedTupleGo_enum (s:={ s with heap:=h',toks:=s.toks + 1 }) a1 λh2 b1 b2=>?_
    have zlt:e < s.heap.objs.size:=Heap.lt_size ez
    obtain ⟨o1,e1,_⟩:=id s1
    have lt1:it < s.heap.objs.size:=Heap.lt_size e1
    have fr:H s.heap.objs.size = none:=I.hok.fresh (Nat.le_refl _)
    have I0:Inv X pins σ (upd H s.heap.objs.size (.tup [.int i,x])) { s with heap:=s.heap.push { cls:=.type "tuple",data:=.seq #[.int i s.toks,ux] } }:=by
      refine I.laid (t':=s.toks) (λc o e=>Heap.get?_push_of_some _ e) (Nat.le_refl _) ?_
      exact ⟨by show 2<=sizeLine; exact Nat.le_of_lt (zb5 (by decide)),[.int i s.toks,ux],.cons ⟨_,rfl⟩ (.cons rx .nil),⟨_,Heap.get?_push_size _ rfl,rfl,rfl,_,rfl⟩⟩
    have nlt:∀ c ∈ [e,it],c ≠ s.heap.objs.size:=by
      intro c hc
      simp only [List.mem_cons,List.not_mem_nil,or_false] at hc
      rcases hc with rfl | rfl
      · exact Nat.ne_of_lt zlt
      · exact Nat.ne_of_lt lt1
    have hf0:∀ c ∈ [e,it],FpOk X pins (upd H s.heap.objs.size (.tup [.int i,x])) c:=λc hc=>by
      obtain ⟨f0,f1⟩:=hf c hc
      exact ⟨by rw [za7 (nlt c hc)]; exact f0,f1⟩
    have I1:Inv X pins σ (upd H s.heap.objs.size (.tup [.int i,x])) { s with heap:=h2,toks:=s.toks + 1 }:=by
      refine Inv.turnedM (s:={ s with heap:=s.heap.push { cls:=.type "tuple",data:=.seq #[.int i s.toks,ux] } }) (h':=h2) (t':=s.toks + 1) (fp:=[e,it]) I0 (λc o nc e0=>?_) hf0
      simp only [List.mem_cons,List.not_mem_nil,or_false,not_or] at nc
      obtain ⟨n1,n2⟩:=nc
      rcases Heap.get?_push_cases e0 with ⟨rfl,rfl⟩ | e0
      · exact b2.extBut _ _ n1 a3
      · exact b2.extBut _ _ n1 (a5 c o n1 n2 e0)
    refine ⟨.ref s.heap.objs.size,_,I1,rfl,⟨_,rfl,fr,λxs' x' q1' g1'=>?_⟩,⟨⟨_,by exact_mod_cast b1⟩,a2.at λo e0=>b2.extBut _ _ (Ne.symm D) e0⟩,λc hc=>(hf0 c hc).1⟩
    have ex:xs' = xs:=I.list_inj q1' q1
    subst ex
    rw [g1] at g1'
    cases g1'
    rfl
  done:=by
    intro X hP hw hK hc i pins s σ H E I hf st hg
    subst hP hw hK
    obtain ⟨⟨old,ez⟩,s1⟩:=st
    obtain ⟨xs,q1,g⟩:=hg
    obtain ⟨its1,r1,p1,z1⟩:=I.list q1
    have l1:=r1.length
    refine wpAny_pyNext_enum_end (I.ok.hd hc) ez s1 p1.isList (by simp; omega) λh' kk=>⟨rfl,?_⟩
    refine I.turnedM (t':=s.toks) (fp:=[e,it]) (λc o nc e0=>?_) hf
    simp only [List.mem_cons,List.not_mem_nil,or_false,not_or] at nc
    exact kk c o nc.2 e0
  self:=λ_ _ _ _ _ st h=>by
    obtain ⟨⟨old,ez⟩,_⟩:=st
    exact wpAny_pyIter_enum ez h
section
variable {X:Cx}
def xw3 (K:W.Frag) (ta:TA):TI:=λσ H R=>ta σ H λvs H1=>∃ a xs,vs = [.ref a]/\SqL K H1 a xs/\R (Ite K a) H1
theorem xk6 {a:Expr} {ta:TA} {p pos:Pos} {elts:List Expr} {kk:Nat} {tp:Pos} (hg:Gl X "enumerate") (hm:X.mg "enumerate" = none) (ha:PA X [a] ta) (hs:starEach [a] X.env = [(false,eval a X.env)]:=by rfl) :
    PI X (.Tuple elts kk tp) (.Call (.Name "enumerate" p) [a] [] pos) (xw3 X.K ta):=by
  intro pins s σ H R I h
  refine Call_ (zx6 I hg hm (show bootBuiltins "enumerate" = some (.type "enumerate") by decide +kernel) (PyProof.Rows.callWith_type1 (thn (ha pos pins s σ H _ I h) λus s1 ⟨vs,H1,I1,r1,q1⟩=>?_) (by rw [hs]; rfl) (by rfl)))
  obtain ⟨ea,xs,rfl,h1,q⟩:=q1
  obtain ⟨u1,rfl,rr1⟩:=zt6 r1
  cases rr1
  obtain ⟨its1,v1,p1,z1⟩:=I1.list h1
  obtain ⟨oa,eoa,_⟩:=id p1.isList
  have la:ea < s1.heap.objs.size:=Heap.lt_size eoa
  refine call_enumerate_list p1.isList λh' c1 c2 c3 c4=>?_
  refine wpAny_pyIter_enum (s:={ s1 with heap:=h' }) c1 ?_
  refine ⟨s1.heap.objs.size + 1,[s1.heap.objs.size + 1,s1.heap.objs.size],_,_,H1,rfl,I1.kept (t':=s1.toks) c4,yu4 (Nat.succ_ne_self _),⟨⟨_,c1⟩,c2⟩,λc hc=>?_,q⟩
  have hge:s1.heap.objs.size<=c:=by
    simp only [List.mem_cons,List.not_mem_nil,or_false] at hc
    rcases hc with rfl | rfl
    · exact Nat.le_add_right _ 1
    · exact Nat.le_refl _
  exact I1.fpOk hge (I1.hok.fresh hge)
theorem xg4 {K:PySem.W.Frag} {a:Addr} {xs:List V} {g:TG} {tb:TS} {D:Ends} {σ:St} {H:Hp} (Pv:Nat->St->Hp->Prop) (h0:Pv 0 σ H) (hl:∀ i σ H,i<=xs.length->Pv i σ H->SqL K H a xs)
    (hs:∀ i x T σ H,xs[i]? = some x->H T = none->Pv i σ H->g (.ref T) σ (upd H T (.tup [.int i,x])) λσ2 H2=>tb { D with nx:=Pv (i + 1),ct:=Pv (i + 1),bk:=D.nx } σ2 H2) (hd:∀ σ H,Pv xs.length σ H->D.nx σ H) :
    ∃ W:Nat->Nat->St->Hp->Prop,(∃ m,W 0 m σ H)/\∀ i m σ H,W i m σ H ->
      ((Ite K a).stop i H/\D.nx σ H)\/((Ite K a).go i H/\∃ N:St->Hp->Prop,(∀ σ' H',N σ' H'->∃ m',m' < m/\W (i + 1) m' σ' H')/\∀ x H',(Ite K a).yld i H x H'->g x σ H' λσ2 H2=>tb { D with nx:=N,ct:=N,bk:=D.nx } σ2 H2):=by
  refine ⟨λi m σ H=>m = xs.length - i/\i<=xs.length/\Pv i σ H,⟨xs.length,rfl,Nat.zero_le _,h0⟩,?_⟩
  rintro i m σ H ⟨rfl,hi,p⟩
  have q1:=hl i σ H hi p
  rcases Nat.lt_or_ge i xs.length with hlt | hge
  · refine .inr ⟨⟨xs,xs[i],q1,List.getElem?_eq_getElem hlt⟩,Pv (i + 1),λσ' H' p'=>⟨xs.length - (i + 1),by omega,rfl,hlt,p'⟩,λx H' y=>?_⟩
    obtain ⟨T,e1,e2,e3⟩:=y
    have e:=e3 xs _ q1 (List.getElem?_eq_getElem hlt)
    subst e e1
    exact hs i _ T σ H (List.getElem?_eq_getElem hlt) e2 p
  · have e:i = xs.length:=Nat.le_antisymm hi hge
    subst e
    exact .inl ⟨⟨xs,q1,Nat.le_refl _⟩,hd σ H p⟩
end
end L2
namespace K55
open PySem L2 CD
def yj4 (cs:List Str) (x:Str):Bool:=decide (((cs.map V.str).countP λz=>eqV z (.str x)) > 1)
def reps (cs:List Str):List Str:=cs.filter (yj4 cs)
def yf9 (l:List Str) (m:Str):Prop:=m ∈ l/\∀ x ∈ l,m.cps.toList<=x.cps.toList
structure ExK (P:Program) (w:World) (K:W.Frag) (mg:Str->Option Value) (base:Heap) (x at':Str) (C:Addr):Prop where
  ex:∃ bm newId initId Bn fI fdI,OwnI x C bm newId fI mg base/\ExcBaseFacts Bn newId initId bm/\FnOk P w K mg base CX0 1 fI fdI ["self",at'] (spEI C at')/\zi3 K fdI ["self",at'] []/\W.keepIn K (.ref C) = true
def CalE (P:Program) (w:World) (K:W.Frag) (mg:Str->Option Value) (base:Heap) (x:Str) (k:Nat) (ps:List Str) (sp:Sp):Prop:=
  ∃ f fd,FnOk P w K mg base (CXe P w) k f fd ps sp/\zi3 K fd ps []/\W.keepIn K (.ref f) = true/\mg x = some (.ref f)
def leS (a b:Str):Prop:=a.cps.toList<=b.cps.toList
theorem yn9 (a b:Str) (h1:leS a b) (h2:leS b a):a = b:=by
  have e:=List.le_antisymm h1 h2
  cases a
  cases b
  simp at e
  rw [e]
theorem yg9:∀ {p:Str} {l:List Str},PyProof.Rows.risingS p l = true->(p :: l).Pairwise leS
  | p,[],_=>by simp
  | p,x :: r,h=>by
    have h':(!PySem.Spec.ltCps x.cps.toList p.cps.toList && PyProof.Rows.risingS x r) = true:=h
    rw [Bool.and_eq_true] at h'
    have ih:=yg9 h'.2
    have hx:leS p x:=by
      have:=h'.1
      rw [PyProof.Rows.ltCps_eq] at this
      have n:¬ x.cps.toList < p.cps.toList:=by simpa using this
      exact n
    refine List.pairwise_cons.mpr ⟨λy hy=>?_,ih⟩
    rcases List.mem_cons.mp hy with rfl | hy
    · exact hx
    · exact List.le_trans hx ((List.pairwise_cons.mp ih).1 y hy)
theorem zl3:∀ {l:List Str},PyProof.Rows.sortedS l = true->l.Pairwise leS
  | [],_=>by simp
  | x :: r,h=>yg9 h
theorem yr9 {l l':List Str} {h:Str} {t:List Str} (p:l'.Perm l) (s:PyProof.Rows.sortedS l' = true) (e:l' = h :: t):yf9 l h:=by
  subst e
  have pw:=List.pairwise_cons.mp (zl3 s)
  refine ⟨p.mem_iff.mp List.mem_cons_self,λx hx=>?_⟩
  rcases List.mem_cons.mp (p.mem_iff.mpr hx) with rfl | hx
  · exact List.le_refl _
  · exact pw.1 x hx
theorem yr8 {l:List Str} {a b:Str} (h1:yf9 l a) (h2:yf9 l b):a = b:=yn9 a b (h1.2 b h2.1) (h2.2 a h1.1)
structure ExZ (mg:Str->Option Value) (base:Heap) (x:Str) (C:Addr):Prop where
  ex:∃ bm newId initId Bn,PyProof.Rows.OwnCls x C bm newId mg base/\ExcBaseFacts Bn newId initId bm
theorem yk2:∀ {l m:List Str},l.Perm m->l.Pairwise leS->m.Pairwise leS->l = m
  | [],m,p,_,_=>by rw [p.symm.eq_nil]
  | a :: l,[],p,_,_=>by cases p.eq_nil
  | a :: l,b :: m,p,hl,hm=>by
    have h1:=List.pairwise_cons.mp hl
    have h2:=List.pairwise_cons.mp hm
    have e:a = b:=by
      rcases List.mem_cons.mp (p.mem_iff.mp List.mem_cons_self) with e | ha
      · exact e
      rcases List.mem_cons.mp (p.mem_iff.mpr (List.mem_cons_self (a:=b) (l:=m))) with e | hb
      · exact e.symm
      exact yn9 _ _ (h1.1 b hb) (h2.1 a ha)
    subst e
    rw [yk2 (List.Perm.cons_inv p) h1.2 h2.2]
theorem zs6 {x:Str} {cs:List Str}:inV (.str x) (cs.map V.str) = decide (x ∈ cs):=by
  unfold inV
  rw [Bool.eq_iff_iff,List.any_eq_true,decide_eq_true_iff]
  constructor
  · rintro ⟨v,hv,e⟩
    obtain ⟨y,hy,rfl⟩:=List.mem_map.mp hv
    have:(y == x) = true:=e
    exact beq_iff_eq.mp this ▸ hy
  · intro h
    exact ⟨.str x,List.mem_map.mpr ⟨x,h,rfl⟩,beq_self_eq_true x⟩
theorem xb3 {ns:List Str} {i:Nat}:cutV (ns.map V.str) none (some (i:Nat)) = (ns.take i).map V.str:=by
  unfold cutV
  rw [HT.sIx_nat]
  show ((ns.map V.str).drop 0).take (min i (ns.map V.str).length - 0) = _
  rw [List.drop_zero,Nat.sub_zero,List.length_map,<- List.map_take]
  congr 1
  rcases Nat.le_total i ns.length with h | h
  · rw [Nat.min_eq_left h]
  · rw [Nat.min_eq_right h,List.take_length,List.take_of_length_le h]
def zv4 (C:Addr):Sp:=λvs H Q E=>∃ (tc:Addr) (cs:List Str),vs = [.ref tc]/\H tc = some (.lst (cs.map V.str))/\cs.length<=100/\(reps cs = []->∀ H',Same H H'->Q .non H')/\∀ m H' dx,yf9 (reps cs) m->Same H H'->H' dx = none->E (.ref C) (some dx) (upd H' dx (.xd [("name",.str m)]))
def ym4 (C:Addr):Sp:=λvs H Q E=>∃ n:Nat,vs = [.int n]/\(n<=24->Q .non H)/\(24 < n->E (.ref C) none H)
def ym5 (C:Addr):Sp:=λvs H Q E=>∃ (b1 b2:Addr) (cs1 cs2:List Str),vs = [.ref b1,.ref b2]/\H b1 = some (.lst (cs1.map V.str))/\H b2 = some (.lst (cs2.map V.str))/\cs1.length<=10/\cs2.length<=10/\(cs1.Perm cs2->∀ H',Same H H'->Q .non H')/\(¬ cs1.Perm cs2->∀ H',Same H H'->E (.ref C) none H')
def yd5:Sp:=λvs H Q _=>∃ (na ca:Addr) (ns cs:List Str),vs = [.ref na,.ref ca]/\H na = some (.lst (ns.map V.str))/\H ca = some (.lst (cs.map V.str))/\(∀ n ∈ ns,n ∈ cs)/\Q .non H
def yu9:Sp:=λvs H Q _=>∃ (na:Addr) (ns:List Str),vs = [.ref na]/\H na = some (.lst (ns.map V.str))/\ns.Nodup/\ns.length<=10/\∀ H',Same H H'->Q .non H'
def zu1:Sp:=λvs H Q _=>∃ (na ca ra:Addr) (ns cs:List Str) (rs:List Int),vs = [.ref na,.ref ca,.ref ra]/\H na = some (.lst (ns.map V.str))/\H ca = some (.lst (cs.map V.str))/\H ra = some (.tup (rs.map V.int))/\rs.length = cs.length/\(∀ n ∈ ns,n ∈ cs)/\ns.length<=10 /\
  ∀ (t:Addr) (ys:List Int) (H':Hp),Same H H'->H' t = some (.tup (ys.map V.int))->ys.length = ns.length->(∀ y ∈ ys,y ∈ rs)->Q (.ref t) H'
theorem yk4 {ns:List Str} (nd:ns.Nodup) {i:Nat} {x:Str} (h:ns[i]? = some x):x ∉ ns.take i:=by
  obtain ⟨hi,e⟩:=List.getElem?_eq_some_iff.mp h
  have e2:ns = ns.take i ++ x :: ns.drop (i + 1):=by rw [<- e,<- List.drop_eq_getElem_cons hi,List.take_append_drop]
  rw [e2] at nd
  intro hx
  exact (List.nodup_append.mp nd).2.2 x hx x List.mem_cons_self rfl
theorem yo5 {x:Str}:∀ {cs:List Str},x ∈ cs->∃ j:Nat,cs[j]? = some x/\∀ (m:Nat) (z:Str),m < j->cs[m]? = some z->z ≠ x
  | [],h=>by cases h
  | c :: r,h=>by
    by_cases e:c = x
    · exact ⟨0,by simp [e],λm z hm=>absurd hm (Nat.not_lt_zero m)⟩
    · rcases List.mem_cons.mp h with h | h
      · exact absurd h.symm e
      obtain ⟨j,h1,h2⟩:=yo5 h
      refine ⟨j + 1,by simpa using h1,λm z hm hz=>?_⟩
      cases m with
      | zero=>simp at hz; exact λc=>e (hz.trans c)
      | succ m=>exact h2 m z (by omega) (by simpa using hz)
theorem xv8:(["name","columns","row"]:List Str).Nodup:=by decide +kernel
theorem xa0 {A:Around} {k:Nat} (hr:Room k A):A.units + 8 < cLine:=Nat.lt_of_le_of_lt (Nat.add_le_add_left (by decide:8<=64) _) hr.units
theorem zf4 {T:Cl} {H H':Hp} (k:Kp H H'):∀ {xs:List V} {rows:List Row},Paired (RowX T H H) xs rows->Paired (RowX T H' H') xs rows
  | _,_,.nil=>.nil
  | _,_,.cons ⟨a,rt,cv,e,h1,h2,h3⟩ r=>.cons ⟨a,rt,cv,e,k.tup _ _ h1,k.tup _ _ h2,h3.kp k⟩ (zf4 k r)
theorem IsB.kp {T:Cl} {BC:Addr} {H H':Hp} {b:Addr} {cs:List Str} {rows:List Row} {w:Cd} (k:Kp H H') (h:IsB T BC H b cs rows w):IsB T BC H' b cs rows w:=by
  obtain ⟨dx,tc,tr,tg,tv,cw,fs,xs,gs,vs,hb,hm,l1,h1,l2,h2,hP,l3,hC,l4,h4,g1,g2,g3,l5,h5,v1,v2,v3⟩:=h
  exact ⟨dx,tc,tr,tg,tv,cw,fs,xs,gs,vs,k.ins _ _ _ _ hb,hm,l1,k.tup _ _ h1,l2,k.tup _ _ h2,zf4 k hP,l3,hC.kp k,l4,k.tup _ _ h4,g1,g2,g3,l5,k.tup _ _ h5,v1,v2,v3⟩
section
variable {P:Program} {w:World} {K:W.Frag} {mg:Str->Option Value} {base:Heap} {f:Addr} {fd:FuncData} {T:Cl} {CC BC C:Addr}
theorem xu7:FnScope ["self","name"] ["self","name"] (za1 zq8):=⟨rfl,rfl,rfl,by decide +kernel,rfl,by decide +kernel,by decide +kernel⟩
theorem yw8 (F:Fun K "__init__" "Twice.__init__" zq8 f fd) (Z:ClsS K C "name"):FnOk P w K mg base CX0 1 f fd ["self","name"] (spEI C "name"):=by
  refine F.ok xu7 (λvs H Q E h=>?_) (λcdv A outer s H vs Q E hr h=>?_)
  · obtain ⟨e,x,rfl,_⟩:=h
    rfl
  obtain ⟨e,x,rfl,he,q⟩:=h
  refine ⟨_,za4 (xk4 rfl (pv 0) (pv 1)),?_⟩
  exact ⟨_,rfl,_,rfl,e,C,rfl,he,Z,λdx hdx=>q dx hdx⟩
theorem yr2 (Fn:Fun K "check_columns" "check_columns" zn9 f fd) (X:Txt mg) (Z:ExK P w K mg base "Twice" "name" C):FnOk P w K mg base (CXe P w) 3 f fd ["columns"] (zv4 C):=by
  obtain ⟨bm,newId,initId,Bn,fI,fdI,O,FB,G,bI,kp⟩:=Z.ex
  refine Fun.okX Fn scCC (λvs H Q E h=>?_) (λcdv A outer s H vs Q E hr h=>?_)
  · obtain ⟨tc,cs,rfl,_⟩:=h
    rfl
  obtain ⟨tc,cs,rfl,hc,hl,q1,q2⟩:=h
  refine ⟨_,za3 (PS.nox (zo7 (i:=1) ["name"] (caps:=[("columns",0)]) rfl scCC.nd rfl rfl (ze1 (pv 0)) ⟨rfl,by decide +kernel,by decide +kernel,rfl,.cons rfl (.inl rfl) rfl .nil,rfl,rfl,rfl⟩
      (λs H ex=>zb2 (X:=cxLG _ _ _ _ s H ex) (i:=0) ndC2 rfl (Or.inl rfl) (.inr rfl))
      (λs H ex=>zj2 (zb7 yw6 (xp5 (K:=K) rfl (zz2 PySem.F.plainAttrs_list PySem.F.slot_list_count PySem.F.type_list_count yy6 (pe_var (X:=cxLG _ _ _ _ s H ex) (i:=1) rfl (Or.inr (Or.inl rfl))) (za0 (pe_var (X:=cxLG _ _ _ _ s H ex) (i:=0) rfl (Or.inl rfl)) za2))) zb1 (zd0 _)))
      (λs H ex=>pe_var (X:=cxLG _ _ _ _ s H ex) (i:=0) rfl (Or.inl rfl)) rfl))
    (za4 (zg5 (yd8 (pv 1) (λ_=>rfl)) (za4 (yv9 O FB G bI kp hr rfl (za0 (zb4 (yf6 rfl) rfl X.min PyProof.Rows.boot_min (za0 (pv 1) za2)) za2))) zb8)),?_⟩
  refine ⟨_,rfl,tc,rfl,⟨_,SqL.of hc⟩,λD hD=>?_⟩
  refine ze3 (K:=K) (a:=tc) (xs:=cs.map V.str) (λi σ H2=>∃ (u:Option V),σ = [u,some (.ref tc)]/\Same H H2/\H2 D = some (.lst (((cs.take i).filter (yj4 cs)).map V.str)))
    ⟨none,rfl,same_new hD _,upd_same⟩ (λi σ H2 _ ⟨_,_,z,_⟩=>SqL.of (z _ _ hc)) ?_ ?_
  · rintro i v σ H2 hi ⟨u,rfl,s2,h2⟩
    obtain ⟨x,hxi,hxm,rfl⟩:=zp3 hi
    have hil:=(List.getElem?_eq_some_iff.mp hxi).1
    refine ⟨_,rfl,.inl ⟨rfl,_,SqL.of (s2 _ _ hc)⟩,_,rfl,tc,_,_,rfl,rfl,s2 _ _ hc,rfl,zf0 cs,_,_,rfl,rfl,_,rfl,?_⟩
    have e:decide ((((cs.map V.str).countP λz=>eqV z (.str x):Nat):Int) > 1) = yj4 cs x:=by
      unfold yj4
      rw [Bool.eq_iff_iff,decide_eq_true_iff,decide_eq_true_iff]
      omega
    rw [e]
    rw [zd6 hxi,List.filter_append]
    cases hv:yj4 cs x with
    | false=>
      refine iteF ⟨_,rfl,s2,?_⟩
      rw [List.filter_cons_of_neg (by rw [hv]; decide),List.filter_nil,List.append_nil]
      exact h2
    | true=>
      refine iteT ⟨_,rfl,_,h2,?_,_,rfl,zc4 s2 hD _,?_⟩
      · rw [List.length_map]
        have:=List.length_filter_le (yj4 cs) (cs.take i)
        rw [List.length_take] at this
        exact zb5 (by omega)
      · rw [upd_same,List.filter_cons_of_pos hv,List.filter_nil,List.map_append]; rfl
  · rintro σ H2 ⟨u,rfl,s2,h2⟩
    rw [List.length_map,List.take_length] at h2
    have h2':H2 D = some (.lst ((reps cs).map V.str)):=h2
    refine ⟨_,rfl,_,.inl ⟨_,SqL.of h2',rfl⟩,?_⟩
    cases hz:reps cs with
    | nil=>
      rw [hz] at q1
      exact iteF (q1 rfl H2 s2)
    | cons y r=>
      refine iteT ⟨_,rfl,D,reps cs,rfl,SqL.of h2',by rw [hz]; simp,λm hm1 hm2=>⟨_,rfl,λdx hdx=>?_⟩⟩
      exact q2 m H2 dx ⟨hm1,hm2⟩ s2 hdx
theorem scMn:FnScope ["rows"] ["rows"] (za1 yq2):=⟨rfl,rfl,rfl,by decide +kernel,rfl,by decide +kernel,by decide +kernel⟩
theorem xl8 (Fn:Fun K "check_many" "check_many" yq2 f fd) (Z:ExZ mg base "TooMany" C) (mM:∃ t,mg "MOST_ROWS" = some (.int 24 t)):FnOk P w K mg base (CXe P w) 1 f fd ["rows"] (ym4 C):=by
  obtain ⟨bm,newId,initId,Bn,O,FB⟩:=Z.ex
  obtain ⟨t,mM⟩:=mM
  refine Fun.okX Fn scMn (λvs H Q E h=>?_) (λcdv A outer s H vs Q E hr h=>?_)
  · obtain ⟨n,rfl,_⟩:=h
    rfl
  obtain ⟨n,rfl,q1,q2⟩:=h
  refine ⟨_,za4 (zg5 (zb7 yw6 (pv 0) (zj3 (v:=.int 24) rfl mM ⟨_,rfl⟩) (zd0 _)) (za4 (yh0 O FB rfl)) zb8),?_⟩
  refine ⟨_,rfl,_,_,rfl,rfl,_,rfl,?_⟩
  by_cases h:n<=24
  · exact zf7 (by rw [decide_eq_false_iff_not]; omega) (q1 h)
  · exact zm6 (by rw [decide_eq_true_iff]; omega) (q2 (by omega))
theorem scLk:FnScope ["columns","others"] ["columns","others"] (za1 yq3):=⟨rfl,rfl,rfl,by decide +kernel,rfl,by decide +kernel,by decide +kernel⟩
theorem bmc:("columns" : Str) ∈ zf3:=by unfold zf3; decide +kernel
theorem bmr:("rows" : Str) ∈ zf3:=by unfold zf3; decide +kernel
theorem bmw:("whole" : Str) ∈ zf3:=by unfold zf3; decide +kernel
theorem zc0 {H:Hp} {b:Addr} {cs:List Str} {rows:List Row} {wc:Cd} (h:IsB T BC H b cs rows wc):∃ dx fs,H b = some (.ins BC dx fs)/\∀ m ∈ zf3,fs.lookup m = none:=by
  obtain ⟨dx,tc,tr,tg,tv,cw,fs,xs,gs,vs,h1,h2,_⟩:=h.ex
  exact ⟨dx,fs,h1,h2⟩
theorem xl9 (Fn:Fun K "check_like" "check_like" yq3 f fd) (X:Txt mg) (Z:ExZ mg base "Unlike" C):FnOk P w K mg base (CXe P w) 1 f fd ["columns","others"] (ym5 C):=by
  obtain ⟨bm,newId,initId,Bn,O,FB⟩:=Z.ex
  refine Fun.okX Fn scLk (λvs H Q E h=>?_) (λcdv A outer s H vs Q E hr h=>?_)
  · obtain ⟨b1,b2,cs1,cs2,rfl,_⟩:=h
    rfl
  obtain ⟨b1,b2,cs1,cs2,rfl,h1,h2,l1,l2,q1,q2⟩:=h
  have hu8:=xa0 hr
  refine ⟨_,za4 (zg5 (zb7 (xi0 hu8) (zb4 ze4 rfl X.sorted PyProof.Rows.boot_sorted (za0 (pv 0) za2)) (zb4 ze4 rfl X.sorted PyProof.Rows.boot_sorted (za0 (pv 1) za2)) (zd0 _)) (za4 (yh0 O FB rfl)) zb8),?_⟩
  refine ⟨_,rfl,b1,cs1,rfl,SqL.of h1,by omega,λL2 ns1 hL2 p1 o1=>?_⟩
  have s2:=same_new hL2 (.lst (ns1.map V.str))
  have g2:=upd_same (H:=H) (a:=L2) (o:=.lst (ns1.map V.str))
  generalize upd H L2 (.lst (ns1.map V.str)) = H2 at s2 g2 ⊢
  refine ⟨_,rfl,b2,cs2,rfl,SqL.of (s2 _ _ h2),by omega,λL4 ns2 hL4 p2 o2=>?_⟩
  have s4:=same_new hL4 (.lst (ns2.map V.str))
  have g4:=upd_same (H:=H2) (a:=L4) (o:=.lst (ns2.map V.str))
  generalize upd H2 L4 (.lst (ns2.map V.str)) = H4 at s4 g4 ⊢
  have w4:=s2.trans s4
  refine ⟨L2,L4,_,_,rfl,rfl,SqL.of (s4 _ _ g2),SqL.of g4,zf0 _,zf0 _,_,rfl,?_⟩
  rw [zy0]
  by_cases hp:cs1.Perm cs2
  · have e:ns1 = ns2:=yk2 (p1.trans (hp.trans p2.symm)) (zl3 o1) (zl3 o2)
    exact zf7 (by simp [e]) (q1 hp H4 w4)
  · have e:ns1 ≠ ns2:=λe=>hp (p1.symm.trans (e ▸ p2))
    exact zm6 (by simp [e]) (q2 hp H4 w4)
theorem scCN:FnScope ["names","columns","name"] ["names","columns"] (za1 zr4):=⟨rfl,rfl,rfl,by decide +kernel,rfl,by decide +kernel,by decide +kernel⟩
theorem yx4 (Fn:Fun K "check_named" "check_named" zr4 f fd):FnOk P w K mg base CX0 1 f fd ["names","columns"] yd5:=by
  refine Fn.ok scCN (λvs H Q E h=>?_) (λcdv A outer s H vs Q E hr h=>?_)
  · obtain ⟨na,ca,ns,cs,rfl,_⟩:=h
    rfl
  obtain ⟨na,ca,ns,cs,rfl,hn,hc,hi,q⟩:=h
  refine ⟨_,za4 (zi6 PassesOwn.never rfl (ze1 (pv 0)) (zb2 (i:=2) scCN.nd rfl (Or.inl rfl))
      (za4 (zg5 (zb7 zt5 (pv 2) (pv 1) rfl) zi0 zb8))),?_⟩
  refine ⟨_,rfl,na,rfl,⟨_,SqL.of hn⟩,zn5 (K:=K) (a:=na) (xs:=ns.map V.str) (λi σ H2=>∃ (u:Option V),σ = [some (.ref na),some (.ref ca),u]/\H2 = H)
    ⟨none,rfl,rfl⟩ (λi σ H2 _ ⟨_,_,z⟩=>by rw [z]; exact SqL.of hn) ?_ ?_⟩
  · rintro i x σ H2 hx ⟨u,rfl,rfl⟩
    obtain ⟨n,hni,hnm,rfl⟩:=zp3 hx
    refine ⟨_,rfl,_,rfl,ca,_,rfl,.inl (SqL.of hc),rfl,zf0 cs,_,rfl,zf7 ?_ ⟨_,rfl,rfl⟩⟩
    show (!inV (.str n) (cs.map V.str)) = false
    rw [zs6,decide_eq_true (hi n hnm)]
    rfl
  · rintro σ H2 ⟨u,rfl,rfl⟩
    exact q
theorem scOn:FnScope ["names","place","name"] ["names"] (za1 yq0):=⟨rfl,rfl,rfl,by decide +kernel,rfl,by decide +kernel,by decide +kernel⟩
theorem xl6 (Fn:Fun K "check_once" "check_once" yq0 f fd) (X:Txt mg):FnOk P w K mg base CX0 1 f fd ["names"] yu9:=by
  refine Fn.ok scOn (λvs H Q E h=>?_) (λcdv A outer s H vs Q E hr h=>?_)
  · obtain ⟨na,ns,rfl,_⟩:=h
    rfl
  obtain ⟨na,ns,rfl,hn,nd,nl,q⟩:=h
  refine ⟨_,za4 (zi6 PassesOwn.never rfl (xk6 rfl X.range2 (za0 (pv 0) za2)) (zo9 rfl (zc1 (zb2 (i:=1) scOn.nd rfl (Or.inl rfl)) (zc1 (zb2 (i:=2) scOn.nd rfl (Or.inl rfl)) zg8)))
      (za4 (zg5 (zb7 zm2 (pv 2) (zi7 zl5 (pv 0) zm0 (zl9 (pv 1))) rfl) zi0 zb8))),?_⟩
  refine ⟨_,rfl,na,_,rfl,SqL.of hn,xg4 (K:=K) (a:=na) (xs:=ns.map V.str) (λi σ H2=>∃ (u1 u2:Option V),σ = [some (.ref na),u1,u2]/\Same H H2)
    ⟨none,none,rfl,Same.refl _⟩ (λi σ H2 _ ⟨_,_,_,z⟩=>SqL.of (z _ _ hn)) ?_ ?_⟩
  · rintro i x t0 σ H2 hi ht0 ⟨u1,u2,rfl,s2⟩
    obtain ⟨n,hni,hnm,rfl⟩:=zp3 hi
    have s3:=same_new ht0 (.tup [.int i,.str n])
    have h3:=upd_same (H:=H2) (a:=t0) (o:=.tup [.int i,.str n])
    generalize upd H2 t0 (.tup [.int i,.str n]) = H3 at s3 h3 ⊢
    have w3:=s2.trans s3
    refine ⟨t0,_,rfl,SqT.of h3,rfl,_,_,rfl,_,_,rfl,rfl,?_⟩
    refine ⟨_,rfl,_,rfl,_,rfl,_,rfl,na,_,rfl,SqL.of (w3 _ _ hn),λL hL=>?_⟩
    have s4:=same_new hL (.lst (cutV (ns.map V.str) none (some (i:Nat))))
    have h4:=upd_same (H:=H3) (a:=L) (o:=.lst (cutV (ns.map V.str) none (some (i:Nat))))
    generalize upd H3 L (.lst (cutV (ns.map V.str) none (some (i:Nat)))) = H4 at s4 h4 ⊢
    rw [xb3] at h4
    refine ⟨L,_,rfl,.inl (SqL.of h4),rfl,zf0 _,_,rfl,zf7 ?_ ⟨_,_,rfl,w3.trans s4⟩⟩
    show inV (.str n) ((ns.take i).map V.str) = false
    rw [zs6,decide_eq_false (yk4 nd hni)]
  · rintro σ H2 ⟨u1,u2,rfl,s2⟩
    exact q H2 s2
theorem scCe:FnScope ["names","columns","row"] ["names","columns","row"] (za1 zr6):=⟨rfl,rfl,rfl,by decide +kernel,rfl,by decide +kernel,by decide +kernel⟩
theorem yx7 (Fn:Fun K "cells_in" "cells_in" zr6 f fd) (X:Txt mg):FnOk P w K mg base CX0 1 f fd ["names","columns","row"] zu1:=by
  refine Fn.ok scCe (λvs H Q E h=>?_) (λcdv A outer s H vs Q E hr h=>?_)
  · obtain ⟨na,ca,ra,ns,cs,rs,rfl,_⟩:=h
    rfl
  obtain ⟨na,ca,ra,ns,cs,rs,rfl,hn,hc,hra,rl,hi,nl,q⟩:=h
  refine ⟨_,za4 (zb9 (zc5 zc8 rfl X.tuple PyProof.Rows.boot_tuple (za0
      (zh6 (caps:=[("columns",1),("row",2)]) ["name"] rfl (ze1 (pv 0)) ⟨rfl,by decide +kernel,by decide +kernel,rfl,.cons rfl (.inl rfl) rfl (.cons rfl (.inl rfl) rfl .nil),rfl,rfl,rfl⟩
        (λs H ex=>zb2 (X:=cxLG _ _ _ _ s H ex) (i:=0) xv8 rfl (Or.inl rfl) (.inr rfl)) (λs H ex=>zi1)
        (λs H ex=>ye0 (xn3 (K:=K) rfl) (pe_var (X:=cxLG _ _ _ _ s H ex) (i:=2) rfl (Or.inr (Or.inl rfl))) (xp5 (K:=K) rfl (zz2 PySem.F.plainAttrs_list PySem.F.slot_list_index PySem.F.type_list_index yy4 (pe_var (X:=cxLG _ _ _ _ s H ex) (i:=1) rfl (Or.inr (Or.inl rfl))) (za0 (pe_var (X:=cxLG _ _ _ _ s H ex) (i:=0) rfl (Or.inl rfl)) za2))) (λ_ _=>rfl))) za2))),?_⟩
  refine ⟨_,rfl,na,rfl,⟨_,SqL.of hn⟩,λD hD=>?_⟩
  refine ze3 (K:=K) (a:=na) (xs:=ns.map V.str) (λi σ H2=>∃ (u:Option V) (ys:List Int),σ = [u,some (.ref ca),some (.ref ra)]/\Same H H2/\H2 D = some (.lst (ys.map V.int))/\ys.length = i/\∀ y ∈ ys,y ∈ rs)
    ⟨none,[],rfl,same_new hD _,upd_same,rfl,λy h=>(nomatch h)⟩ (λi σ H2 _ ⟨_,_,_,z,_⟩=>SqL.of (z _ _ hn)) ?_ ?_
  · rintro i x σ H2 hx ⟨u,ys,rfl,s2,h2,yl,hy⟩
    obtain ⟨n,hni,hnm,rfl⟩:=zp3 hx
    have hil:=(List.getElem?_eq_some_iff.mp hni).1
    obtain ⟨j,hj,hno⟩:=yo5 (hi n hnm)
    have hjl:=(List.getElem?_eq_some_iff.mp hj).1
    have hrj:rs[j]? = some (rs[j]'(by omega)):=List.getElem?_eq_getElem (by omega)
    have hat:atI (rs.map V.int) (j:Nat) = some (.int (rs[j]'(by omega))):=zo3 (by rw [List.getElem?_map,hrj]; rfl)
    refine ⟨_,rfl,_,rfl,.inl ⟨rfl,_,SqL.of (s2 _ _ hc)⟩,_,rfl,ca,_,_,j,.str n,rfl,rfl,s2 _ _ hc,rfl,zf0 cs,by rw [List.getElem?_map,hj]; rfl,beq_self_eq_true n,λm z hm hz=>?_,?_⟩
    · obtain ⟨g,hg,_,rfl⟩:=zp3 hz
      have:=hno m g hm hg
      exact beq_eq_false_iff_ne.mpr this
    refine ⟨ra,_,_,_,rfl,rfl,SqT.of (s2 _ _ hra),hat,_,h2,zb5 (by rw [List.length_map]; omega),_,ys ++ [rs[j]'(by omega)],rfl,zc4 s2 hD _,by rw [upd_same,List.map_append]; rfl,by rw [List.length_append,yl]; rfl,λy h=>?_⟩
    rcases List.mem_append.mp h with h | h
    · exact hy y h
    · rw [show y = rs[j]'(by omega) by simpa using h]
      exact List.getElem_mem _
  · rintro σ H2 ⟨u,ys,rfl,s2,h2,yl,hy⟩
    rw [List.length_map] at yl
    refine ⟨D,_,rfl,.inl ⟨SqL.of h2,λt ht=>?_⟩⟩
    exact q t ys _ (s2.trans (same_new ht _)) upd_same yl hy
end
def GR (r:Row):Prop:=(∃ xs:List Int,r.1 = xs.map Sum.inl/\∀ x ∈ xs,0<=x/\x < 25)/\Emp r.2
def zw7:List Key:=(List.range 25).map λn=>Sum.inl ((n:Nat):Int)
theorem zn8 {rows:List Row} {wc:Cd} (h:∀ r ∈ rows,GR r) (hw:Emp wc):∀ k,AllC rows wc k->k ∈ zw7:=by
  rintro k (⟨r,hr,hk⟩ | hk)
  · obtain ⟨⟨xs,e,hx⟩,he⟩:=h r hr
    rcases hk with hk | hk
    · rw [e] at hk
      obtain ⟨x,hxm,rfl⟩:=List.mem_map.mp hk
      obtain ⟨h0,h1⟩:=hx x hxm
      obtain ⟨n,rfl⟩:=Int.eq_ofNat_of_zero_le h0
      exact List.mem_map.mpr ⟨n,List.mem_range.mpr (by omega),rfl⟩
    · rw [he.1] at hk
      cases hk
  · rw [hw.1] at hk
    cases hk
def Tb (T:Cl) (BC:Addr) (H:Hp) (b:Addr) (cs:List Str) (n:Nat):Prop:=∃ (rows:List Row) (wc:Cd),IsB T BC H b cs rows wc/\rows.length = n/\n<=24/\(∀ r ∈ rows,GR r/\r.1.length = cs.length)/\Emp wc/\cs.Nodup/\cs.length<=10
theorem Tb.kp {T:Cl} {BC:Addr} {H H':Hp} {b:Addr} {cs:List Str} {n:Nat} (k:Kp H H') (h:Tb T BC H b cs n):Tb T BC H' b cs n:=by
  obtain ⟨rows,wc,h1,h2⟩:=h
  exact ⟨rows,wc,h1.kp k,h2⟩
theorem zh0 {c:Cd} (h:cells c = []):zm4 c = true:=by
  unfold zm4
  rw [h]
  rfl
theorem ye6 {H:Hp} {D:Addr} {ys zs:List V} (h:H D = some (.lst ys)):Kp H (upd H D (.lst zs)):=
  ⟨λb xs hb=>by rw [za7 (λe=>by rw [e,h] at hb; cases hb)]; exact hb,λb C dx fs hb=>by rw [za7 (λe=>by rw [e,h] at hb; cases hb)]; exact hb⟩
theorem zo5 {r:Row} {xs:List Int} (e:r.1 = xs.map Sum.inl):r.1.map kV = xs.map V.int:=by
  rw [e,<- zs2]
def yj7 (T:Cl):Sp:=λvs H Q _=>∃ (ca ra:Addr) (xs:List Int) (ys:List V) (rows:List Row),vs = [.ref ca,.ref ra]/\H ca = some (.tup (xs.map V.int))/\H ra = some (.lst ys)/\Paired (RowX T H H) ys rows/\(∀ r ∈ rows,GR r/\r.1.length = xs.length)/\xs.length<=10/\rows.length<=30 /\
  ∀ v c H',Same H H'->IsC T H' c v->cells c = []->depth c<=1->Q v H'
def yg5 (T:Cl) (BC:Addr):Sp:=λvs H Q _=>∃ (b1 b2:Addr) (cs1 cs2:List Str) (n1 n2:Nat),vs = [.ref b1,.ref b2]/\Tb T BC H b1 cs1 n1/\Tb T BC H b2 cs2 n2/\∀ v c H',Same H H'->IsC T H' c v->cells c = []->depth c<=1->Q v H'
def yj6:Sp:=λvs H Q _=>∃ (na ca:Addr) (ns cs:List Str),vs = [.ref na,.ref ca]/\H na = some (.lst (ns.map V.str))/\H ca = some (.lst (cs.map V.str))/\(∀ n ∈ ns,n ∈ cs)/\ns.Nodup/\ns.length<=10/\∀ H',Same H H'->Q .non H'
def zt8 (T:Cl) (BC:Addr):Sp:=λvs H Q _=>∃ (b na:Addr) (cs ns:List Str) (n:Nat),vs = [.ref b,.ref na]/\Tb T BC H b cs n/\H na = some (.lst (ns.map V.str))/\ns.Nodup/\ns.length<=10/\(∀ x ∈ ns,x ∈ cs)/\∀ b' H',Same H H'->Tb T BC H' b' ns n->Q (.ref b') H'
theorem ndF:(["others","cond","cells"]:List Str).Nodup:=by decide +kernel
theorem ndNw:(["cells","cond","names","columns"]:List Str).Nodup:=by decide +kernel
theorem zl7 {T:Cl} {H:Hp}:∀ {xs:List V} {rows:List Row},Paired (RowX T H H) xs rows->Paired (RowI T H) xs rows
  | _,_,.nil=>.nil
  | _,_,.cons ⟨a,rt,cv,e,h1,h2,h3⟩ r=>.cons ⟨a,rt,cv,e,h1,.inr h2,h3⟩ (zl7 r)
theorem yz6 {T:Cl} {H:Hp} {c d:Cd} {x y:V} (h1:IsC T H c x) (h2:IsC T H d y):IsL T H [c,d] [x,y]:=by
  simp only [CD.IsL]
  exact ⟨x,[y],rfl,h1,y,[],rfl,h2,rfl⟩
section
variable {P:Program} {w:World} {K:W.Frag} {mg:Str->Option Value} {base:Heap} {f:Addr} {fd:FuncData} {T:Cl} {CC BC C:Addr}
theorem scFo:FnScope ["cells","rows"] ["cells","rows"] (za1 ya7):=⟨rfl,rfl,rfl,by decide +kernel,rfl,by decide +kernel,by decide +kernel⟩
theorem xe3 (Fn:Fun K "found_among" "found_among" ya7 f fd) (C1:Cal P w K mg base "one_of" 44 ["parts"] (zo4 T)) (C2:Cal P w K mg base "all_of" 44 ["parts"] (zo4 T)) (C3:Cal P w K mg base "same_cells" 44 ["cells","others"] (yc9 T)):FnOk P w K mg base CX0 45 f fd ["cells","rows"] (yj7 T):=by
  obtain ⟨f1,d1,G1,b1,k1,m1⟩:=C1
  obtain ⟨f2,d2,G2,b2,k2,m2⟩:=C2
  obtain ⟨f3,d3,G3,b3,k3,m3⟩:=C3
  refine Fn.ok (k:=44) scFo (λvs H Q E h=>?_) (λcdv A outer s H vs Q E hr h=>?_)
  · obtain ⟨ca,ra,xs,ys,rows,rfl,_⟩:=h
    rfl
  obtain ⟨ca,ra,xs,ys,rows,rfl,hca,hra,hP,hG,x10,rl,q⟩:=h
  have len:=plen hP
  refine ⟨_,za4 (zb9 (za9 G1 hr rfl m1 k1 b1 .nil zb0 (za0
      (zh6 (caps:=[("cells",0)]) ["others","cond"] rfl (ze1 (pv 1)) ⟨rfl,by decide +kernel,by decide +kernel,rfl,.cons rfl (.inl rfl) rfl .nil,rfl,rfl,rfl⟩
        (λs H ex=>zw8 (K:=K) (n:=2) rfl rfl (zc1 (zb2 (X:=cxLG _ _ _ _ s H ex) (i:=0) ndF rfl (Or.inl rfl) (.inr rfl)) (zc1 (zb2 (X:=cxLG _ _ _ _ s H ex) (i:=1) ndF rfl (Or.inl rfl) (.inr rfl)) zg8))) (λs H ex=>zi1)
        (λs H ex=>za9 (X:=cxLG _ _ _ _ s H ex) G2 hr rfl m2 k2 b2 .nil zb0 (za0 (zc9 zm3 (za9 (X:=cxLG _ _ _ _ s H ex) G3 hr rfl m3 k3 b3 .nil zb0 (za0 (pe_var (X:=cxLG _ _ _ _ s H ex) (i:=2) rfl (Or.inr (Or.inl rfl))) (za0 (pe_var (X:=cxLG _ _ _ _ s H ex) (i:=0) rfl (Or.inl rfl)) za2)))
          (ze7 (za0 (pe_var (X:=cxLG _ _ _ _ s H ex) (i:=1) rfl (Or.inl rfl)) za2))) za2))) za2))),?_⟩
  refine ⟨_,rfl,ra,rfl,⟨_,SqL.of hra⟩,λD hD=>?_⟩
  refine ze3 (K:=K) (a:=ra) (xs:=ys) (λi σ H2=>∃ (u1 u2:Option V) (zs:List V) (l:List Cd),σ = [u1,u2,some (.ref ca)]/\Same H H2/\H2 D = some (.lst zs)/\IsL T H2 l zs/\(∀ c ∈ l,zm4 c = true)/\l.length = i)
    ⟨none,none,[],[],rfl,same_new hD _,upd_same,rfl,λc h=>(nomatch h),rfl⟩ (λi σ H2 _ ⟨_,_,_,_,_,z,_⟩=>SqL.of (z _ _ hra)) ?_ ?_
  · rintro i x σ H2 hi ⟨u1,u2,zs,l,rfl,s2,h2,hL,hng,ll⟩
    obtain ⟨r,hri,a,rt,cv,rfl,ha,hrt,hC⟩:=pget hP hi
    have hil:=(List.getElem?_eq_some_iff.mp hri).1
    obtain ⟨⟨⟨ns,en,_⟩,he⟩,hw⟩:=hG r (List.mem_of_getElem? hri)
    have hnl:xs.length = ns.length:=by rw [<- hw,en,List.length_map]
    rw [zo5 en] at hrt
    refine ⟨a,_,rfl,SqT.of (s2 _ _ ha),rfl,_,_,rfl,_,_,rfl,rfl,?_⟩
    refine ⟨_,rfl,_,rfl,ca,rt,xs,ns,rfl,s2 _ _ hca,s2 _ _ hrt,hnl,x10,λL zs1 l1 H3 s3 hL0 h3 hL3 ng3 l3=>?_⟩
    refine ⟨_,rfl,zb6 (by simp),λL2 hL2=>?_⟩
    have s4:=same_new hL2 (.lst [cv])
    have h4:=upd_same (H:=H3) (a:=L2) (o:=.lst [cv])
    generalize upd H3 L2 (.lst [cv]) = H4 at s4 h4 ⊢
    have zl1:=zg4 hL3
    refine ⟨L,L2,_,_,rfl,rfl,s4 _ _ h3,h4,zb6 (by simp; omega),λL3 hL3'=>?_⟩
    have s5:=same_new hL3' (.lst (zs1 ++ [cv]))
    have h5:=upd_same (H:=H4) (a:=L3) (o:=.lst (zs1 ++ [cv]))
    generalize upd H4 L3 (.lst (zs1 ++ [cv])) = H5 at s5 h5 ⊢
    have w5:=s3.trans (s4.trans s5)
    refine ⟨L3,_,l1 ++ [r.2],rfl,h5,zi9 (hL3.kp (.of (s4.trans s5))) (hC.kp (.of (s2.trans w5))),by rw [List.length_append]; simp; omega,λc hc=>?_,λv c H6 s6 hC6 e6 d6=>?_⟩
    · rcases List.mem_append.mp hc with hc | hc
      · exact ng3 c hc
      · rw [show c = r.2 by simpa using hc]
        exact zh0 he.1
    have w6:=w5.trans s6
    have h6:=w6 _ _ h2
    have zl:=zg4 hL
    refine ⟨zs,h6,zb5 (by omega),_,_,zs ++ [v],l ++ [c],rfl,zc4 (s2.trans w6) hD _,upd_same,(zi9 (hL.kp (.of w6)) hC6).kp (ye6 h6),λd hd=>?_,by rw [List.length_append,ll]; rfl⟩
    rcases List.mem_append.mp hd with hd | hd
    · exact hng d hd
    · rw [show d = c by simpa using hd]
      exact zh0 e6
  · rintro σ H2 ⟨u1,u2,zs,l,rfl,s2,h2,hL,hng,ll⟩
    exact ⟨D,zs,l,rfl,h2,hL,by omega,hng,λv c H3 s3 hC e d=>q v c H3 (s2.trans s3) hC e d⟩
theorem scBo:FnScope ["one","other"] ["one","other"] (za1 yq7):=⟨rfl,rfl,rfl,by decide +kernel,rfl,by decide +kernel,by decide +kernel⟩
theorem xm3 (Fn:Fun K "both_wholes" "both_wholes" yq7 f fd) (C1:Cal P w K mg base "all_of" 44 ["parts"] (zo4 T)) (FW:Fam P w K mg base CX0 1 (· = BC) "whole" ["self"] (λ_=>zu3 T BC)):FnOk P w K mg base CX0 45 f fd ["one","other"] (yg5 T BC):=by
  obtain ⟨f1,d1,G1,b1,k1,m1⟩:=C1
  refine Fn.ok (k:=44) scBo (λvs H Q E h=>?_) (λcdv A outer s H vs Q E hr h=>?_)
  · obtain ⟨b1,b2,cs1,cs2,n1,n2,rfl,_⟩:=h
    rfl
  obtain ⟨o1,o2,cs1,cs2,n1,n2,rfl,⟨r1,w1,hB1,_,_,_,e1,_⟩,⟨r2,w2,hB2,_,_,_,e2,_⟩,q⟩:=h
  have hr1:Room 1 _:=hr.mono (by decide)
  refine ⟨_,za4 (zb9 (za9 G1 hr rfl m1 k1 b1 .nil zb0 (za0 (ze7 (za0 (za8 (pv 0) FW hr1 zb0) (za0 (za8 (pv 1) FW hr1 zb0) za2))) za2))),?_⟩
  obtain ⟨dx1,fs1,h1,hm1⟩:=zc0 hB1
  obtain ⟨dx2,fs2,h2,hm2⟩:=zc0 hB2
  refine ⟨_,rfl,o1,BC,dx1,fs1,rfl,h1,rfl,hm1 _ bmw,o1,cs1,r1,w1,rfl,hB1,λc1 hc1=>?_⟩
  refine ⟨_,rfl,o2,BC,dx2,fs2,rfl,h2,rfl,hm2 _ bmw,o2,cs2,r2,w2,rfl,hB2,λc2 hc2=>⟨zb6 (by simp),λL hL=>?_⟩⟩
  have s1:=same_new hL (.lst [c1,c2])
  refine ⟨L,_,[w1,w2],rfl,upd_same,yz6 (hc1.kp (.of s1)) (hc2.kp (.of s1)),(by show 2<=100; decide),λc hc=>?_,λv c H' s' hC e d=>q v c H' (s1.trans s') hC e d⟩
  rcases List.mem_cons.mp hc with rfl | hc
  · exact zh0 e1.1
  · rw [show c = w2 by simpa using hc]
    exact zh0 e2.1
theorem scNd:FnScope ["names","columns"] ["names","columns"] (za1 zn1):=⟨rfl,rfl,rfl,by decide +kernel,rfl,by decide +kernel,by decide +kernel⟩
theorem xd9 (Fn:Fun K "check_narrowed" "check_narrowed" zn1 f fd) (C1:Cal P w K mg base "check_named" 1 ["names","columns"] yd5) (C2:Cal P w K mg base "check_once" 1 ["names"] yu9):FnOk P w K mg base CX0 2 f fd ["names","columns"] yj6:=by
  obtain ⟨f1,d1,G1,b1,k1,m1⟩:=C1
  obtain ⟨f2,d2,G2,b2,k2,m2⟩:=C2
  refine Fn.ok (k:=1) scNd (λvs H Q E h=>?_) (λcdv A outer s H vs Q E hr h=>?_)
  · obtain ⟨na,ca,ns,cs,rfl,_⟩:=h
    rfl
  obtain ⟨na,ca,ns,cs,rfl,hna,hca,hsub,nnd,n10,q⟩:=h
  refine ⟨_,za3 (zd3 (za9 G1 hr rfl m1 k1 b1 .nil zb0 (za0 (pv 0) (za0 (pv 1) za2))))
    (za4 (zd3 (za9 G2 hr rfl m2 k2 b2 .nil zb0 (za0 (pv 0) za2)))),?_⟩
  refine ⟨_,rfl,_,rfl,na,ca,ns,cs,rfl,hna,hca,hsub,?_⟩
  exact ⟨_,rfl,na,ns,rfl,hna,nnd,n10,λH2 s2=>q H2 s2⟩
theorem scNw:FnScope ["table","names","columns","rows"] ["table","names"] (za1 zr2):=⟨rfl,rfl,rfl,by decide +kernel,rfl,by decide +kernel,by decide +kernel⟩
theorem yx2 (Fn:Fun K "narrowed" "narrowed" zr2 f fd) (FC:Fam P w K mg base CX0 1 (· = BC) "columns" ["self"] (λ_=>zl2 T BC)) (FR:Fam P w K mg base CX0 1 (· = BC) "rows" ["self"] (λ_=>zh2 T BC)) (FW:Fam P w K mg base CX0 1 (· = BC) "whole" ["self"] (λ_=>zu3 T BC))
    (C1:Cal P w K mg base "check_narrowed" 2 ["names","columns"] yj6) (C3:Cal P w K mg base "cells_in" 1 ["names","columns","row"] zu1) (MB:MkC P w K mg base "Table" BC 44 ["self","columns","rows","whole"] (spBI T BC)):FnOk P w K mg base CX0 46 f fd ["table","names"] (zt8 T BC):=by
  obtain ⟨f1,d1,G1,b1,k1,m1⟩:=C1
  obtain ⟨f3,d3,G3,b3,k3,m3⟩:=C3
  obtain ⟨f4,d4,mk4,G4,b4,m4⟩:=MB
  refine Fn.ok (k:=45) scNw (λvs H Q E h=>?_) (λcdv A outer s H vs Q E hr h=>?_)
  · obtain ⟨b,na,cs,ns,n,rfl,_⟩:=h
    rfl
  obtain ⟨b,na,cs,ns,n,rfl,⟨rows,wc,hB,rn,n24,hG,ew,cnd,c10⟩,hna,nnd,n10,hsub,q⟩:=h
  have hr1:Room 1 _:=hr.mono (by decide)
  have hr2:Room 2 _:=hr.mono (by decide)
  refine ⟨_,za3 (zc7 (i:=2) scNw.nd rfl (Or.inr rfl) (za8 (pv 0) FC hr1 zb0))
    (za3 (zd3 (za9 G1 hr2 rfl m1 k1 b1 .nil zb0 (za0 (pv 1) (za0 (pv 2) za2))))
    (za3 (zo7 (i:=3) ["cells","cond"] (caps:=[("names",1),("columns",2)]) rfl scNw.nd rfl rfl (ze1 (za8 (pv 0) FR hr1 zb0)) ⟨rfl,by decide +kernel,by decide +kernel,rfl,.cons rfl (.inl rfl) rfl (.cons rfl (.inl rfl) rfl .nil),rfl,rfl,rfl⟩
        (λs H ex=>zw8 (K:=K) (n:=2) rfl rfl (zc1 (zb2 (X:=cxLG _ _ _ _ s H ex) (i:=0) ndNw rfl (Or.inl rfl) (.inr rfl)) (zc1 (zb2 (X:=cxLG _ _ _ _ s H ex) (i:=1) ndNw rfl (Or.inl rfl) (.inr rfl)) zg8))) (λs H ex=>zi1)
        (λs H ex=>zg3 (za0 (za9 (X:=cxLG _ _ _ _ s H ex) G3 hr1 rfl m3 k3 b3 .nil zb0 (za0 (pe_var (X:=cxLG _ _ _ _ s H ex) (i:=2) rfl (Or.inr (Or.inl rfl))) (za0 (pe_var (X:=cxLG _ _ _ _ s H ex) (i:=3) rfl (Or.inr (Or.inl rfl))) (za0 (pe_var (X:=cxLG _ _ _ _ s H ex) (i:=0) rfl (Or.inl rfl)) za2)))) (za0 (pe_var (X:=cxLG _ _ _ _ s H ex) (i:=1) rfl (Or.inl rfl)) za2))) rfl)
    (za4 (zb9 (zf9 mk4 G4 hr rfl m4 b4 .nil zb0 (za0 (pv 1) (za0 (pv 3) (za0 (za8 (pv 0) FW hr1 zb0) za2)))))))),?_⟩
  obtain ⟨dx,fs,hb,hm⟩:=zc0 hB
  refine ⟨_,rfl,b,BC,dx,fs,rfl,hb,rfl,hm _ bmc,b,cs,rows,wc,rfl,hB,λL1 hL1=>?_⟩
  have s1:=same_new hL1 (.lst (cs.map V.str))
  have g1:=upd_same (H:=H) (a:=L1) (o:=.lst (cs.map V.str))
  generalize upd H L1 (.lst (cs.map V.str)) = H1 at s1 g1 ⊢
  refine ⟨_,rfl,_,rfl,na,L1,ns,cs,rfl,s1 _ _ hna,g1,hsub,nnd,n10,λH2 s2=>?_⟩
  have w2:=s1.trans s2
  have hB2:=hB.kp (.of w2)
  refine ⟨_,rfl,b,BC,dx,fs,rfl,w2 _ _ hb,rfl,hm _ bmr,b,cs,rows,wc,rfl,hB2,λL3 xs hL3 hP=>?_⟩
  have s3:=same_new hL3 (.lst xs)
  have g3:=upd_same (H:=H2) (a:=L3) (o:=.lst xs)
  generalize upd H2 L3 (.lst xs) = H3 at s3 g3 ⊢
  have w3:=w2.trans s3
  have hna3:=w3 _ _ hna
  have hc3:=(s2.trans s3) _ _ g1
  have len:=plen hP
  refine ⟨L3,rfl,⟨_,SqL.of g3⟩,λD hD=>?_⟩
  refine ze3 (K:=K) (a:=L3) (xs:=xs) (λi σ H4=>∃ (u1 u2:Option V) (zs:List V) (rows':List Row),σ = [u1,u2,some (.ref na),some (.ref L1)]/\Same H3 H4/\H4 D = some (.lst zs)/\Paired (RowX T H4 H4) zs rows'/\rows'.length = i/\∀ r ∈ rows',GR r/\r.1.length = ns.length)
    ⟨none,none,[],[],rfl,same_new hD _,upd_same,.nil,rfl,λc h=>(nomatch h)⟩ (λi σ H4 _ ⟨_,_,_,_,_,z,_⟩=>SqL.of (z _ _ g3)) ?_ ?_
  · rintro i x σ H4 hi ⟨u1,u2,zs,rows',rfl,s4,h4,hP4,ll,hG4⟩
    obtain ⟨r,hri,a,rt,cv,rfl,ha,hrt,hC⟩:=pget hP hi
    have hil:=(List.getElem?_eq_some_iff.mp hri).1
    obtain ⟨⟨⟨is_,en,hbd⟩,he⟩,hw⟩:=hG r (List.mem_of_getElem? hri)
    have hnl:is_.length = cs.length:=by rw [<- hw,en,List.length_map]
    rw [zo5 en] at hrt
    have w4:=s3.trans s4
    refine ⟨a,_,rfl,SqT.of (w4 _ _ ha),rfl,_,_,rfl,_,_,rfl,rfl,?_⟩
    refine ⟨_,rfl,_,rfl,_,rfl,na,L1,rt,ns,cs,is_,rfl,s4 _ _ hna3,s4 _ _ hc3,w4 _ _ hrt,hnl,hsub,n10,λt ys H5 s5 h5 yl hy=>?_⟩
    refine ⟨_,rfl,zb6 (by simp),λt2 ht2=>?_⟩
    have s6:=same_new ht2 (.tup [.ref t,cv])
    have h6:=upd_same (H:=H5) (a:=t2) (o:=.tup [.ref t,cv])
    generalize upd H5 t2 (.tup [.ref t,cv]) = H6 at s6 h6 ⊢
    have w6:=s5.trans s6
    have h6D:=w6 _ _ h4
    have zl:=plen hP4
    have kD:=ye6 (zs:=zs ++ [.ref t2]) h6D
    have hC6:=hC.kp (.of (w4.trans w6))
    refine ⟨zs,h6D,zb5 (by omega),_,_,zs ++ [.ref t2],rows' ++ [(ys.map Sum.inl,r.2)],rfl,zc4 (s4.trans w6) hD _,upd_same,yk1 (zf4 kD (zf4 (.of w6) hP4)) ⟨t2,t,cv,rfl,kD.tup _ _ h6,kD.tup _ _ ?_,hC6.kp kD⟩,by rw [List.length_append,ll]; rfl,λr' hr'=>?_⟩
    · rw [<- zs2]
      exact s6 _ _ h5
    · rcases List.mem_append.mp hr' with hr' | hr'
      · exact hG4 r' hr'
      · rw [show r' = (ys.map Sum.inl,r.2) by simpa using hr']
        exact ⟨⟨⟨ys,rfl,λy hy'=>hbd y (hy y hy')⟩,he⟩,by show (ys.map Sum.inl).length = _; rw [List.length_map,yl]⟩
  rintro σ H4 ⟨u1,u2,zs,rows',rfl,s4,h4,hP4,ll,hG4⟩
  have w4:=w3.trans s4
  have hB4:=hB.kp (.of w4)
  refine ⟨_,rfl,_,rfl,_,rfl,b,BC,dx,fs,rfl,w4 _ _ hb,rfl,hm _ bmw,b,cs,rows,wc,rfl,hB4,λcw hcw=>λy dy hy hdy ney=>?_⟩
  have ms:=ze8 (C:=BC) hy hdy
  refine ⟨y,dy,na,D,cw,ns,zs,rows',wc,zw7,H4,rfl,upd_same,ms,hy,w4 _ _ hna,nnd,n10,h4,zl7 hP4,λr hr'=>(hG4 r hr').2,by omega,.inr hcw,by decide,zn8 (λr hr'=>(hG4 r hr').1) ew,λH5 kb hB5=>⟨rfl,?_⟩⟩
  exact q y H5 (w4.trans (kb.same ms hy)) ⟨rows',wc,hB5,by omega,n24,hG4,ew,nnd,n10⟩
end
end K55
namespace L2
open PySem PySem.Spec PyProof.Rows
section
variable {X:Cx}
def xv0:R2:=λx y H Q=>∃ a b xs ys,x = .ref a/\y = .ref b/\H a = some (.tup xs)/\H b = some (.tup ys)/\xs.length + ys.length<=sizeLine/\∀ p H',(∀ c o,H c = some o->H' c = some o)->H' p = some (.tup (xs ++ ys))->Q (.ref p) H'
theorem xl4:OpR X (binaryOp .Add) xv0:=by
  intro pins s σ H x y v u Q I rx ry h
  obtain ⟨a,b,xs,ys,rfl,rfl,ha,hb,hz,q⟩:=h
  by_cases hx:xs = []
  · subst hx
    cases rx
    cases ry
    obtain ⟨its,r1,p1,_⟩:=I.tuple (SqT.of ha)
    obtain ⟨its2,r2,p2,_⟩:=I.tuple (SqT.of hb)
    cases r1
    obtain ⟨⟨cls,dd,data,sl⟩,ho,hc,n,hd⟩:=id p1
    obtain ⟨⟨cls2,dd2,data2,sl2⟩,ho2,hc2,n2,hd2⟩:=id p2
    simp only at hc hd hc2 hd2
    subst hc hd hc2 hd2
    exact concat_meets ⟨_,ho,rfl⟩ ⟨_,ho2,rfl⟩ noFill_tuple_add seq_tuple_add PySem.F.slot_tuple_add PySem.F.entry_tuple_add (PySem.F.args_tuple_add_2 _ _)
      (tuple_addW0 a b #[] its2.toArray n n2 dd dd2 sl sl2 rfl) ⟨ho,ho2,⟨.ref b,H,I,rfl,q b H (λ_ _ h=>h) hb⟩⟩
  · exact xl3 pins s σ H _ _ _ _ Q I rx ry ⟨a,b,xs,ys,rfl,rfl,SqT.of ha,SqT.of hb,hx,hz,λe=>q a H (λ_ _ h=>h) (by rw [e,List.append_nil]; exact ha),λe p hp=>q p _ (λc o hc=>by rw [za7 (λe'=>by rw [e',hp] at hc; cases hc)]; exact hc) upd_same⟩
end
end L2
namespace K55
open PySem L2 CD
def yd1 (T:Cl) (BC:Addr):Sp:=λvs H Q _=>∃ (b1 b2 sa fa:Addr) (cs1 cs2 ss fs:List Str) (n1 n2:Nat),vs = [.ref b1,.ref b2,.ref sa,.ref fa]/\Tb T BC H b1 cs1 n1/\Tb T BC H b2 cs2 n2/\H sa = some (.lst (ss.map V.str))/\H fa = some (.lst (fs.map V.str))/\(∀ x ∈ ss,x ∈ cs1)/\(∀ x ∈ ss,x ∈ cs2)/\(∀ x ∈ fs,x ∈ cs2)/\ss.length<=10/\fs.length<=10/\n1 * n2<=24 /\
  ∀ (l:Addr) (xs:List V) (rows:List Row) (H':Hp),Same H H'->H' l = some (.lst xs)->Paired (RowX T H' H') xs rows->rows.length = n1 * n2->(∀ r ∈ rows,GR r/\r.1.length = cs1.length + fs.length)->Q (.ref l) H'
abbrev nmP:List Str:=["one","other","shared","further","rows","cells","cond","left","others","other_cond","sames","added"]
theorem zb3.kp {D:Addr} {H H':Hp} {ys:List V} (k:zb3 D H H') (h:H D = some (.lst ys)):Kp H H':=
  ⟨λb xs hb=>k _ _ (λe=>by rw [e,h] at hb; cases hb) hb,λb C dx fs hb=>k _ _ (λe=>by rw [e,h] at hb; cases hb) hb⟩
theorem xr6 {i j n m:Nat} (hi:i < n) (hj:j < m) (h:n * m<=24):i * m + j < 24:=by
  have:(i + 1) * m<=n * m:=Nat.mul_le_mul_right m hi
  rw [Nat.add_mul,Nat.one_mul] at this
  omega
section
variable {P:Program} {w:World} {K:W.Frag} {mg:Str->Option Value} {base:Heap} {f:Addr} {fd:FuncData} {T:Cl} {CC BC C:Addr}
theorem scPr:FnScope nmP ["one","other","shared","further"] (za1 zr0):=⟨rfl,rfl,rfl,by decide +kernel,rfl,by decide +kernel,by decide +kernel⟩
theorem yx0 (Fn:Fun K "paired" "paired" zr0 f fd) (FC:Fam P w K mg base CX0 1 (· = BC) "columns" ["self"] (λ_=>zl2 T BC)) (FR:Fam P w K mg base CX0 1 (· = BC) "rows" ["self"] (λ_=>zh2 T BC))
    (C1:Cal P w K mg base "cells_in" 1 ["names","columns","row"] zu1) (C2:Cal P w K mg base "all_of" 44 ["parts"] (zo4 T)) (C3:Cal P w K mg base "same_cells" 44 ["cells","others"] (yc9 T)):FnOk P w K mg base CX0 45 f fd ["one","other","shared","further"] (yd1 T BC):=by
  obtain ⟨f1,d1,G1,b1,k1,m1⟩:=C1
  obtain ⟨f2,d2,G2,b2,k2,m2⟩:=C2
  obtain ⟨f3,d3,G3,b3,k3,m3⟩:=C3
  refine Fn.ok (k:=44) scPr (λvs H Q E h=>?_) (λcdv A outer s H vs Q E hr h=>?_)
  · obtain ⟨b1,b2,sa,fa,cs1,cs2,ss,fs,n1,n2,rfl,_⟩:=h
    rfl
  obtain ⟨o1,o2,sa,fa,cs1,cs2,ss,fs,n1,n2,rfl,⟨rows1,w1,hB1,rn1,_,hG1,_,_,c101⟩,⟨rows2,w2,hB2,rn2,_,hG2,_,_,c102⟩,hsa,hfa,s1',s2',f2',s10,f10,nn,q⟩:=h
  have hr1:Room 1 _:=hr.mono (by decide)
  refine ⟨_,za3 (zc7 (i:=4) scPr.nd rfl (Or.inl rfl) (ze7 za2))
    (za3 (zi6 PassesOwn.never rfl (ze1 (za8 (pv 0) FR hr1 zb0)) (zo9 rfl (zc1 (zb2 (i:=5) scPr.nd rfl (Or.inl rfl)) (zc1 (zb2 (i:=6) scPr.nd rfl (Or.inl rfl)) zg8)))
      (za3 (zc7 (i:=7) scPr.nd rfl (Or.inl rfl) (za9 G1 hr1 rfl m1 k1 b1 .nil zb0 (za0 (pv 2) (za0 (za8 (pv 0) FC hr1 zb0) (za0 (pv 5) za2)))))
      (za4 (zi6 PassesOwn.never rfl (ze1 (za8 (pv 1) FR hr1 zb0)) (zo9 rfl (zc1 (zb2 (i:=8) scPr.nd rfl (Or.inl rfl)) (zc1 (zb2 (i:=9) scPr.nd rfl (Or.inl rfl)) zg8)))
        (za3 (zc7 (i:=10) scPr.nd rfl (Or.inl rfl) (za9 G3 hr rfl m3 k3 b3 .nil zb0 (za0 (pv 7) (za0 (za9 G1 hr1 rfl m1 k1 b1 .nil zb0 (za0 (pv 2) (za0 (za8 (pv 1) FC hr1 zb0) (za0 (pv 8) za2)))) za2))))
        (za3 (zc7 (i:=11) scPr.nd rfl (Or.inl rfl) (za9 G1 hr1 rfl m1 k1 b1 .nil zb0 (za0 (pv 3) (za0 (za8 (pv 1) FC hr1 zb0) (za0 (pv 8) za2)))))
        (za4 (zd3 (zz2 PySem.F.plainAttrs_list PySem.F.slot_list_append PySem.F.type_list_append zp5 (pv 4) (za0 (zg3 (za0 (zc9 xl4 (pv 5) (pv 11)) (za0 (za9 G2 hr rfl m2 k2 b2 .nil zb0 (za0 (zc9 zm3 (pv 10) (ze7 (za0 (pv 6) (za0 (pv 9) za2)))) za2)) za2))) za2))))))))))
    (za4 (zb9 (pv 4)))),?_⟩
  refine ⟨zb6 (by simp),λD hD=>?_⟩
  have s1:=same_new hD (.lst [])
  have h1:=upd_same (H:=H) (a:=D) (o:=.lst [])
  generalize upd H D (.lst []) = H1 at s1 h1 ⊢
  have hB1a:=hB1.kp (.of s1)
  obtain ⟨dx1,fs1,hb1,hm1⟩:=zc0 hB1a
  refine ⟨_,rfl,o1,BC,dx1,fs1,rfl,hb1,rfl,hm1 _ bmr,o1,cs1,rows1,w1,rfl,hB1a,λL1 xs1 hL1 hP1=>?_⟩
  have s2:=same_new hL1 (.lst xs1)
  have h2:=upd_same (H:=H1) (a:=L1) (o:=.lst xs1)
  have nL1:L1 ≠ D:=λe=>by rw [e,h1] at hL1; cases hL1
  generalize upd H1 L1 (.lst xs1) = H2 at s2 h2 ⊢
  have w2':=s1.trans s2
  have h2D:=s2 _ _ h1
  have len1:=plen hP1
  refine ⟨L1,rfl,⟨_,SqL.of h2⟩,zn5 (K:=K) (a:=L1) (xs:=xs1) (λi σ H3=>∃ (u5 u6 u7 u8 u9 u10 u11:Option V) (zs:List V) (rows:List Row),σ = [some (.ref o1),some (.ref o2),some (.ref sa),some (.ref fa),some (.ref D),u5,u6,u7,u8,u9,u10,u11]/\zb3 D H2 H3/\H3 D = some (.lst zs)/\Paired (RowX T H3 H3) zs rows/\rows.length = i * n2/\∀ r ∈ rows,GR r/\r.1.length = cs1.length + fs.length)
    ⟨none,none,none,none,none,none,none,[],[],rfl,zb3.refl _ _,h2D,.nil,by simp,λr h=>(nomatch h)⟩ (λi σ H3 _ ⟨_,_,_,_,_,_,_,_,_,_,z,_⟩=>SqL.of (z _ _ nL1 h2)) ?_ ?_⟩
  · rintro i x σ H3 hi ⟨u5,u6,u7,u8,u9,u10,u11,zs,rows,rfl,k3,h3D,hP3,rl3,hG3⟩
    obtain ⟨r,hri,a,rt,cv,rfl,ha,hrt,hC⟩:=pget hP1 hi
    have hil:=(List.getElem?_eq_some_iff.mp hri).1
    obtain ⟨⟨⟨is_,en,hbd⟩,he⟩,hw⟩:=hG1 r (List.mem_of_getElem? hri)
    have hnl:is_.length = cs1.length:=by rw [<- hw,en,List.length_map]
    rw [zo5 en] at hrt
    have kp3:Kp H H3:=⟨λb xs h=>(k3.kp h2D).tup _ _ (w2' _ _ h),λb C dx fs h=>(k3.kp h2D).ins _ _ _ _ (w2' _ _ h)⟩
    have kp31:Kp H1 H3:=⟨λb xs h=>(k3.kp h2D).tup _ _ (s2 _ _ h),λb C dx fs h=>(k3.kp h2D).ins _ _ _ _ (s2 _ _ h)⟩
    have sH3:Same H H3:=k3.same w2' hD
    refine ⟨a,_,rfl,SqT.of (kp31.tup _ _ ha),rfl,_,_,rfl,_,_,rfl,rfl,?_⟩
    have hB1c:=hB1.kp kp3
    obtain ⟨dxa,fsa,hba,hma⟩:=zc0 hB1c
    refine ⟨_,rfl,_,rfl,o1,BC,dxa,fsa,rfl,hba,rfl,hma _ bmc,o1,cs1,rows1,w1,rfl,hB1c,λL2 hL2=>?_⟩
    have s4:=same_new hL2 (.lst (cs1.map V.str))
    have h4:=upd_same (H:=H3) (a:=L2) (o:=.lst (cs1.map V.str))
    generalize upd H3 L2 (.lst (cs1.map V.str)) = H4 at s4 h4 ⊢
    refine ⟨_,rfl,sa,L2,rt,ss,cs1,is_,rfl,s4 _ _ (sH3 _ _ hsa),h4,s4 _ _ (kp31.tup _ _ hrt),hnl,s1',s10,λlt lys H5 s5 h5 lyl _=>?_⟩
    have w5:=s4.trans s5
    have hB2c:=hB2.kp (.of (sH3.trans w5))
    obtain ⟨dxb,fsb,hbb,hmb⟩:=zc0 hB2c
    refine ⟨_,rfl,o2,BC,dxb,fsb,rfl,hbb,rfl,hmb _ bmr,o2,cs2,rows2,w2,rfl,hB2c,λL5 xs2 hL5 hP2=>?_⟩
    have s6:=same_new hL5 (.lst xs2)
    have h6:=upd_same (H:=H5) (a:=L5) (o:=.lst xs2)
    have h5D:=w5 _ _ h3D
    have nL5:L5 ≠ D:=λe=>by rw [e,h5D] at hL5; cases hL5
    generalize upd H5 L5 (.lst xs2) = H6 at s6 h6 ⊢
    have w6:=w5.trans s6
    have h6D:=w6 _ _ h3D
    have len2:=plen hP2
    refine ⟨L5,rfl,⟨_,SqL.of h6⟩,zn5 (K:=K) (a:=L5) (xs:=xs2) (λj σ H7=>∃ (u8 u9 u10 u11:Option V) (zs:List V) (rows:List Row),σ = [some (.ref o1),some (.ref o2),some (.ref sa),some (.ref fa),some (.ref D),some (.ref rt),some cv,some (.ref lt),u8,u9,u10,u11]/\zb3 D H6 H7/\H7 D = some (.lst zs)/\Paired (RowX T H7 H7) zs rows/\rows.length = i * n2 + j/\∀ r ∈ rows,GR r/\r.1.length = cs1.length + fs.length)
      ⟨u8,u9,u10,u11,zs,rows,rfl,zb3.refl _ _,h6D,zf4 (.of w6) hP3,by omega,hG3⟩ (λj σ H7 _ ⟨_,_,_,_,_,_,_,z,_⟩=>SqL.of (z _ _ nL5 h6)) ?_ ?_⟩
    · rintro j y σ H7 hj ⟨v8,v9,v10,v11,zs7,rows7,rfl,k7,h7D,hP7,rl7,hG7⟩
      obtain ⟨r2,hrj,a2,rt2,cv2,rfl,ha2,hrt2,hC2⟩:=pget hP2 hj
      have hjl:=(List.getElem?_eq_some_iff.mp hrj).1
      obtain ⟨⟨⟨js,en2,hbd2⟩,he2⟩,hw2⟩:=hG2 r2 (List.mem_of_getElem? hrj)
      have hnl2:js.length = cs2.length:=by rw [<- hw2,en2,List.length_map]
      rw [zo5 en2] at hrt2
      have kp7:Kp H6 H7:=k7.kp h6D
      have kp75:Kp H5 H7:=⟨λb xs h=>kp7.tup _ _ (s6 _ _ h),λb C dx fs h=>kp7.ins _ _ _ _ (s6 _ _ h)⟩
      have kp71:Kp H1 H7:=⟨λb xs h=>kp75.tup _ _ (w5 _ _ (kp31.tup _ _ h)),λb C dx fs h=>kp75.ins _ _ _ _ (w5 _ _ (kp31.ins _ _ _ _ h))⟩
      have sH7:Same H H7:=k7.same (sH3.trans w6) hD
      refine ⟨a2,_,rfl,SqT.of (kp75.tup _ _ ha2),rfl,_,_,rfl,_,_,rfl,rfl,?_⟩
      have hB2d:=hB2.kp (.of sH7)
      obtain ⟨dxc,fsc,hbc,hmc⟩:=zc0 hB2d
      refine ⟨_,rfl,_,rfl,_,rfl,o2,BC,dxc,fsc,rfl,hbc,rfl,hmc _ bmc,o2,cs2,rows2,w2,rfl,hB2d,λL8 hL8=>?_⟩
      have s8:=same_new hL8 (.lst (cs2.map V.str))
      have h8:=upd_same (H:=H7) (a:=L8) (o:=.lst (cs2.map V.str))
      generalize upd H7 L8 (.lst (cs2.map V.str)) = H8 at s8 h8 ⊢
      refine ⟨_,rfl,sa,L8,rt2,ss,cs2,js,rfl,s8 _ _ (sH7 _ _ hsa),h8,s8 _ _ (kp75.tup _ _ hrt2),hnl2,s2',s10,λmt mys H9 s9 h9 myl _=>?_⟩
      have w9:=s8.trans s9
      have hlt9:=w9 _ _ (kp75.tup _ _ h5)
      refine ⟨lt,mt,lys,mys,rfl,hlt9,h9,by omega,by omega,λLS zsS lS HA sA hLS hA hLA ngA lA=>?_⟩
      have wA:=w9.trans sA
      have hB2e:=hB2.kp (.of (sH7.trans wA))
      obtain ⟨dxd,fsd,hbd',hmd⟩:=zc0 hB2e
      refine ⟨_,rfl,_,rfl,o2,BC,dxd,fsd,rfl,hbd',rfl,hmd _ bmc,o2,cs2,rows2,w2,rfl,hB2e,λLB hLB=>?_⟩
      have sB:=same_new hLB (.lst (cs2.map V.str))
      have hBl:=upd_same (H:=HA) (a:=LB) (o:=.lst (cs2.map V.str))
      generalize upd HA LB (.lst (cs2.map V.str)) = HB at sB hBl ⊢
      have wB:=wA.trans sB
      refine ⟨_,rfl,fa,LB,rt2,fs,cs2,js,rfl,wB _ _ (sH7 _ _ hfa),hBl,wB _ _ (kp75.tup _ _ hrt2),hnl2,f2',f10,λat_ ays HC_ sC hCt ayl hay=>?_⟩
      have wC:=wB.trans sC
      have hCD:=wC _ _ h7D
      refine ⟨_,rfl,.inl ⟨rfl,_,SqL.of hCD⟩,_,rfl,_,rfl,rt,at_,_,_,rfl,rfl,wC _ _ (kp71.tup _ _ hrt),hCt,zb6 (by rw [List.length_map,List.length_map]; omega),λct HD sD hD'=>?_⟩
      refine ⟨_,rfl,_,rfl,_,rfl,zb6 (by simp),λLE hLE=>?_⟩
      have sE:=same_new hLE (.lst [cv,cv2])
      have hE:=upd_same (H:=HD) (a:=LE) (o:=.lst [cv,cv2])
      generalize upd HD LE (.lst [cv,cv2]) = HE at sE hE ⊢
      have sCE:Same HC_ HE:=Same.trans (λb o h=>sD b o h) sE
      have hSE:=sCE _ _ (sC _ _ (sB _ _ hA))
      have lzS:=zg4 hLA
      refine ⟨LS,LE,_,_,rfl,rfl,hSE,hE,zb6 (by simp; omega),λLF hLF=>?_⟩
      have sF:=same_new hLF (.lst (zsS ++ [cv,cv2]))
      have hF:=upd_same (H:=HE) (a:=LF) (o:=.lst (zsS ++ [cv,cv2]))
      generalize upd HE LF (.lst (zsS ++ [cv,cv2])) = HF at sF hF ⊢
      have sAF:Same HA HF:=sB.trans (sC.trans (sCE.trans sF))
      have s7F:Same H7 HF:=wA.trans sAF
      have hC1:IsC T HF r.2 cv:=(hC.kp kp71).kp (.of s7F)
      have hC2':IsC T HF r2.2 cv2:=(hC2.kp kp75).kp (.of s7F)
      have hLF':IsL T HF (lS ++ [r.2] ++ [r2.2]) (zsS ++ [cv] ++ [cv2]):=zi9 (zi9 (hLA.kp (.of sAF)) hC1) hC2'
      rw [List.append_assoc,List.append_assoc] at hLF'
      refine ⟨LF,_,lS ++ ([r.2] ++ [r2.2]),rfl,hF,hLF',by simp; omega,λc hc=>?_,λv c HG sG hCG eG dG=>?_⟩
      · rcases List.mem_append.mp hc with hc | hc
        · exact ngA c hc
        · rcases List.mem_append.mp hc with hc | hc
          · rw [show c = r.2 by simpa using hc]
            exact zh0 he.1
          · rw [show c = r2.2 by simpa using hc]
            exact zh0 he2.1
      refine ⟨zb6 (by simp),λtp htp=>?_⟩
      have sH:=same_new htp (.tup [.ref ct,v])
      have hH:=upd_same (H:=HG) (a:=tp) (o:=.tup [.ref ct,v])
      generalize upd HG tp (.tup [.ref ct,v]) = HH at sH hH ⊢
      have s7H:Same H7 HH:=s7F.trans (sG.trans sH)
      have hHD:=s7H _ _ h7D
      have zl:=plen hP7
      have hcl:=xr6 (m:=n2) (by omega:i < n1) (by omega:j < n2) nn
      have kD:=ye6 (zs:=zs7 ++ [.ref tp]) hHD
      have hct:HH ct = some (.tup (is_.map V.int ++ ays.map V.int)):=sH _ _ (sG _ _ (sF _ _ (sE _ _ hD')))
      refine ⟨D,_,_,rfl,rfl,hHD,zb5 (by omega),_,_,_,_,zs7 ++ [.ref tp],rows7 ++ [((is_ ++ ays).map Sum.inl,c)],rfl,(k7.trans (zb3.of s7H)).trans zb3.upd,upd_same,yk1 (zf4 kD (zf4 (.of s7H) hP7)) ⟨tp,ct,v,rfl,kD.tup _ _ hH,kD.tup _ _ ?_,(hCG.kp (.of sH)).kp kD⟩,by rw [List.length_append,rl7]; rfl,λr' hr'=>?_⟩
      · rw [<- zs2,List.map_append]
        exact hct
      · rcases List.mem_append.mp hr' with hr' | hr'
        · exact hG7 r' hr'
        · rw [show r' = ((is_ ++ ays).map Sum.inl,c) by simpa using hr']
          refine ⟨⟨⟨is_ ++ ays,rfl,λy hy=>?_⟩,eG,Nat.le_succ_of_le dG⟩,?_⟩
          · rcases List.mem_append.mp hy with hy | hy
            · exact hbd y hy
            · exact hbd2 y (hay y hy)
          · show ((is_ ++ ays).map Sum.inl).length = _
            rw [List.length_map,List.length_append,hnl,ayl]
    · rintro σ H7 ⟨v8,v9,v10,v11,zs7,rows7,rfl,k7,h7D,hP7,rl7,hG7⟩
      refine ⟨_,_,_,_,_,_,_,zs7,rows7,rfl,k3.trans ((zb3.of w6).trans k7),h7D,hP7,?_,hG7⟩
      rw [rl7,len2,rn2,Nat.add_mul,Nat.one_mul]
  · rintro σ H3 ⟨u5,u6,u7,u8,u9,u10,u11,zs,rows,rfl,k3,h3D,hP3,rl3,hG3⟩
    exact ⟨_,rfl,q D zs rows H3 (k3.same w2' hD) h3D hP3 (by rw [rl3,len1,rn1]) hG3⟩
end
end K55
namespace L2
open PySem PySem.Spec PyProof.Rows
theorem yb7 {X:Cx} {K:W.Frag} (e:X.K = K):OpR X (compareOp .In) (rIn K false):=e ▸ zm2
theorem ye2 {X:Cx} {K:W.Frag} (e:X.K = K):OpR X (compareOp .NotIn) (rIn K true):=e ▸ zt5
end L2
namespace K55
open PySem L2 CD
def shr (cs1 cs2:List Str):List Str:=cs1.filter λx=>decide (x ∈ cs2)
def fur (cs1 cs2:List Str):List Str:=cs2.filter λx=>!decide (x ∈ shr cs1 cs2)
theorem yv2 (cs1 cs2:List Str):(shr cs1 cs2).length<=cs1.length:=List.length_filter_le _ _
theorem xn9 (cs1 cs2:List Str):(fur cs1 cs2).length<=cs2.length:=List.length_filter_le _ _
theorem yd7 {cs1 cs2:List Str} {x:Str}:x ∈ shr cs1 cs2 ↔ x ∈ cs1/\x ∈ cs2:=by
  unfold shr
  rw [List.mem_filter,decide_eq_true_iff]
theorem xa2 {cs1 cs2:List Str} {x:Str}:x ∈ fur cs1 cs2 ↔ x ∈ cs2/\x ∉ cs1:=by
  unfold fur
  rw [List.mem_filter,Bool.not_eq_true',decide_eq_false_iff_not,yd7]
  constructor
  · rintro ⟨h1,h2⟩
    exact ⟨h1,λh=>h2 ⟨h,h1⟩⟩
  · rintro ⟨h1,h2⟩
    exact ⟨h1,λh=>h2 h.1⟩
theorem yt3 {cs1 cs2:List Str} (h1:cs1.Nodup) (h2:cs2.Nodup):(cs1 ++ fur cs1 cs2).Nodup:=by
  rw [List.nodup_append]
  refine ⟨h1,h2.filter _,λa ha b hb e=>?_⟩
  subst e
  exact (xa2.mp hb).2 ha
def yd0:Sp:=λvs H Q _=>∃ (l1 l2:Addr) (cs1 cs2:List Str),vs = [.ref l1,.ref l2]/\H l1 = some (.lst (cs1.map V.str))/\H l2 = some (.lst (cs2.map V.str))/\cs1.length<=10/\cs2.length<=10 /\
  ∀ t D D2 H',Same H H'->H' t = some (.tup [.ref D,.ref D2])->H' D = some (.lst ((shr cs1 cs2).map V.str))->H' D2 = some (.lst ((fur cs1 cs2).map V.str))->Q (.ref t) H'
def yg4 (T:Cl) (BC C:Addr):Sp:=λvs H Q E=>∃ (b1 b2:Addr) (cs1 cs2:List Str) (n1 n2:Nat),vs = [.ref b1,.ref b2]/\Tb T BC H b1 cs1 n1/\Tb T BC H b2 cs2 n2/\cs1.length<=5/\cs2.length<=5 /\
  (n1 * n2<=24->∀ b H',Same H H'->Tb T BC H' b (cs1 ++ fur cs1 cs2) (n1 * n2)->Q (.ref b) H')/\(24 < n1 * n2->∀ H',Same H H'->E (.ref C) none H')
theorem ndNO:(["name","others"]:List Str).Nodup:=by decide +kernel
theorem ndNS:(["name","shared"]:List Str).Nodup:=by decide +kernel
section
variable {P:Program} {w:World} {K:W.Frag} {mg:Str->Option Value} {base:Heap} {f:Addr} {fd:FuncData} {T:Cl} {CC BC C:Addr}
theorem scPt:FnScope ["columns","others","shared"] ["columns","others"] (za1 zq9):=⟨rfl,rfl,rfl,by decide +kernel,rfl,by decide +kernel,by decide +kernel⟩
theorem yw9 (Fn:Fun K "columns_parted" "columns_parted" zq9 f fd):FnOk P w K mg base CX0 1 f fd ["columns","others"] yd0:=by
  refine Fn.ok scPt (λvs H Q E h=>?_) (λcdv A outer s H vs Q E hr h=>?_)
  · obtain ⟨l1,l2,cs1,cs2,rfl,_⟩:=h
    rfl
  obtain ⟨l1,l2,cs1,cs2,rfl,h1,h2,n1,n2,q⟩:=h
  refine ⟨_,za3 (zc7 (i:=2) scPt.nd rfl (Or.inr rfl) (zh6 (caps:=[("others",1)]) ["name"] rfl (ze1 (pv 0)) ⟨rfl,by decide +kernel,by decide +kernel,rfl,.cons rfl (.inl rfl) rfl .nil,rfl,rfl,rfl⟩
        (λs H ex=>zb2 (X:=cxLG _ _ _ _ s H ex) (i:=0) ndNO rfl (Or.inl rfl) (.inr rfl))
        (λs H ex=>zj2 (zb7 (yb7 (K:=K) rfl) (pe_var (X:=cxLG _ _ _ _ s H ex) (i:=0) rfl (Or.inl rfl)) (pe_var (X:=cxLG _ _ _ _ s H ex) (i:=1) rfl (Or.inr (Or.inl rfl))) rfl))
        (λs H ex=>pe_var (X:=cxLG _ _ _ _ s H ex) (i:=0) rfl (Or.inl rfl))))
    (za4 (zb9 (zg3 (za0 (pv 2) (za0 (zh6 (caps:=[("shared",2)]) ["name"] rfl (ze1 (pv 1)) ⟨rfl,by decide +kernel,by decide +kernel,rfl,.cons rfl (.inl rfl) rfl .nil,rfl,rfl,rfl⟩
        (λs H ex=>zb2 (X:=cxLG _ _ _ _ s H ex) (i:=0) ndNS rfl (Or.inl rfl) (.inr rfl))
        (λs H ex=>zj2 (zb7 (ye2 (K:=K) rfl) (pe_var (X:=cxLG _ _ _ _ s H ex) (i:=0) rfl (Or.inl rfl)) (pe_var (X:=cxLG _ _ _ _ s H ex) (i:=1) rfl (Or.inr (Or.inl rfl))) rfl))
        (λs H ex=>pe_var (X:=cxLG _ _ _ _ s H ex) (i:=0) rfl (Or.inl rfl))) za2))))),?_⟩
  refine ⟨_,rfl,l1,rfl,⟨_,SqL.of h1⟩,λD hD=>?_⟩
  refine ze3 (K:=K) (a:=l1) (xs:=cs1.map V.str) (λi σ H4=>∃ (u:Option V),σ = [u,some (.ref l2)]/\Same H H4/\H4 D = some (.lst (((cs1.take i).filter λx=>decide (x ∈ cs2)).map V.str)))
    ⟨none,rfl,same_new hD _,upd_same⟩ (λi σ H4 _ ⟨_,_,z,_⟩=>SqL.of (z _ _ h1)) ?_ ?_
  · rintro i v σ H4 hi ⟨u,rfl,s4,h4⟩
    obtain ⟨x,hxi,hxm,rfl⟩:=zp3 hi
    have hil:=(List.getElem?_eq_some_iff.mp hxi).1
    refine ⟨_,rfl,_,rfl,l2,_,rfl,.inl (SqL.of (s4 _ _ h2)),rfl,zf0 cs2,_,rfl,?_⟩
    show (if inV (.str x) (cs2.map V.str) = true then _ else _)
    rw [zs6,zd6 hxi,List.filter_append]
    cases hv:decide (x ∈ cs2) with
    | false=>
      refine iteF ⟨_,rfl,s4,?_⟩
      rw [List.filter_cons_of_neg (by rw [hv]; decide),List.filter_nil,List.append_nil]
      exact h4
    | true=>
      refine iteT ⟨_,rfl,_,h4,?_,_,rfl,zc4 s4 hD _,?_⟩
      · rw [List.length_map]
        have:=List.length_filter_le (λx=>decide (x ∈ cs2)) (cs1.take i)
        rw [List.length_take] at this
        exact zb5 (by omega)
      · rw [upd_same,List.filter_cons_of_pos (p:=λx=>decide (x ∈ cs2)) hv,List.filter_nil,List.map_append]; rfl
  rintro σ H4 ⟨u,rfl,s4,h4⟩
  rw [List.length_map,List.take_length] at h4
  have h4':H4 D = some (.lst ((shr cs1 cs2).map V.str)):=h4
  have h6:=s4 _ _ h2
  refine ⟨_,rfl,_,rfl,l2,rfl,⟨_,SqL.of h6⟩,λD2 hD2=>?_⟩
  refine ze3 (K:=K) (a:=l2) (xs:=cs2.map V.str) (λi σ H7=>∃ (u:Option V),σ = [u,some (.ref D)]/\Same H4 H7/\H7 D2 = some (.lst (((cs2.take i).filter λx=>!decide (x ∈ shr cs1 cs2)).map V.str)))
    ⟨none,rfl,same_new hD2 _,upd_same⟩ (λi σ H7 _ ⟨_,_,z,_⟩=>SqL.of (z _ _ h6)) ?_ ?_
  · rintro i v σ H7 hi ⟨u,rfl,s7,h7⟩
    obtain ⟨x,hxi,hxm,rfl⟩:=zp3 hi
    have hil:=(List.getElem?_eq_some_iff.mp hxi).1
    refine ⟨_,rfl,_,rfl,D,_,rfl,.inl (SqL.of (s7 _ _ h4')),rfl,zf0 _,_,rfl,?_⟩
    show (if (!inV (.str x) ((shr cs1 cs2).map V.str)) = true then _ else _)
    rw [zs6,zd6 hxi,List.filter_append]
    cases hv:(!decide (x ∈ shr cs1 cs2)) with
    | false=>
      refine iteF ⟨_,rfl,s7,?_⟩
      rw [List.filter_cons_of_neg (by rw [hv]; decide),List.filter_nil,List.append_nil]
      exact h7
    | true=>
      refine iteT ⟨_,rfl,_,h7,?_,_,rfl,zc4 s7 hD2 _,?_⟩
      · rw [List.length_map]
        have:=List.length_filter_le (λx=>!decide (x ∈ shr cs1 cs2)) (cs2.take i)
        rw [List.length_take] at this
        exact zb5 (by omega)
      · rw [upd_same,List.filter_cons_of_pos (p:=λx=>!decide (x ∈ shr cs1 cs2)) hv,List.filter_nil,List.map_append]; rfl
  rintro σ H7 ⟨u,rfl,s7,h7⟩
  rw [List.length_map,List.take_length] at h7
  have h7':H7 D2 = some (.lst ((fur cs1 cs2).map V.str)):=h7
  refine ⟨zb6 (by simp),λt ht=>?_⟩
  have s8:=same_new ht (.tup [.ref D,.ref D2])
  exact q t D D2 _ (s4.trans (s7.trans s8)) upd_same (s8 _ _ (s7 _ _ h4')) (s8 _ _ h7')
theorem scJn:FnScope ["one","other","shared","further"] ["one","other"] (za1 yq6):=⟨rfl,rfl,rfl,by decide +kernel,rfl,by decide +kernel,by decide +kernel⟩
theorem xm2 (Fn:Fun K "joined" "joined" yq6 f fd) (X:Txt mg) (FC:Fam P w K mg base CX0 1 (· = BC) "columns" ["self"] (λ_=>zl2 T BC)) (FR:Fam P w K mg base CX0 1 (· = BC) "rows" ["self"] (λ_=>zh2 T BC))
    (C1:CalE P w K mg base "check_many" 1 ["rows"] (ym4 C)) (C5:Cal P w K mg base "columns_parted" 1 ["columns","others"] yd0) (C2:Cal P w K mg base "paired" 45 ["one","other","shared","further"] (yd1 T BC)) (C3:Cal P w K mg base "both_wholes" 45 ["one","other"] (yg5 T BC)) (MB:MkC P w K mg base "Table" BC 44 ["self","columns","rows","whole"] (spBI T BC)):FnOk P w K mg base (CXe P w) 47 f fd ["one","other"] (yg4 T BC C):=by
  obtain ⟨f1,d1,G1,b1,k1,m1⟩:=C1
  obtain ⟨f2,d2,G2,b2,k2,m2⟩:=C2
  obtain ⟨f3,d3,G3,b3,k3,m3⟩:=C3
  obtain ⟨f4,d4,mk4,G4,b4,m4⟩:=MB
  obtain ⟨f5,d5,G5,b5,k5,m5⟩:=C5
  refine Fun.okX (k:=46) Fn scJn (λvs H Q E h=>?_) (λcdv A outer s H vs Q E hr h=>?_)
  · obtain ⟨b1,b2,cs1,cs2,n1,n2,rfl,_⟩:=h
    rfl
  obtain ⟨o1,o2,cs1,cs2,n1,n2,rfl,hT1,hT2,c51,c52,q1,q2⟩:=h
  have hr1:Room 1 _:=hr.mono (by decide)
  have hr45:Room 45 _:=hr.mono (by decide)
  have hr46:Room 46 _:=hr
  refine ⟨_,za3 (zd3 (za9 G1 hr1 rfl m1 k1 b1 .nil zs0 (za0 (zc9 yw4 (zb4 zc3 rfl X.len PySem.boot_len (za0 (za8 (pv 0) FR hr1 zb0) za2)) (zb4 zc3 rfl X.len PySem.boot_len (za0 (za8 (pv 1) FR hr1 zb0) za2))) za2)))
    (PSs.nox (za3 (xh7 (za9 G5 hr1 rfl m5 k5 b5 .nil zb0 (za0 (za8 (pv 0) FC hr1 zb0) (za0 (za8 (pv 1) FC hr1 zb0) za2))) (zo9 rfl (zc1 (zb2 (i:=2) scJn.nd rfl (Or.inl rfl)) (zc1 (zb2 (i:=3) scJn.nd rfl (Or.inl rfl)) zg8))))
    (za4 (zb9 (zf9 mk4 G4 hr45 rfl m4 b4 .nil zb0 (za0 (zc9 zm3 (za8 (pv 0) FC hr1 zb0) (pv 3)) (za0 (za9 G2 hr45 rfl m2 k2 b2 .nil zb0 (za0 (pv 0) (za0 (pv 1) (za0 (pv 2) (za0 (pv 3) za2))))) (za0 (za9 G3 hr45 rfl m3 k3 b3 .nil zb0 (za0 (pv 0) (za0 (pv 1) za2))) za2)))))))),?_⟩
  obtain ⟨rows1,w1,hB1,rn1,l1,hG1,ew1,nd1',c101⟩:=id hT1
  obtain ⟨rows2,w2,hB2,rn2,l2,hG2,ew2,nd2',c102⟩:=id hT2
  obtain ⟨dx1,fs1,hb1,hm1⟩:=zc0 hB1
  refine ⟨_,rfl,o1,BC,dx1,fs1,rfl,hb1,rfl,hm1 _ bmr,o1,cs1,rows1,w1,rfl,hB1,λL1 xs1 hL1 hP1=>?_⟩
  have s1:=same_new hL1 (.lst xs1)
  have h1:=upd_same (H:=H) (a:=L1) (o:=.lst xs1)
  generalize upd H L1 (.lst xs1) = H1 at s1 h1 ⊢
  have hB2a:=hB2.kp (.of s1)
  obtain ⟨dx2,fs2,hb2,hm2⟩:=zc0 hB2a
  refine ⟨L1,_,rfl,.inl (SqL.of h1),_,rfl,o2,BC,dx2,fs2,rfl,hb2,rfl,hm2 _ bmr,o2,cs2,rows2,w2,rfl,hB2a,λL2 xs2 hL2 hP2=>?_⟩
  have s2:=same_new hL2 (.lst xs2)
  have h2:=upd_same (H:=H1) (a:=L2) (o:=.lst xs2)
  generalize upd H1 L2 (.lst xs2) = H2 at s2 h2 ⊢
  have w2':=s1.trans s2
  have e1:xs1.length = n1:=(plen hP1).trans rn1
  have e2:xs2.length = n2:=(plen hP2).trans rn2
  refine ⟨L2,_,rfl,.inl (SqL.of h2),_,_,rfl,rfl,.inl ⟨by omega,by omega⟩,n1 * n2,by rw [e1,e2]; show [V.int ((n1:Int) * (n2:Int))] = [V.int ((n1 * n2:Nat):Int)]; rw [Int.natCast_mul],λhle=>?_,λhgt=>q2 hgt H2 w2'⟩
  have hT1b:=hT1.kp (.of w2')
  have hT2b:=hT2.kp (.of w2')
  have hB1b:=hB1.kp (.of w2')
  have hB2b:=hB2.kp (.of w2')
  obtain ⟨dx3,fs3,hb3,hm3⟩:=zc0 hB1b
  refine ⟨_,rfl,o1,BC,dx3,fs3,rfl,hb3,rfl,hm3 _ bmc,o1,cs1,rows1,w1,rfl,hB1b,λL3 hL3=>?_⟩
  have s3:=same_new hL3 (.lst (cs1.map V.str))
  have h3:=upd_same (H:=H2) (a:=L3) (o:=.lst (cs1.map V.str))
  generalize upd H2 L3 (.lst (cs1.map V.str)) = H3 at s3 h3 ⊢
  have hB2d:=hB2b.kp (.of s3)
  obtain ⟨dx5,fs5,hb5,hm5⟩:=zc0 hB2d
  refine ⟨_,rfl,o2,BC,dx5,fs5,rfl,hb5,rfl,hm5 _ bmc,o2,cs2,rows2,w2,rfl,hB2d,λL6 hL6=>?_⟩
  have s6:=same_new hL6 (.lst (cs2.map V.str))
  have h6:=upd_same (H:=H3) (a:=L6) (o:=.lst (cs2.map V.str))
  generalize upd H3 L6 (.lst (cs2.map V.str)) = H6 at s6 h6 ⊢
  refine ⟨L3,L6,cs1,cs2,rfl,s6 _ _ h3,h6,by omega,by omega,λtt D D2 H7 s7 htt h7D h7'=>?_⟩
  refine ⟨tt,_,rfl,SqT.of htt,rfl,_,_,rfl,_,_,rfl,rfl,?_⟩
  have w7:=s3.trans (s6.trans s7)
  have hT1c:=hT1b.kp (.of w7)
  have hT2c:=hT2b.kp (.of w7)
  have hB1c:=hB1b.kp (.of w7)
  obtain ⟨dx6,fs6,hb6,hm6⟩:=zc0 hB1c
  refine ⟨_,rfl,o1,BC,dx6,fs6,rfl,hb6,rfl,hm6 _ bmc,o1,cs1,rows1,w1,rfl,hB1c,λL8 hL8=>?_⟩
  have s8:=same_new hL8 (.lst (cs1.map V.str))
  have h8:=upd_same (H:=H7) (a:=L8) (o:=.lst (cs1.map V.str))
  generalize upd H7 L8 (.lst (cs1.map V.str)) = H8 at s8 h8 ⊢
  have fl:=xn9 cs1 cs2
  have sl:=yv2 cs1 cs2
  refine ⟨_,rfl,L8,D2,_,_,rfl,rfl,h8,s8 _ _ h7',zb6 (by rw [List.length_map,List.length_map]; omega),λL9 hL9=>?_⟩
  rw [<- List.map_append]
  have s9:=same_new hL9 (.lst ((cs1 ++ fur cs1 cs2).map V.str))
  have h9:=upd_same (H:=H8) (a:=L9) (o:=.lst ((cs1 ++ fur cs1 cs2).map V.str))
  generalize upd H8 L9 (.lst ((cs1 ++ fur cs1 cs2).map V.str)) = H9 at s9 h9 ⊢
  have w9:=s8.trans s9
  refine ⟨_,rfl,_,rfl,_,rfl,_,rfl,o1,o2,D,D2,cs1,cs2,shr cs1 cs2,fur cs1 cs2,n1,n2,rfl,hT1c.kp (.of w9),hT2c.kp (.of w9),w9 _ _ h7D,w9 _ _ h7',λx hx=>(yd7.mp hx).1,λx hx=>(yd7.mp hx).2,λx hx=>(xa2.mp hx).1,by omega,by omega,hle,λLA xsA rowsA HA sA hA hPA rlA hGA=>?_⟩
  have wA:=w9.trans sA
  refine ⟨_,rfl,_,rfl,o1,o2,cs1,cs2,n1,n2,rfl,hT1c.kp (.of wA),hT2c.kp (.of wA),λv c HB sB hCB eB dB=>λy dy hy hdy ney=>?_⟩
  have ms:=ze8 (C:=BC) hy hdy
  have eW:Emp c:=⟨eB,Nat.le_succ_of_le dB⟩
  have nd:=yt3 nd1' nd2'
  have l10:(cs1 ++ fur cs1 cs2).length<=10:=by rw [List.length_append]; omega
  have hGW:∀ r ∈ rowsA,GR r/\r.1.length = (cs1 ++ fur cs1 cs2).length:=λr hr'=>by rw [List.length_append]; exact hGA r hr'
  refine ⟨y,dy,L9,LA,v,cs1 ++ fur cs1 cs2,xsA,rowsA,c,zw7,HB,rfl,upd_same,ms,hy,sB _ _ (sA _ _ h9),nd,l10,sB _ _ hA,zl7 (zf4 (.of sB) hPA),λr hr'=>(hGW r hr').2,by omega,.inr hCB,by decide,zn8 (λr hr'=>(hGW r hr').1) eW,λHC_ kb hBC=>⟨rfl,?_⟩⟩
  exact q1 hle y HC_ (w2'.trans (w7.trans (wA.trans (sB.trans (kb.same ms hy))))) ⟨rowsA,c,hBC,rlA,hle,hGW,eW,nd,l10⟩
end
def yd4 (T:Cl) (BC CT C:Addr):Sp:=λvs H Q E=>∃ (b1 b2:Addr) (cs1 cs2:List Str) (n1 n2:Nat),vs = [.ref b1,.ref b2]/\Tb T BC H b1 cs1 n1/\Tb T BC H b2 cs2 n2/\cs1.length<=5/\cs2.length<=5 /\
  (reps (cs1 ++ cs2) = []->n1 * n2<=24->∀ b H' cs',Same H H'->Tb T BC H' b cs' (n1 * n2)->Q (.ref b) H')/\(reps (cs1 ++ cs2) = []->24 < n1 * n2->∀ H',Same H H'->E (.ref C) none H') /\
  ∀ m H' dx,yf9 (reps (cs1 ++ cs2)) m->Same H H'->H' dx = none->E (.ref CT) (some dx) (upd H' dx (.xd [("name",.str m)]))
def yc8 (T:Cl) (BC CU C:Addr):Sp:=λvs H Q E=>∃ (b1 b2:Addr) (cs1 cs2:List Str) (n1 n2:Nat),vs = [.ref b1,.ref b2]/\Tb T BC H b1 cs1 n1/\Tb T BC H b2 cs2 n2 /\
  (¬ cs1.Perm cs2->∀ H',Same H H'->E (.ref CU) none H')/\(cs1.Perm cs2->24 < n1 + n2->∀ H',Same H H'->E (.ref C) none H')/\(cs1.Perm cs2->n1 + n2<=24->∀ b H' cs',Same H H'->Tb T BC H' b cs' (n1 + n2)->Q (.ref b) H')
def ym6 (T:Cl) (BC CU:Addr):Sp:=λvs H Q E=>∃ (b1 b2:Addr) (cs1 cs2:List Str) (n1 n2:Nat),vs = [.ref b1,.ref b2]/\Tb T BC H b1 cs1 n1/\Tb T BC H b2 cs2 n2 /\
  (¬ cs1.Perm cs2->∀ H',Same H H'->E (.ref CU) none H')/\(cs1.Perm cs2->∀ b H' cs',Same H H'->Tb T BC H' b cs' n1->Q (.ref b) H')
theorem yv6 {H H1:Hp} (s:Same H H1) {a:Addr} (h:H1 a = none):H a = none:=by
  cases e:H a with
  | none=>rfl
  | some o=>rw [s _ _ e] at h; cases h
theorem papp {α β:Type} {R:α->β->Prop}:∀ {xs xs':List α} {ys ys':List β},Paired R xs ys->Paired R xs' ys'->Paired R (xs ++ xs') (ys ++ ys')
  | _,_,_,_,.nil,h=>h
  | _,_,_,_,.cons q t,h=>.cons q (papp t h)
section
variable {P:Program} {w:World} {K:W.Frag} {mg:Str->Option Value} {base:Heap} {f:Addr} {fd:FuncData} {T:Cl} {CC BC C CT CU:Addr}
theorem scCx:FnScope ["one","other"] ["one","other"] (za1 ya8):=⟨rfl,rfl,rfl,by decide +kernel,rfl,by decide +kernel,by decide +kernel⟩
theorem xe4 (Fn:Fun K "crossed" "crossed" ya8 f fd) (FC:Fam P w K mg base CX0 1 (· = BC) "columns" ["self"] (λ_=>zl2 T BC))
    (C1:CalE P w K mg base "check_columns" 3 ["columns"] (zv4 CT)) (C2:CalE P w K mg base "joined" 47 ["one","other"] (yg4 T BC C)):FnOk P w K mg base (CXe P w) 48 f fd ["one","other"] (yd4 T BC CT C):=by
  obtain ⟨f1,d1,G1,b1,k1,m1⟩:=C1
  obtain ⟨f2,d2,G2,b2,k2,m2⟩:=C2
  refine Fun.okX (k:=47) Fn scCx (λvs H Q E h=>?_) (λcdv A outer s H vs Q E hr h=>?_)
  · obtain ⟨b1,b2,cs1,cs2,n1,n2,rfl,_⟩:=h
    rfl
  obtain ⟨o1,o2,cs1,cs2,n1,n2,rfl,hT1,hT2,c51,c52,q1,q2,q3⟩:=h
  have hr1:Room 1 _:=hr.mono (by decide)
  have hr3:Room 3 _:=hr.mono (by decide)
  refine ⟨_,za3 (zd3 (za9 G1 hr3 rfl m1 k1 b1 .nil zs0 (za0 (zc9 zm3 (za8 (pv 0) FC hr1 zb0) (za8 (pv 1) FC hr1 zb0)) za2)))
    (za4 (zb9 (za9 G2 hr rfl m2 k2 b2 .nil zs0 (za0 (pv 0) (za0 (pv 1) za2))))),?_⟩
  obtain ⟨rows1,w1,hB1,_⟩:=id hT1
  obtain ⟨rows2,w2,hB2,_⟩:=id hT2
  obtain ⟨dx1,fs1,hb1,hm1⟩:=zc0 hB1
  refine ⟨_,rfl,o1,BC,dx1,fs1,rfl,hb1,rfl,hm1 _ bmc,o1,cs1,rows1,w1,rfl,hB1,λL1 hL1=>?_⟩
  have s1:=same_new hL1 (.lst (cs1.map V.str))
  have h1:=upd_same (H:=H) (a:=L1) (o:=.lst (cs1.map V.str))
  generalize upd H L1 (.lst (cs1.map V.str)) = H1 at s1 h1 ⊢
  have hB2a:=hB2.kp (.of s1)
  obtain ⟨dx2,fs2,hb2,hm2⟩:=zc0 hB2a
  refine ⟨_,rfl,o2,BC,dx2,fs2,rfl,hb2,rfl,hm2 _ bmc,o2,cs2,rows2,w2,rfl,hB2a,λL2 hL2=>?_⟩
  have s2:=same_new hL2 (.lst (cs2.map V.str))
  have h2:=upd_same (H:=H1) (a:=L2) (o:=.lst (cs2.map V.str))
  generalize upd H1 L2 (.lst (cs2.map V.str)) = H2 at s2 h2 ⊢
  refine ⟨L1,L2,_,_,rfl,rfl,s2 _ _ h1,h2,zb6 (by rw [List.length_map,List.length_map]; omega),λL3 hL3=>?_⟩
  rw [<- List.map_append]
  have s3:=same_new hL3 (.lst ((cs1 ++ cs2).map V.str))
  have h3:=upd_same (H:=H2) (a:=L3) (o:=.lst ((cs1 ++ cs2).map V.str))
  generalize upd H2 L3 (.lst ((cs1 ++ cs2).map V.str)) = H3 at s3 h3 ⊢
  have w3:=s1.trans (s2.trans s3)
  refine ⟨L3,cs1 ++ cs2,rfl,h3,by rw [List.length_append]; omega,λhz H4 s4=>?_,λm H4 dx hm s4 hdx=>q3 m H4 dx hm (w3.trans s4) hdx⟩
  have w4:=w3.trans s4
  exact ⟨_,rfl,_,rfl,o1,o2,cs1,cs2,n1,n2,rfl,hT1.kp (.of w4),hT2.kp (.of w4),c51,c52,λhle b H5 s5 hT=>q1 hz hle b H5 _ (w4.trans s5) hT,λhgt H5 s5=>q2 hz hgt H5 (w4.trans s5)⟩
theorem scTg:FnScope ["one","other"] ["one","other"] (za1 zz9):=⟨rfl,rfl,rfl,by decide +kernel,rfl,by decide +kernel,by decide +kernel⟩
theorem xd3 (Fn:Fun K "together" "together" zz9 f fd) (X:Txt mg) (FC:Fam P w K mg base CX0 1 (· = BC) "columns" ["self"] (λ_=>zl2 T BC)) (FR:Fam P w K mg base CX0 1 (· = BC) "rows" ["self"] (λ_=>zh2 T BC))
    (C1:CalE P w K mg base "check_like" 1 ["columns","others"] (ym5 CU)) (C2:CalE P w K mg base "check_many" 1 ["rows"] (ym4 C)) (C3:Cal P w K mg base "narrowed" 46 ["table","names"] (zt8 T BC)) (C4:Cal P w K mg base "both_wholes" 45 ["one","other"] (yg5 T BC)) (MB:MkC P w K mg base "Table" BC 44 ["self","columns","rows","whole"] (spBI T BC)):FnOk P w K mg base (CXe P w) 48 f fd ["one","other"] (yc8 T BC CU C):=by
  obtain ⟨f1,d1,G1,b1,k1,m1⟩:=C1
  obtain ⟨f2,d2,G2,b2,k2,m2⟩:=C2
  obtain ⟨f3,d3,G3,b3,k3,m3⟩:=C3
  obtain ⟨f4,d4,G4,b4,k4,m4⟩:=C4
  obtain ⟨f5,d5,mk5,G5,b5,m5⟩:=MB
  refine Fun.okX (k:=47) Fn scTg (λvs H Q E h=>?_) (λcdv A outer s H vs Q E hr h=>?_)
  · obtain ⟨b1,b2,cs1,cs2,n1,n2,rfl,_⟩:=h
    rfl
  obtain ⟨o1,o2,cs1,cs2,n1,n2,rfl,hT1,hT2,q1,q2,q3⟩:=h
  have hr1:Room 1 _:=hr.mono (by decide)
  have hr45:Room 45 _:=hr.mono (by decide)
  have hr46:Room 46 _:=hr.mono (by decide)
  refine ⟨_,za3 (zd3 (za9 G1 hr1 rfl m1 k1 b1 .nil zs0 (za0 (za8 (pv 0) FC hr1 zb0) (za0 (za8 (pv 1) FC hr1 zb0) za2))))
    (za3 (zd3 (za9 G2 hr1 rfl m2 k2 b2 .nil zs0 (za0 (zc9 yh7 (zb4 zc3 rfl X.len PySem.boot_len (za0 (za8 (pv 0) FR hr1 zb0) za2)) (zb4 zc3 rfl X.len PySem.boot_len (za0 (za8 (pv 1) FR hr1 zb0) za2))) za2)))
    (PSs.nox (za4 (zb9 (zf9 mk5 G5 hr45 rfl m5 b5 .nil zb0 (za0 (za8 (pv 0) FC hr1 zb0) (za0 (zc9 zm3 (za8 (pv 0) FR hr1 zb0) (za8 (za9 G3 hr46 rfl m3 k3 b3 .nil zb0 (za0 (pv 1) (za0 (za8 (pv 0) FC hr1 zb0) za2))) FR hr1 zb0)) (za0 (za9 G4 hr45 rfl m4 k4 b4 .nil zb0 (za0 (pv 0) (za0 (pv 1) za2))) za2)))))))),?_⟩
  obtain ⟨rows1,w1,hB1,rn1,l1,hG1,ew1,nd1',c101⟩:=id hT1
  obtain ⟨rows2,w2,hB2,rn2,l2,hG2,ew2,nd2',c102⟩:=id hT2
  obtain ⟨dxa,fsa,hba,hma⟩:=zc0 hB1
  refine ⟨_,rfl,o1,BC,dxa,fsa,rfl,hba,rfl,hma _ bmc,o1,cs1,rows1,w1,rfl,hB1,λLa hLa=>?_⟩
  have sa:=same_new hLa (.lst (cs1.map V.str))
  have ha:=upd_same (H:=H) (a:=La) (o:=.lst (cs1.map V.str))
  generalize upd H La (.lst (cs1.map V.str)) = Ha at sa ha ⊢
  have hBa:=hB2.kp (.of sa)
  obtain ⟨dxb,fsb,hbb,hmb⟩:=zc0 hBa
  refine ⟨_,rfl,o2,BC,dxb,fsb,rfl,hbb,rfl,hmb _ bmc,o2,cs2,rows2,w2,rfl,hBa,λLb hLb=>?_⟩
  have sb:=same_new hLb (.lst (cs2.map V.str))
  have hb:=upd_same (H:=Ha) (a:=Lb) (o:=.lst (cs2.map V.str))
  generalize upd Ha Lb (.lst (cs2.map V.str)) = Hb at sb hb ⊢
  refine ⟨La,Lb,cs1,cs2,rfl,sb _ _ ha,hb,c101,c102,λhp H0 s0=>?_,λhp H0 s0=>q1 hp H0 (sa.trans (sb.trans s0))⟩
  have s0:=sa.trans (sb.trans s0)
  have hB1a:=hB1.kp (.of s0)
  obtain ⟨dx1,fs1,hb1,hm1⟩:=zc0 hB1a
  refine ⟨_,rfl,o1,BC,dx1,fs1,rfl,hb1,rfl,hm1 _ bmr,o1,cs1,rows1,w1,rfl,hB1a,λL1 xs1 hL1 hP1=>?_⟩
  have s1:=same_new hL1 (.lst xs1)
  have h1:=upd_same (H:=H0) (a:=L1) (o:=.lst xs1)
  generalize upd H0 L1 (.lst xs1) = H1 at s1 h1 ⊢
  have hB2a:=hB2.kp (.of (s0.trans s1))
  obtain ⟨dx2,fs2,hb2,hm2⟩:=zc0 hB2a
  refine ⟨L1,_,rfl,.inl (SqL.of h1),_,rfl,o2,BC,dx2,fs2,rfl,hb2,rfl,hm2 _ bmr,o2,cs2,rows2,w2,rfl,hB2a,λL2 xs2 hL2 hP2=>?_⟩
  have s2:=same_new hL2 (.lst xs2)
  have h2:=upd_same (H:=H1) (a:=L2) (o:=.lst xs2)
  generalize upd H1 L2 (.lst xs2) = H2 at s2 h2 ⊢
  have w2':=s0.trans (s1.trans s2)
  have e1:xs1.length = n1:=(plen hP1).trans rn1
  have e2:xs2.length = n2:=(plen hP2).trans rn2
  refine ⟨L2,_,rfl,.inl (SqL.of h2),_,_,rfl,rfl,n1 + n2,by rw [e1,e2]; rfl,λhle=>?_,λhgt=>q2 hp hgt H2 w2'⟩
  have hB1b:=hB1.kp (.of w2')
  obtain ⟨dx3,fs3,hb3,hm3⟩:=zc0 hB1b
  refine ⟨_,rfl,o1,BC,dx3,fs3,rfl,hb3,rfl,hm3 _ bmc,o1,cs1,rows1,w1,rfl,hB1b,λL3 hL3=>?_⟩
  have s3:=same_new hL3 (.lst (cs1.map V.str))
  have h3:=upd_same (H:=H2) (a:=L3) (o:=.lst (cs1.map V.str))
  generalize upd H2 L3 (.lst (cs1.map V.str)) = H3 at s3 h3 ⊢
  have w3:=w2'.trans s3
  have hB1c:=hB1.kp (.of w3)
  obtain ⟨dx4,fs4,hb4,hm4⟩:=zc0 hB1c
  refine ⟨_,rfl,o1,BC,dx4,fs4,rfl,hb4,rfl,hm4 _ bmr,o1,cs1,rows1,w1,rfl,hB1c,λL4 xs4 hL4 hP4=>?_⟩
  have s4:=same_new hL4 (.lst xs4)
  have h4:=upd_same (H:=H3) (a:=L4) (o:=.lst xs4)
  generalize upd H3 L4 (.lst xs4) = H4 at s4 h4 ⊢
  have w4:=w3.trans s4
  have hB1d:=hB1.kp (.of w4)
  obtain ⟨dx5,fs5,hb5,hm5⟩:=zc0 hB1d
  refine ⟨_,rfl,_,rfl,o1,BC,dx5,fs5,rfl,hb5,rfl,hm5 _ bmc,o1,cs1,rows1,w1,rfl,hB1d,λL5 hL5=>?_⟩
  have s5:=same_new hL5 (.lst (cs1.map V.str))
  have h5:=upd_same (H:=H4) (a:=L5) (o:=.lst (cs1.map V.str))
  generalize upd H4 L5 (.lst (cs1.map V.str)) = H5 at s5 h5 ⊢
  have w5:=w4.trans s5
  refine ⟨o2,L5,cs2,cs1,n2,rfl,hT2.kp (.of w5),h5,nd1',c101,λx hx=>hp.mem_iff.mp hx,λb' H6 s6 hT6=>?_⟩
  obtain ⟨rows6,w6c,hB6,rn6,l6,hG6,ew6,nd6,c106⟩:=id hT6
  obtain ⟨dx6,fs6,hb6,hm6⟩:=zc0 hB6
  refine ⟨b',BC,dx6,fs6,rfl,hb6,rfl,hm6 _ bmr,b',cs1,rows6,w6c,rfl,hB6,λL7 xs7 hL7 hP7=>?_⟩
  have s7:=same_new hL7 (.lst xs7)
  have h7:=upd_same (H:=H6) (a:=L7) (o:=.lst xs7)
  generalize upd H6 L7 (.lst xs7) = H7 at s7 h7 ⊢
  have s47:Same H4 H7:=s5.trans (s6.trans s7)
  have e4:xs4.length = n1:=(plen hP4).trans rn1
  have e7:xs7.length = n2:=(plen hP7).trans rn6
  refine ⟨L4,L7,_,_,rfl,rfl,s47 _ _ h4,h7,zb6 (by omega),λL8 hL8=>?_⟩
  have s8:=same_new hL8 (.lst (xs4 ++ xs7))
  have h8:=upd_same (H:=H7) (a:=L8) (o:=.lst (xs4 ++ xs7))
  generalize upd H7 L8 (.lst (xs4 ++ xs7)) = H8 at s8 h8 ⊢
  have w8:Same H H8:=w4.trans (s47.trans s8)
  have hP8:Paired (RowX T H8 H8) (xs4 ++ xs7) (rows1 ++ rows6):=papp (zf4 (.of (s4.trans (s47.trans s8))) hP4) (zf4 (.of (s7.trans s8)) hP7)
  refine ⟨_,rfl,_,rfl,o1,o2,cs1,cs2,n1,n2,rfl,hT1.kp (.of w8),hT2.kp (.of w8),λv c H9 s9 hC9 e9 d9=>λy dy hy hdy ney=>?_⟩
  have ms:=ze8 (C:=BC) hy hdy
  have eW:Emp c:=⟨e9,Nat.le_succ_of_le d9⟩
  have hGW:∀ r ∈ rows1 ++ rows6,GR r/\r.1.length = cs1.length:=λr hr'=>(List.mem_append.mp hr').elim (hG1 r) (hG6 r)
  have rlW:(rows1 ++ rows6).length = n1 + n2:=by rw [List.length_append,rn1,rn6]
  refine ⟨y,dy,L3,L8,v,cs1,_,rows1 ++ rows6,c,zw7,H9,rfl,upd_same,ms,hy,s9 _ _ (s8 _ _ (s47 _ _ (s4 _ _ h3))),nd1',c101,s9 _ _ h8,zl7 (zf4 (.of s9) hP8),λr hr'=>(hGW r hr').2,by omega,.inr hC9,by decide,zn8 (λr hr'=>(hGW r hr').1) eW,λHC_ kb hBC=>⟨rfl,?_⟩⟩
  exact q3 hp hle y HC_ _ (w8.trans (s9.trans (kb.same ms hy))) ⟨_,c,hBC,rlW,hle,hGW,eW,nd1',c101⟩
theorem scLs:FnScope ["one","other","others","rows","cells","cond"] ["one","other"] (za1 yq4):=⟨rfl,rfl,rfl,by decide +kernel,rfl,by decide +kernel,by decide +kernel⟩
theorem xm0 (Fn:Fun K "less" "less" yq4 f fd) (FC:Fam P w K mg base CX0 1 (· = BC) "columns" ["self"] (λ_=>zl2 T BC)) (FR:Fam P w K mg base CX0 1 (· = BC) "rows" ["self"] (λ_=>zh2 T BC))
    (C1:CalE P w K mg base "check_like" 1 ["columns","others"] (ym5 CU)) (C2:Cal P w K mg base "found_among" 45 ["cells","rows"] (yj7 T)) (C3:Cal P w K mg base "narrowed" 46 ["table","names"] (zt8 T BC)) (C4:Cal P w K mg base "both_wholes" 45 ["one","other"] (yg5 T BC)) (C6:Cal P w K mg base "all_of" 44 ["parts"] (zo4 T)) (M1:MkC P w K mg base "Opposite" T.p 42 ["self","part"] (spPI T 19)) (MB:MkC P w K mg base "Table" BC 44 ["self","columns","rows","whole"] (spBI T BC)):FnOk P w K mg base (CXe P w) 48 f fd ["one","other"] (ym6 T BC CU):=by
  obtain ⟨f1,d1,G1,b1,k1,m1⟩:=C1
  obtain ⟨f2,d2,G2,b2,k2,m2⟩:=C2
  obtain ⟨f3,d3,G3,b3,k3,m3⟩:=C3
  obtain ⟨f4,d4,G4,b4,k4,m4⟩:=C4
  obtain ⟨f6,d6,G6,b6,k6,m6⟩:=C6
  obtain ⟨f7,d7,mk7,G7,b7,m7⟩:=M1
  obtain ⟨f5,d5,mk5,G5,b5,m5⟩:=MB
  refine Fun.okX (k:=47) Fn scLs (λvs H Q E h=>?_) (λcdv A outer s H vs Q E hr h=>?_)
  · obtain ⟨b1,b2,cs1,cs2,n1,n2,rfl,_⟩:=h
    rfl
  obtain ⟨o1,o2,cs1,cs2,n1,n2,rfl,hT1,hT2,q1,q2⟩:=h
  have hr1:Room 1 _:=hr.mono (by decide)
  have hr43:Room 43 _:=hr.mono (by decide)
  have hr44:Room 44 _:=hr.mono (by decide)
  have hr45:Room 45 _:=hr.mono (by decide)
  have hr46:Room 46 _:=hr.mono (by decide)
  refine ⟨_,za3 (zd3 (za9 G1 hr1 rfl m1 k1 b1 .nil zs0 (za0 (za8 (pv 0) FC hr1 zb0) (za0 (za8 (pv 1) FC hr1 zb0) za2))))
    (PSs.nox (za3 (zc7 (i:=2) scLs.nd rfl (Or.inl rfl) (za8 (za9 G3 hr46 rfl m3 k3 b3 .nil zb0 (za0 (pv 1) (za0 (za8 (pv 0) FC hr1 zb0) za2))) FR hr1 zb0))
    (za3 (zc7 (i:=3) scLs.nd rfl (Or.inl rfl) (ze7 za2))
    (za3 (zi6 PassesOwn.never rfl (ze1 (za8 (pv 0) FR hr1 zb0)) (zo9 rfl (zc1 (zb2 (i:=4) scLs.nd rfl (Or.inl rfl)) (zc1 (zb2 (i:=5) scLs.nd rfl (Or.inl rfl)) zg8)))
      (za4 (zd3 (zz2 PySem.F.plainAttrs_list PySem.F.slot_list_append PySem.F.type_list_append zp5 (pv 3) (za0 (zg3 (za0 (pv 4) (za0 (za9 G6 hr44 rfl m6 k6 b6 .nil zb0 (za0 (ze7 (za0 (pv 5) (za0 (zf9 mk7 G7 hr43 rfl m7 b7 .nil zb0 (za0 (za9 G2 hr45 rfl m2 k2 b2 .nil zb0 (za0 (pv 4) (za0 (pv 2) za2))) za2)) za2))) za2)) za2))) za2)))))
    (za4 (zb9 (zf9 mk5 G5 hr45 rfl m5 b5 .nil zb0 (za0 (za8 (pv 0) FC hr1 zb0) (za0 (pv 3) (za0 (za9 G4 hr45 rfl m4 k4 b4 .nil zb0 (za0 (pv 0) (za0 (pv 1) za2))) za2)))))))))),?_⟩
  obtain ⟨rows1,w1,hB1,rn1,l1,hG1,ew1,nd1',c101⟩:=id hT1
  obtain ⟨rows2,w2,hB2,rn2,l2,hG2,ew2,nd2',c102⟩:=id hT2
  obtain ⟨dxa,fsa,hba,hma⟩:=zc0 hB1
  refine ⟨_,rfl,o1,BC,dxa,fsa,rfl,hba,rfl,hma _ bmc,o1,cs1,rows1,w1,rfl,hB1,λLa hLa=>?_⟩
  have sa:=same_new hLa (.lst (cs1.map V.str))
  have ha:=upd_same (H:=H) (a:=La) (o:=.lst (cs1.map V.str))
  generalize upd H La (.lst (cs1.map V.str)) = Ha at sa ha ⊢
  have hBa:=hB2.kp (.of sa)
  obtain ⟨dxb,fsb,hbb,hmb⟩:=zc0 hBa
  refine ⟨_,rfl,o2,BC,dxb,fsb,rfl,hbb,rfl,hmb _ bmc,o2,cs2,rows2,w2,rfl,hBa,λLb hLb=>?_⟩
  have sb:=same_new hLb (.lst (cs2.map V.str))
  have hb:=upd_same (H:=Ha) (a:=Lb) (o:=.lst (cs2.map V.str))
  generalize upd Ha Lb (.lst (cs2.map V.str)) = Hb at sb hb ⊢
  refine ⟨La,Lb,cs1,cs2,rfl,sb _ _ ha,hb,c101,c102,λhp H0 s0=>?_,λhp H0 s0=>q1 hp H0 (sa.trans (sb.trans s0))⟩
  have s0:=sa.trans (sb.trans s0)
  have hB1a:=hB1.kp (.of s0)
  obtain ⟨dx5,fs5,hb5,hm5⟩:=zc0 hB1a
  refine ⟨_,rfl,_,rfl,o1,BC,dx5,fs5,rfl,hb5,rfl,hm5 _ bmc,o1,cs1,rows1,w1,rfl,hB1a,λL5 hL5=>?_⟩
  have s5:=same_new hL5 (.lst (cs1.map V.str))
  have h5:=upd_same (H:=H0) (a:=L5) (o:=.lst (cs1.map V.str))
  generalize upd H0 L5 (.lst (cs1.map V.str)) = H5 at s5 h5 ⊢
  have w5:=s0.trans s5
  refine ⟨o2,L5,cs2,cs1,n2,rfl,hT2.kp (.of w5),h5,nd1',c101,λx hx=>hp.mem_iff.mp hx,λb' H6 s6 hT6=>?_⟩
  obtain ⟨rows6,w6c,hB6,rn6,l6,hG6,ew6,nd6,c106⟩:=id hT6
  obtain ⟨dx6,fs6,hb6,hm6⟩:=zc0 hB6
  refine ⟨b',BC,dx6,fs6,rfl,hb6,rfl,hm6 _ bmr,b',cs1,rows6,w6c,rfl,hB6,λL7 xs7 hL7 hP7=>?_⟩
  have s7:=same_new hL7 (.lst xs7)
  have h7:=upd_same (H:=H6) (a:=L7) (o:=.lst xs7)
  generalize upd H6 L7 (.lst xs7) = H7 at s7 h7 ⊢
  have hP7':Paired (RowX T H7 H7) xs7 rows6:=zf4 (.of s7) hP7
  refine ⟨zb6 (by simp),λD hD=>?_⟩
  have s8:=same_new hD (.lst [])
  have h8:=upd_same (H:=H7) (a:=D) (o:=.lst [])
  generalize upd H7 D (.lst []) = H8 at s8 h8 ⊢
  have w7:Same H H7:=w5.trans (s6.trans s7)
  have w8:=w7.trans s8
  have hD0:H D = none:=yv6 w7 hD
  have hB1c:=hB1.kp (.of w8)
  obtain ⟨dx4,fs4,hb4,hm4⟩:=zc0 hB1c
  refine ⟨_,rfl,o1,BC,dx4,fs4,rfl,hb4,rfl,hm4 _ bmr,o1,cs1,rows1,w1,rfl,hB1c,λL9 xs9 hL9 hP9=>?_⟩
  have s9:=same_new hL9 (.lst xs9)
  have h9:=upd_same (H:=H8) (a:=L9) (o:=.lst xs9)
  have n9D:L9 ≠ D:=λe=>by rw [e,h8] at hL9; cases hL9
  have n7D:L7 ≠ D:=λe=>by rw [e,hD] at h7; cases h7
  generalize upd H8 L9 (.lst xs9) = H9 at s9 h9 ⊢
  have h9D:=s9 _ _ h8
  have h97:=s9 _ _ (s8 _ _ h7)
  have len9:=plen hP9
  refine ⟨L9,rfl,⟨_,SqL.of h9⟩,zn5 (K:=K) (a:=L9) (xs:=xs9) (λi σ HA=>∃ (u4 u5:Option V) (zs:List V) (rows:List Row),σ = [some (.ref o1),some (.ref o2),some (.ref L7),some (.ref D),u4,u5]/\zb3 D H9 HA/\HA D = some (.lst zs)/\Paired (RowX T HA HA) zs rows/\rows.length = i/\∀ r ∈ rows,GR r/\r.1.length = cs1.length)
    ⟨none,none,[],[],rfl,zb3.refl _ _,h9D,.nil,rfl,λr h=>(nomatch h)⟩ (λi σ HA _ ⟨_,_,_,_,_,z,_⟩=>SqL.of (z _ _ n9D h9)) ?_ ?_⟩
  · rintro i x σ HA hi ⟨u4,u5,zs,rows,rfl,kA,hAD,hPA,rlA,hGA⟩
    obtain ⟨r,hri,a,rt,cv,rfl,ha,hrt,hC⟩:=pget hP9 hi
    have hil:=(List.getElem?_eq_some_iff.mp hri).1
    obtain ⟨⟨⟨is_,en,hbd⟩,he⟩,hw⟩:=hG1 r (List.mem_of_getElem? hri)
    have hnl:is_.length = cs1.length:=by rw [<- hw,en,List.length_map]
    rw [zo5 en] at hrt
    have kpA:Kp H9 HA:=kA.kp h9D
    have kpA8:Kp H8 HA:=⟨λb xs h=>kpA.tup _ _ (s9 _ _ h),λb C dx fs h=>kpA.ins _ _ _ _ (s9 _ _ h)⟩
    have kpA7:Kp H7 HA:=⟨λb xs h=>kpA8.tup _ _ (s8 _ _ h),λb C dx fs h=>kpA8.ins _ _ _ _ (s8 _ _ h)⟩
    have hA7:=kA _ _ n7D h97
    have hrtA:=kpA8.tup _ _ hrt
    refine ⟨a,_,rfl,SqT.of (kpA8.tup _ _ ha),rfl,_,_,rfl,_,_,rfl,rfl,?_⟩
    refine ⟨_,rfl,.inl ⟨rfl,_,SqL.of hAD⟩,_,rfl,_,rfl,_,rfl,_,rfl,rt,L7,is_,xs7,rows6,rfl,hrtA,hA7,zf4 kpA7 hP7',λr' hr'=>⟨(hG6 r' hr').1,by rw [hnl]; exact (hG6 r' hr').2⟩,by omega,by omega,λv c HB sB hCB eB dB=>λy dy hy hdy ney=>?_⟩
    have ms:=ze8 (C:=T.p) hy hdy
    refine ⟨y,dy,v,c,HB,rfl,upd_same,ms,hy,hCB,by omega,⟨[],by decide,by decide,λk h=>by rw [eB] at h; cases h⟩,λHC_ kb hCC=>⟨rfl,zb6 (by simp),λLD hLD=>?_⟩⟩
    have sC:=kb.same ms hy
    have sD:=same_new hLD (.lst [cv,.ref y])
    have hDl:=upd_same (H:=HC_) (a:=LD) (o:=.lst [cv,.ref y])
    generalize upd HC_ LD (.lst [cv,.ref y]) = HD at sD hDl ⊢
    have sAD:Same HA HD:=sB.trans (sC.trans sD)
    refine ⟨LD,_,[r.2,.opp c],rfl,hDl,yz6 ((hC.kp kpA8).kp (.of sAD)) (hCC.kp (.of sD)),(by show 2<=100; decide),λc' hc'=>?_,λv' c' HE sE hCE eE dE=>?_⟩
    · rcases List.mem_cons.mp hc' with rfl | hc'
      · exact zh0 he.1
      · rw [show c' = .opp c by simpa using hc']
        exact zh0 (show cells c = [] from eB)
    refine ⟨zb6 (by simp),λtp htp=>?_⟩
    have sF:=same_new htp (.tup [.ref rt,v'])
    have hF:=upd_same (H:=HE) (a:=tp) (o:=.tup [.ref rt,v'])
    generalize upd HE tp (.tup [.ref rt,v']) = HF at sF hF ⊢
    have sAF:Same HA HF:=sAD.trans (sE.trans sF)
    have hFD:=sAF _ _ hAD
    have zl:=plen hPA
    have kD:=ye6 (zs:=zs ++ [.ref tp]) hFD
    refine ⟨D,_,_,rfl,rfl,hFD,zb5 (by omega),_,_,zs ++ [.ref tp],rows ++ [(is_.map Sum.inl,c')],rfl,(kA.trans (zb3.of sAF)).trans zb3.upd,upd_same,yk1 (zf4 kD (zf4 (.of sAF) hPA)) ⟨tp,rt,v',rfl,kD.tup _ _ hF,kD.tup _ _ ?_,(hCE.kp (.of sF)).kp kD⟩,by rw [List.length_append,rlA]; rfl,λr' hr'=>?_⟩
    · rw [<- zs2]
      exact sAF _ _ hrtA
    · rcases List.mem_append.mp hr' with hr' | hr'
      · exact hGA r' hr'
      · rw [show r' = (is_.map Sum.inl,c') by simpa using hr']
        exact ⟨⟨⟨is_,rfl,hbd⟩,eE,Nat.le_succ_of_le dE⟩,by show (is_.map Sum.inl).length = _; rw [List.length_map,hnl]⟩
  rintro σ HA ⟨u4,u5,zs,rows,rfl,kA,hAD,hPA,rlA,hGA⟩
  have wA:Same H HA:=kA.same (w8.trans s9) hD0
  have hB1d:=hB1.kp (.of wA)
  obtain ⟨dx8,fs8,hb8,hm8⟩:=zc0 hB1d
  refine ⟨_,rfl,o1,BC,dx8,fs8,rfl,hb8,rfl,hm8 _ bmc,o1,cs1,rows1,w1,rfl,hB1d,λLB hLB=>?_⟩
  have sB:=same_new hLB (.lst (cs1.map V.str))
  have hBl:=upd_same (H:=HA) (a:=LB) (o:=.lst (cs1.map V.str))
  generalize upd HA LB (.lst (cs1.map V.str)) = HB at sB hBl ⊢
  have wB:=wA.trans sB
  refine ⟨_,rfl,_,rfl,_,rfl,o1,o2,cs1,cs2,n1,n2,rfl,hT1.kp (.of wB),hT2.kp (.of wB),λv c HC_ sC hCC eC dC=>λy dy hy hdy ney=>?_⟩
  have ms:=ze8 (C:=BC) hy hdy
  have eW:Emp c:=⟨eC,Nat.le_succ_of_le dC⟩
  have rlW:rows.length = n1:=by rw [rlA,len9,rn1]
  refine ⟨y,dy,LB,D,v,cs1,zs,rows,c,zw7,HC_,rfl,upd_same,ms,hy,sC _ _ hBl,nd1',c101,sC _ _ (sB _ _ hAD),zl7 (zf4 (.of (sB.trans sC)) hPA),λr hr'=>(hGA r hr').2,by omega,.inr hCC,by decide,zn8 (λr hr'=>(hGA r hr').1) eW,λHD kb hBD=>⟨rfl,?_⟩⟩
  exact q2 hp y HD _ (wB.trans (sC.trans (kb.same ms hy))) ⟨rows,c,hBD,rlW,l1,hGA,eW,nd1',c101⟩
end
abbrev lets:Str:="abcdefghijklmnopqrstuvwxyz"
theorem ye4:lets.cps.toList.length = 26:=by decide +kernel
theorem yr7:lets.length<=sizeLine:=zb6 (by decide +kernel)
theorem xm8:lets.cps.toList.Nodup:=by decide +kernel
theorem ym0 (x y:Str):(x ++ y).cps.toList = x.cps.toList ++ y.cps.toList:=Array.toList_append
theorem xn0 (x y:Str):(x ++ y).length = x.length + y.length:=by
  show (x ++ y).cps.size = x.cps.size + y.cps.size
  rw [<- Array.length_toList,ym0,List.length_append,Array.length_toList,Array.length_toList]
def chL (r:Int):Nat:=lets.cps.toList.getD (r % 26).toNat 0
theorem xb4 (r:Int):atI lets.cps.toList (r % 26) = some (chL r):=by
  have h0:0<=r % 26:=Int.emod_nonneg _ (by decide)
  have h1:r % 26 < 26:=Int.emod_lt_of_pos _ (by decide)
  obtain ⟨j,hj⟩:=Int.eq_ofNat_of_zero_le h0
  have hl:j < lets.cps.toList.length:=by rw [ye4]; omega
  unfold chL
  rw [hj,Int.toNat_natCast]
  refine zo3 ?_
  rw [List.getD_eq_getElem?_getD,List.getElem?_eq_getElem hl]
  rfl
def nmG:Nat->Int->Str->Str
  | 0,_,acc=>acc
  | n + 1,r,acc=>nmG n (r / 26) (acc ++ ⟨#[chL r]⟩)
def nm (c:Int):Str:=nmG (1 + c % 8).toNat (c / 8) ""
theorem yy2:∀ (n:Nat) (r:Int) (acc:Str),∃ t,(nmG n r acc).cps.toList = acc.cps.toList ++ t
  | 0,r,acc=>⟨[],by simp [nmG]⟩
  | n + 1,r,acc=>by
    obtain ⟨t,h⟩:=yy2 n (r / 26) (acc ++ ⟨#[chL r]⟩)
    exact ⟨[chL r] ++ t,by rw [nmG,h,ym0,List.append_assoc]⟩
theorem yn8 (c:Int):(nm c).cps.toList[0]? = some (chL (c / 8)):=by
  have h0:0<=c % 8:=Int.emod_nonneg _ (by decide)
  obtain ⟨n,hn⟩:∃ n,(1 + c % 8).toNat = n + 1:=⟨(c % 8).toNat,by omega⟩
  unfold nm
  rw [hn,nmG]
  obtain ⟨t,h⟩:=yy2 n (c / 8 / 26) ("" ++ ⟨#[chL (c / 8)]⟩)
  rw [h,ym0]
  rfl
theorem xr5 {c:Int} {i j:Nat} (hi:i < 26) (hj:j < 26) (h:nm (c + 8 * (i:Nat)) = nm (c + 8 * (j:Nat))):i = j:=by
  have h1:=yn8 (c + 8 * (i:Nat))
  rw [h,yn8] at h1
  have e:=Option.some.inj h1
  have d:∀ k:Nat,(c + 8 * (k:Nat)) / 8 = c / 8 + k:=λk=>by omega
  rw [d,d] at e
  have g1:=xb4 (c / 8 + j)
  have g2:=xb4 (c / 8 + i)
  rw [e] at g1
  obtain ⟨a,ha⟩:=Int.eq_ofNat_of_zero_le (Int.emod_nonneg (c / 8 + (j:Int)) (by decide:(26:Int) ≠ 0))
  obtain ⟨b,hb⟩:=Int.eq_ofNat_of_zero_le (Int.emod_nonneg (c / 8 + (i:Int)) (by decide:(26:Int) ≠ 0))
  have la:a < lets.cps.toList.length:=by have:=Int.emod_lt_of_pos (c / 8 + (j:Int)) (by decide:(0:Int) < 26); rw [ye4]; omega
  have lb:b < lets.cps.toList.length:=by have:=Int.emod_lt_of_pos (c / 8 + (i:Int)) (by decide:(0:Int) < 26); rw [ye4]; omega
  rw [ha,zo3 (List.getElem?_eq_getElem la)] at g1
  rw [hb,zo3 (List.getElem?_eq_getElem lb)] at g2
  have ab:a = b:=(List.getElem_inj xm8).mp ((Option.some.inj g1).trans (Option.some.inj g2).symm)
  omega
theorem xm6 (c:Int) {ws:List Str} (h:ws.length < 26):∃ k:Nat,nm (c + 8 * (k:Nat)) ∉ ws:=by
  apply Classical.byContradiction
  intro z
  have all:∀ k:Nat,nm (c + 8 * (k:Nat)) ∈ ws:=λk=>Classical.byContradiction λy=>z ⟨k,y⟩
  have nd:((List.range 26).map λk=>nm (c + 8 * ((k:Nat):Int))).Nodup:=by
    have hr:(List.range 26).Pairwise (λa b=>a < 26/\b < 26/\a ≠ b):=by decide
    exact List.pairwise_map.mpr (hr.imp λ⟨ha,hb,hn⟩ e=>hn (xr5 ha hb e))
  have:=zi2 nd (m:=ws) (λx hx=>by
    obtain ⟨k,_,rfl⟩:=List.mem_map.mp hx
    exact all k)
  rw [List.length_map,List.length_range] at this
  omega
def zu2 (K:W.Frag):Sp:=λvs H Q _=>∃ (a:Addr) (ns:List Int) (k:Nat),vs = [.ref a,.int k]/\SqL K H a (ns.map V.int)/\∀ z:Int,Q (.int z) H
def yv0:Sp:=λvs H Q _=>∃ c:Int,vs = [.int c]/\Q (.str (nm c)) H
def yd3 (K:W.Frag):Sp:=λvs H Q _=>∃ (sa oa:Addr) (ns:List Int) (os:List Str) (a m:Nat),vs = [.ref sa,.int a,.int m,.ref oa]/\SqL K H sa (ns.map V.int)/\H oa = some (.lst (os.map V.str))/\m<=5/\os.length<=8 /\
  ∀ (l:Addr) (fs:List Str) (H':Hp),Same H H'->H l = none->H' l = some (.lst (fs.map V.str))->fs.Nodup->(∀ x ∈ fs,x ∉ os)->fs.length = m->Q (.ref l) H'
section
variable {P:Program} {w:World} {K:W.Frag} {mg:Str->Option Value} {base:Heap} {f:Addr} {fd:FuncData}
theorem scCA:FnScope ["_law_script","_law_k"] ["_law_script","_law_k"] (za1 zr7):=⟨rfl,rfl,rfl,by decide +kernel,rfl,by decide +kernel,by decide +kernel⟩
theorem yx8 (Fn:Fun K "_law_cell_at" "_law_cell_at" zr7 f fd) (X:Txt mg):FnOk P w K mg base CX0 1 f fd ["_law_script","_law_k"] (zu2 K):=by
  refine Fn.ok scCA (λvs H Q E h=>?_) (λcdv A outer s H vs Q E hr h=>?_)
  · obtain ⟨a,ns,k,rfl,_⟩:=h
    rfl
  obtain ⟨a,ns,k,rfl,hS,q⟩:=h
  refine ⟨_,za3 (zg5 (zb7 xv2 (pv 1) (zb4 zc3 rfl X.len PySem.boot_len (za0 (pv 0) za2)) (zd0 _)) (za4 (zb9 (ye0 zs4 (pv 0) (pv 1) (λ_ _=>rfl)))) zb8)
    (za4 (zb9 zb1)),?_⟩
  refine ⟨_,rfl,_,rfl,a,_,rfl,.inl hS,_,_,rfl,rfl,_,rfl,?_⟩
  refine ite2 (λh1=>?_) (λ_=>q 0)
  have hk:k < ns.length:=by
    have:=of_decide_eq_true h1
    rw [List.length_map] at this
    omega
  refine ⟨_,rfl,_,rfl,a,_,_,_,rfl,rfl,hS,zo3 (v:=.int ns[k]) ?_,q _⟩
  rw [List.getElem?_map,List.getElem?_eq_getElem hk]
  rfl
theorem scNm:FnScope ["_law_cell","_law_rest","_law_name_here","_law_k"] ["_law_cell"] (za1 yq1):=⟨rfl,rfl,rfl,by decide +kernel,rfl,by decide +kernel,by decide +kernel⟩
theorem xl7 (Fn:Fun K "_law_name" "_law_name" yq1 f fd) (X:Txt mg):FnOk P w K mg base CX0 1 f fd ["_law_cell"] yv0:=by
  refine Fn.ok scNm (λvs H Q E h=>?_) (λcdv A outer s H vs Q E hr h=>?_)
  · obtain ⟨c,rfl,_⟩:=h
    rfl
  obtain ⟨c,rfl,q⟩:=h
  refine ⟨_,za3 (zc7 (i:=1) scNm.nd rfl (Or.inl rfl) (zc9 zh3 (pv 0) zb1))
    (za3 (zc7 (i:=2) scNm.nd rfl (Or.inl rfl) zg7)
    (za3 (zi6 PassesOwn.never rfl (zo8 rfl X.range (za0 (zc9 yh7 zb1 (zc9 zg9 (pv 0) zb1)) za2)) (zb2 (i:=3) scNm.nd rfl (Or.inl rfl))
      (za3 (zc7 (i:=2) scNm.nd rfl (Or.inl rfl) (zc9 yr1 (pv 2) (ye0 xt1 zg7 (zc9 zg9 (pv 1) zb1) (λ_ _=>rfl))))
      (za4 (zc7 (i:=1) scNm.nd rfl (Or.inl rfl) (zc9 zh3 (pv 1) zb1)))))
    (za4 (zb9 (pv 2))))),?_⟩
  have h0:0<=c % 8:=Int.emod_nonneg _ (by decide)
  have h8:c % 8 < 8:=Int.emod_lt_of_pos _ (by decide)
  refine ⟨_,rfl,_,_,rfl,rfl,⟨by decide,by decide⟩,?_⟩
  refine ⟨_,rfl,_,_,rfl,rfl,(by decide:(0:Int) < 8),_,_,rfl,rfl,_,rfl,by omega,by omega,yi5 (lo:=0) (n:=(1 + c % 8).toNat) (λi σ H2=>∃ (r:Int) (acc:Str) (u:Option V),σ = [some (.int c),some (.int r),some (.str acc),u]/\H2 = H/\acc.length = i/\i<=(1 + c % 8).toNat/\nmG ((1 + c % 8).toNat - i) r acc = nm c)
    ⟨c / 8,"",none,rfl,rfl,rfl,Nat.zero_le _,rfl⟩ ?_ ?_⟩
  · rintro i σ H2 hi ⟨r,acc,u,rfl,rfl,al,hle,hn⟩
    refine ⟨_,rfl,_,rfl,_,_,rfl,rfl,(by decide:(0:Int) < 26),_,_,_,rfl,rfl,yr7,xb4 r,_,_,rfl,rfl,(by show acc.length + 1<=sizeLine; exact zb6 (by omega)),?_⟩
    refine ⟨_,rfl,_,_,rfl,rfl,⟨by decide,by decide⟩,r / 26,acc ++ ⟨#[chL r]⟩,_,rfl,rfl,by rw [xn0,al]; rfl,hi,?_⟩
    rw [<- hn,show (1 + c % 8).toNat - i = ((1 + c % 8).toNat - (i + 1)) + 1 by omega,nmG]
  · rintro σ H2 ⟨r,acc,u,rfl,rfl,al,hle,hn⟩
    rw [Nat.sub_self] at hn
    refine ⟨_,rfl,?_⟩
    rw [show acc = nm c from hn]
    exact q
theorem scNs:FnScope ["_law_script","_law_at","_law_many","_law_out","_law_found","_law_k","_law_cell"] ["_law_script","_law_at","_law_many","_law_out"] (za1 ya5):=⟨rfl,rfl,rfl,by decide +kernel,rfl,by decide +kernel,by decide +kernel⟩
theorem xe0 (Fn:Fun K "_law_names" "_law_names" ya5 f fd) (X:Txt mg) (C1:Cal P w K mg base "_law_cell_at" 1 ["_law_script","_law_k"] (zu2 K)) (C2:Cal P w K mg base "_law_name" 1 ["_law_cell"] yv0):FnOk P w K mg base CX0 2 f fd ["_law_script","_law_at","_law_many","_law_out"] (yd3 K):=by
  obtain ⟨f1,d1,G1,b1,k1,m1⟩:=C1
  obtain ⟨f2,d2,G2,b2,k2,m2⟩:=C2
  refine Fn.ok (k:=1) scNs (λvs H Q E h=>?_) (λcdv A outer s H vs Q E hr h=>?_)
  · obtain ⟨sa,oa,ns,os,a,m,rfl,_⟩:=h
    rfl
  obtain ⟨sa,oa,ns,os,a,m,rfl,hS,hoa,hm,ol,q⟩:=h
  refine ⟨_,za3 (zc7 (i:=4) scNs.nd rfl (Or.inl rfl) (ze7 za2))
    (za3 (zi6 PassesOwn.never rfl (zo8 rfl X.range (za0 (pv 2) za2)) (zb2 (i:=5) scNs.nd rfl (Or.inl rfl))
      (za3 (zc7 (i:=6) scNs.nd rfl (Or.inl rfl) (za9 G1 hr rfl m1 k1 b1 .nil zb0 (za0 (pv 0) (za0 (zc9 yh7 (pv 1) (pv 5)) za2))))
      (za3 (xc9 PassesOwn.never (zb7 zm2 (za9 G2 hr rfl m2 k2 b2 .nil zb0 (za0 (pv 6) za2)) (zc9 zm3 (pv 4) (pv 3)) rfl)
        (za4 (zc7 (i:=6) scNs.nd rfl (Or.inl rfl) (zc9 yh7 (pv 6) zb1))))
      (za4 (zd3 (zz2 PySem.F.plainAttrs_list PySem.F.slot_list_append PySem.F.type_list_append zp5 (pv 4) (za0 (za9 G2 hr rfl m2 k2 b2 .nil zb0 (za0 (pv 6) za2)) za2)))))))
    (za4 (zb9 (pv 4)))),?_⟩
  refine ⟨zb6 (by simp),λD hD=>?_⟩
  have s1:=same_new hD (.lst [])
  have h1:=upd_same (H:=H) (a:=D) (o:=.lst [])
  generalize upd H D (.lst []) = H1 at s1 h1 ⊢
  refine ⟨_,rfl,_,rfl,by omega,by omega,yi5 (lo:=0) (n:=((m:Nat):Int).toNat) (λi σ H2=>∃ (u5 u6:Option V) (fs:List Str),σ = [some (.ref sa),some (.int a),some (.int m),some (.ref oa),some (.ref D),u5,u6]/\Same H H2/\H2 D = some (.lst (fs.map V.str))/\fs.Nodup/\(∀ x ∈ fs,x ∉ os)/\fs.length = i)
    ⟨none,none,[],rfl,s1,h1,List.nodup_nil,λx h=>(nomatch h),rfl⟩ ?_ ?_⟩
  · rintro i σ H2 hi ⟨u5,u6,fs,rfl,s2,h2,nd,dj,fl⟩
    refine ⟨_,rfl,_,rfl,_,rfl,_,_,rfl,rfl,sa,ns,a + i,?_,s2.seq hS,λz=>?_⟩
    · rw [Int.zero_add]; rfl
    obtain ⟨k,hk⟩:=xm6 z (ws:=fs ++ os) (by rw [List.length_append]; omega)
    refine ⟨λm' σ H3=>∃ (c:Int),σ = [some (.ref sa),some (.int a),some (.int m),some (.ref oa),some (.ref D),some (.int (0 + (i:Nat))),some (.int c)]/\Same H2 H3/\nm (c + 8 * (m':Nat)) ∉ fs ++ os,⟨k,z,rfl,Same.refl _,hk⟩,?_⟩
    rintro m' σ H3 ⟨c,rfl,s3,hf⟩
    have h3:=s3 _ _ h2
    have h3o:=s3 _ _ (s2 _ _ hoa)
    refine ⟨_,rfl,c,rfl,_,rfl,_,rfl,D,oa,_,_,rfl,rfl,h3,h3o,zb6 (by rw [List.length_map,List.length_map]; omega),λL hL=>?_⟩
    rw [<- List.map_append]
    have s4:=same_new hL (.lst ((fs ++ os).map V.str))
    have h4:=upd_same (H:=H3) (a:=L) (o:=.lst ((fs ++ os).map V.str))
    generalize upd H3 L (.lst ((fs ++ os).map V.str)) = H4 at s4 h4 ⊢
    refine ⟨L,_,rfl,.inl (SqL.of h4),rfl,zf0 _,_,rfl,?_⟩
    show (if inV (.str (nm c)) ((fs ++ os).map V.str) = true then _ else _)
    rw [zs6]
    by_cases hc:nm c ∈ fs ++ os
    · refine zm6 (decide_eq_true hc) ⟨λσ' H'=>∃ m'',m'' < m'/\∃ (c:Int),σ' = [some (.ref sa),some (.int a),some (.int m),some (.ref oa),some (.ref D),some (.int (0 + (i:Nat))),some (.int c)]/\Same H2 H'/\nm (c + 8 * (m'':Nat)) ∉ fs ++ os,λσ' H' h=>h,?_⟩
      cases m' with
      | zero=>exact absurd (by simpa using hc) hf
      | succ m''=>
        refine ⟨_,rfl,_,_,rfl,rfl,m'',Nat.lt_succ_self _,c + 8,rfl,s3.trans s4,?_⟩
        rw [show c + 8 + 8 * ((m'':Nat):Int) = c + 8 * ((m'' + 1:Nat):Int) by omega]
        exact hf
    · have w4:=s3.trans s4
      have h4D:=w4 _ _ h2
      refine zf7 (decide_eq_false hc) ⟨_,rfl,.inl ⟨rfl,_,SqL.of h4D⟩,_,rfl,c,rfl,D,_,_,rfl,rfl,h4D,zb5 (by rw [List.length_map]; omega),_,_,fs ++ [nm c],rfl,zc4 (s2.trans w4) hD _,by rw [upd_same,List.map_append]; rfl,?_,λx hx=>?_,by rw [List.length_append,fl]; rfl⟩
      · rw [List.nodup_append]
        refine ⟨nd,by simp,λx hx y hy e=>?_⟩
        rw [show y = nm c by simpa using hy] at e
        exact hc (List.mem_append_left _ (e ▸ hx))
      · rcases List.mem_append.mp hx with hx | hx
        · exact dj x hx
        · rw [show x = nm c by simpa using hx]
          exact λz=>hc (List.mem_append_right _ z)
  · rintro σ H2 ⟨u5,u6,fs,rfl,s2,h2,nd,dj,fl⟩
    exact ⟨_,rfl,q D fs H2 s2 hD h2 nd dj (by omega)⟩
end
theorem zu9 {ns:List Str} {z:Int} (h:0<=z):cutV (ns.map V.str) none (some z) = (ns.take z.toNat).map V.str:=by
  obtain ⟨i,rfl⟩:=Int.eq_ofNat_of_zero_le h
  exact xb3
theorem yf4 {ns:List Str} {z:Int} (h:0<=z):cutV (ns.map V.str) (some z) none = (ns.drop z.toNat).map V.str:=by
  obtain ⟨i,rfl⟩:=Int.eq_ofNat_of_zero_le h
  unfold cutV
  rw [HT.sIx_nat]
  show ((ns.map V.str).drop (min i (ns.map V.str).length)).take ((ns.map V.str).length - min i (ns.map V.str).length) = _
  rw [List.length_map,<- List.map_drop,List.take_of_length_le (by rw [List.length_map,List.length_drop]; exact Nat.le_refl _),Int.toNat_natCast]
  congr 1
  rcases Nat.le_total i ns.length with h | h
  · rw [Nat.min_eq_left h]
  · rw [Nat.min_eq_right h,List.drop_length,List.drop_of_length_le h]
def yd2 (K:W.Frag):Sp:=λvs H Q _=>∃ (sa ca:Addr) (ns:List Int) (cs:List Str) (way:Int),vs = [.ref sa,.ref ca,.int way]/\0<=way/\SqL K H sa (ns.map V.int)/\H ca = some (.lst (cs.map V.str))/\cs.Nodup/\cs.length<=4 /\
  ∀ (l:Addr) (os:List Str) (H':Hp),Same H H'->H' l = some (.lst (os.map V.str))->os.Nodup->os.length<=5->Q (.ref l) H'
theorem yy3 {α:Type} {l m:List α} (h:l.Sublist m) (nd:m.Nodup):l.Nodup:=List.Nodup.sublist h nd
theorem xj7 {cs:List Str} {j:Nat} {x:Str}:x ∈ cs.drop j ++ cs.take j ↔ x ∈ cs:=by
  rw [List.mem_append]
  constructor
  · rintro (h | h)
    · exact List.mem_of_mem_drop h
    · exact List.mem_of_mem_take h
  · intro h
    rw [<- List.take_append_drop j cs] at h
    exact (List.mem_append.mp h).symm
theorem xp7 {cs:List Str} {j:Nat} (nd:cs.Nodup):(cs.drop j ++ cs.take j).Nodup:=by
  have:(cs.take j ++ cs.drop j).Nodup:=by rw [List.take_append_drop]; exact nd
  exact (List.perm_append_comm.nodup_iff).mp this
section
variable {P:Program} {w:World} {K:W.Frag} {mg:Str->Option Value} {base:Heap} {f:Addr} {fd:FuncData}
theorem scOt:FnScope ["_law_script","_law_columns","_law_way","_law_others_here","_law_more"] ["_law_script","_law_columns","_law_way"] (za1 zr1):=⟨rfl,rfl,rfl,by decide +kernel,rfl,by decide +kernel,by decide +kernel⟩
theorem yx1 (Fn:Fun K "_law_others" "_law_others" zr1 f fd) (X:Txt mg) (C1:Cal P w K mg base "_law_names" 2 ["_law_script","_law_at","_law_many","_law_out"] (yd3 K)):FnOk P w K mg base CX0 3 f fd ["_law_script","_law_columns","_law_way"] (yd2 K):=by
  obtain ⟨f1,d1,G1,b1,k1,m1⟩:=C1
  refine Fn.ok (k:=2) scOt (λvs H Q E h=>?_) (λcdv A outer s H vs Q E hr h=>?_)
  · obtain ⟨sa,ca,ns,cs,way,rfl,_⟩:=h
    rfl
  obtain ⟨sa,ca,ns,cs,way,rfl,hw,hS,hca,nd,cl,q⟩:=h
  refine ⟨_,za3 (zc7 (i:=3) scOt.nd rfl (Or.inl rfl) (zc9 zm3 (zi7 zl5 (pv 1) (zl9 (zc9 zg9 (pv 2) zb1)) zm0) (zi7 zl5 (pv 1) zm0 (zl9 (zc9 zg9 (pv 2) zb1)))))
    (za3 (zc7 (i:=4) scOt.nd rfl (Or.inl rfl) (za9 G1 hr rfl m1 k1 b1 .nil zb0 (za0 (pv 0) (za0 zb1 (za0 zb1 (za0 (pv 1) za2))))))
    (za3 (zg5 (zb7 zp2 (zc9 zg9 (zc9 zh3 (pv 2) zb1) zb1) zb1 (zd0 _)) (za4 (zc7 (i:=3) scOt.nd rfl (Or.inl rfl) (zi7 zl5 (pv 3) (zl9 zb1) zm0))) zb8)
    (za3 (zg5 (zb7 zp2 (zc9 zg9 (zc9 zh3 (pv 2) zb1) zb1) zb1 (zd0 _)) (za4 (zc7 (i:=3) scOt.nd rfl (Or.inl rfl) (zc9 zm3 (zc9 zm3 (zi7 zl5 (pv 3) zm0 (zl9 (zc9 zg9 (zc9 zh3 (pv 2) zb1) zb1))) (zi7 zl5 (pv 4) zm0 (zl9 zb1))) (zi7 zl5 (pv 3) (zl9 (zc9 zg9 (zc9 zh3 (pv 2) zb1) zb1)) zm0)))) zb8)
    (za3 (zg5 (zb7 zp2 (zc9 zg9 (zc9 zh3 (pv 2) zb1) zb1) zb1 (zd0 _)) (za4 (zc7 (i:=3) scOt.nd rfl (Or.inl rfl) (zc9 zm3 (zi7 zl5 (pv 3) zm0 (zl9 (zc9 zg9 (zc9 zh3 (pv 2) zb1) zb1))) (pv 4)))) zb8)
    (za4 (zb9 (pv 3))))))),?_⟩
  have h3:0<=way % 3:=Int.emod_nonneg _ (by decide)
  have h12:0<=way / 12 % 3:=Int.emod_nonneg _ (by decide)
  refine ⟨_,rfl,_,rfl,_,_,rfl,rfl,(by decide:(0:Int) < 3),_,rfl,ca,_,rfl,SqL.of hca,λL1 hL1=>?_⟩
  rw [yf4 h3]
  have s1:=same_new hL1 (.lst ((cs.drop (way % 3).toNat).map V.str))
  have g1:=upd_same (H:=H) (a:=L1) (o:=.lst ((cs.drop (way % 3).toNat).map V.str))
  generalize upd H L1 (.lst ((cs.drop (way % 3).toNat).map V.str)) = H1 at s1 g1 ⊢
  refine ⟨_,rfl,_,rfl,_,_,rfl,rfl,(by decide:(0:Int) < 3),_,rfl,ca,_,rfl,SqL.of (s1 _ _ hca),λL2 hL2=>?_⟩
  rw [zu9 h3]
  have s2:=same_new hL2 (.lst ((cs.take (way % 3).toNat).map V.str))
  have g2:=upd_same (H:=H1) (a:=L2) (o:=.lst ((cs.take (way % 3).toNat).map V.str))
  generalize upd H1 L2 (.lst ((cs.take (way % 3).toNat).map V.str)) = H2 at s2 g2 ⊢
  refine ⟨L1,L2,_,_,rfl,rfl,s2 _ _ g1,g2,zb6 (by rw [List.length_map,List.length_map,List.length_drop,List.length_take]; omega),λL3 hL3=>?_⟩
  rw [<- List.map_append]
  have rm:=@xj7 cs (way % 3).toNat
  have rn:=xp7 (j:=(way % 3).toNat) nd
  have rl:(cs.drop (way % 3).toNat ++ cs.take (way % 3).toNat).length<=4:=by rw [List.length_append,List.length_drop,List.length_take]; omega
  generalize cs.drop (way % 3).toNat ++ cs.take (way % 3).toNat = os at rm rn rl ⊢
  have s3:=same_new hL3 (.lst (os.map V.str))
  have g3:=upd_same (H:=H2) (a:=L3) (o:=.lst (os.map V.str))
  generalize upd H2 L3 (.lst (os.map V.str)) = H3 at s3 g3 ⊢
  have w3:=s1.trans (s2.trans s3)
  refine ⟨_,rfl,_,rfl,sa,ca,ns,cs,6,2,rfl,w3.seq hS,w3 _ _ hca,by decide,by omega,λL4 ms H4 s4 _ g4 mnd mdj ml=>?_⟩
  have w4:=w3.trans s4
  have g3':=s4 _ _ g3
  refine ⟨_,rfl,_,_,rfl,rfl,⟨by decide,by decide⟩,_,_,rfl,rfl,(by decide:(0:Int) < 4),rfl,_,rfl,?_⟩
  by_cases c1:way / 3 % 4 = 1
  · refine zm6 (by rw [ze6,c1]; rfl) ⟨_,rfl,_,rfl,L3,_,rfl,SqL.of g3',λL5 hL5=>?_⟩
    rw [yf4 (by decide)]
    have s5:=same_new hL5 (.lst ((os.drop (1:Int).toNat).map V.str))
    have g5:=upd_same (H:=H4) (a:=L5) (o:=.lst ((os.drop (1:Int).toNat).map V.str))
    generalize upd H4 L5 (.lst ((os.drop (1:Int).toNat).map V.str)) = H5 at s5 g5 ⊢
    refine ⟨_,rfl,_,_,rfl,rfl,⟨by decide,by decide⟩,_,_,rfl,rfl,(by decide:(0:Int) < 4),rfl,_,rfl,zf7 (by rw [ze6,c1]; rfl) ?_⟩
    refine ⟨_,rfl,_,_,rfl,rfl,⟨by decide,by decide⟩,_,_,rfl,rfl,(by decide:(0:Int) < 4),rfl,_,rfl,zf7 (by rw [ze6,c1]; rfl) ?_⟩
    exact ⟨_,rfl,q L5 _ H5 (w4.trans s5) g5 (yy3 (List.drop_sublist _ _) rn) (by rw [List.length_drop]; omega)⟩
  refine zf7 (by rw [ze6]; exact decide_eq_false c1) ?_
  refine ⟨_,rfl,_,_,rfl,rfl,⟨by decide,by decide⟩,_,_,rfl,rfl,(by decide:(0:Int) < 4),rfl,_,rfl,?_⟩
  have pre_mem:∀ x ∈ os.take (way / 12 % 3).toNat,x ∉ ms:=λx hx hm=>mdj x hm (rm.mp (List.mem_of_mem_take hx))
  have suf_mem:∀ x ∈ os.drop (way / 12 % 3).toNat,x ∉ ms:=λx hx hm=>mdj x hm (rm.mp (List.mem_of_mem_drop hx))
  by_cases c2:way / 3 % 4 = 2
  · refine zm6 (by rw [ze6,c2]; rfl) ⟨_,rfl,_,rfl,_,_,rfl,rfl,⟨by decide,by decide⟩,_,_,rfl,rfl,(by decide:(0:Int) < 3),_,rfl,L3,_,rfl,SqL.of g3',λL5 hL5=>?_⟩
    rw [zu9 h12]
    have s5:=same_new hL5 (.lst ((os.take (way / 12 % 3).toNat).map V.str))
    have g5:=upd_same (H:=H4) (a:=L5) (o:=.lst ((os.take (way / 12 % 3).toNat).map V.str))
    generalize upd H4 L5 (.lst ((os.take (way / 12 % 3).toNat).map V.str)) = H5 at s5 g5 ⊢
    refine ⟨_,rfl,_,rfl,L4,_,rfl,SqL.of (s5 _ _ g4),λL6 hL6=>?_⟩
    rw [zu9 (by decide)]
    have s6:=same_new hL6 (.lst ((ms.take (1:Int).toNat).map V.str))
    have g6:=upd_same (H:=H5) (a:=L6) (o:=.lst ((ms.take (1:Int).toNat).map V.str))
    generalize upd H5 L6 (.lst ((ms.take (1:Int).toNat).map V.str)) = H6 at s6 g6 ⊢
    refine ⟨L5,L6,_,_,rfl,rfl,s6 _ _ g5,g6,zb6 (by rw [List.length_map,List.length_map,List.length_take,List.length_take]; omega),λL7 hL7=>?_⟩
    rw [<- List.map_append]
    have s7:=same_new hL7 (.lst ((os.take (way / 12 % 3).toNat ++ ms.take (1:Int).toNat).map V.str))
    have g7:=upd_same (H:=H6) (a:=L7) (o:=.lst ((os.take (way / 12 % 3).toNat ++ ms.take (1:Int).toNat).map V.str))
    generalize upd H6 L7 (.lst ((os.take (way / 12 % 3).toNat ++ ms.take (1:Int).toNat).map V.str)) = H7 at s7 g7 ⊢
    have w7:=s5.trans (s6.trans s7)
    refine ⟨_,rfl,_,rfl,_,_,rfl,rfl,⟨by decide,by decide⟩,_,_,rfl,rfl,(by decide:(0:Int) < 3),_,rfl,L3,_,rfl,SqL.of (w7 _ _ g3'),λL8 hL8=>?_⟩
    rw [yf4 h12]
    have s8:=same_new hL8 (.lst ((os.drop (way / 12 % 3).toNat).map V.str))
    have g8:=upd_same (H:=H7) (a:=L8) (o:=.lst ((os.drop (way / 12 % 3).toNat).map V.str))
    generalize upd H7 L8 (.lst ((os.drop (way / 12 % 3).toNat).map V.str)) = H8 at s8 g8 ⊢
    refine ⟨L7,L8,_,_,rfl,rfl,s8 _ _ g7,g8,zb6 (by rw [List.length_map,List.length_map,List.length_append,List.length_take,List.length_take,List.length_drop]; omega),λL9 hL9=>?_⟩
    rw [<- List.map_append]
    have s9:=same_new hL9 (.lst ((os.take (way / 12 % 3).toNat ++ ms.take (1:Int).toNat ++ os.drop (way / 12 % 3).toNat).map V.str))
    have g9:=upd_same (H:=H8) (a:=L9) (o:=.lst ((os.take (way / 12 % 3).toNat ++ ms.take (1:Int).toNat ++ os.drop (way / 12 % 3).toNat).map V.str))
    generalize upd H8 L9 (.lst ((os.take (way / 12 % 3).toNat ++ ms.take (1:Int).toNat ++ os.drop (way / 12 % 3).toNat).map V.str)) = H9 at s9 g9 ⊢
    refine ⟨_,rfl,_,_,rfl,rfl,⟨by decide,by decide⟩,_,_,rfl,rfl,(by decide:(0:Int) < 4),rfl,_,rfl,zf7 (by rw [ze6,c2]; rfl) ?_⟩
    refine ⟨_,rfl,q L9 _ H9 (w4.trans (w7.trans (s8.trans s9))) g9 ?_ ?_⟩
    · have hod:(os.take (way / 12 % 3).toNat ++ os.drop (way / 12 % 3).toNat).Nodup:=by rw [List.take_append_drop]; exact rn
      obtain ⟨n1,n2,n3⟩:=List.nodup_append.mp hod
      rw [List.nodup_append]
      refine ⟨?_,n2,λx hx y hy e=>?_⟩
      · rw [List.nodup_append]
        exact ⟨n1,yy3 (List.take_sublist _ _) mnd,λx hx y hy e=>pre_mem x hx (e ▸ List.mem_of_mem_take hy)⟩
      · subst e
        rcases List.mem_append.mp hx with hx | hx
        · exact n3 x hx x hy rfl
        · exact suf_mem x hy (List.mem_of_mem_take hx)
    · rw [List.length_append,List.length_append,List.length_take,List.length_take,List.length_drop]
      have:(1:Int).toNat = 1:=rfl
      omega
  refine zf7 (by rw [ze6]; exact decide_eq_false c2) ?_
  refine ⟨_,rfl,_,_,rfl,rfl,⟨by decide,by decide⟩,_,_,rfl,rfl,(by decide:(0:Int) < 4),rfl,_,rfl,?_⟩
  by_cases c3:way / 3 % 4 = 3
  · refine zm6 (by rw [ze6,c3]; rfl) ⟨_,rfl,_,rfl,_,_,rfl,rfl,⟨by decide,by decide⟩,_,_,rfl,rfl,(by decide:(0:Int) < 3),_,rfl,L3,_,rfl,SqL.of g3',λL5 hL5=>?_⟩
    rw [zu9 h12]
    have s5:=same_new hL5 (.lst ((os.take (way / 12 % 3).toNat).map V.str))
    have g5:=upd_same (H:=H4) (a:=L5) (o:=.lst ((os.take (way / 12 % 3).toNat).map V.str))
    generalize upd H4 L5 (.lst ((os.take (way / 12 % 3).toNat).map V.str)) = H5 at s5 g5 ⊢
    refine ⟨_,rfl,L5,L4,_,_,rfl,rfl,g5,s5 _ _ g4,zb6 (by rw [List.length_map,List.length_map,List.length_take]; omega),λL6 hL6=>?_⟩
    rw [<- List.map_append]
    have s6:=same_new hL6 (.lst ((os.take (way / 12 % 3).toNat ++ ms).map V.str))
    refine ⟨_,rfl,q L6 _ _ (w4.trans (s5.trans s6)) upd_same ?_ ?_⟩
    · rw [List.nodup_append]
      exact ⟨yy3 (List.take_sublist _ _) rn,mnd,λx hx y hy e=>pre_mem x hx (e ▸ hy)⟩
    · have h2':way / 12 % 3 < 3:=Int.emod_lt_of_pos _ (by decide)
      rw [List.length_append,List.length_take,ml]
      omega
  refine zf7 (by rw [ze6]; exact decide_eq_false c3) ?_
  exact ⟨_,rfl,q L3 os H4 w4 g3' rn (by omega)⟩
end
theorem at0 {v:V} {xs:List V}:atI (v :: xs) 0 = some v:=zo3 (j:=0) rfl
def cnt (way n1 n2:Nat):Nat:=[n1 * n2,n1 * n2,n1 + n2,n1].getD way 0
def yv1:Sp:=λvs H Q _=>∃ (ca oa:Addr) (cs os:List Str) (way n1 n2:Nat),vs = [.int way,.ref ca,.ref oa,.int n1,.int n2]/\way < 4/\n1<=24/\n2<=24/\H ca = some (.lst (cs.map V.str))/\H oa = some (.lst (os.map V.str))/\cs.length<=5/\os.length<=5 /\
  (way = 0->∀ m t H',yf9 (shr cs os) m->Same H H'->H' t = some (.tup [.str "twice",.str m])->Q (.ref t) H') /\
  ((way = 0->shr cs os = [])->1 < way->¬ cs.Perm os->∀ t H',Same H H'->H' t = some (.tup [.str "unlike",.str ""])->Q (.ref t) H') /\
  ((way = 0->shr cs os = [])->(1 < way->cs.Perm os)->24 < cnt way n1 n2->∀ t H',Same H H'->H' t = some (.tup [.str "many",.str ""])->Q (.ref t) H') /\
  ((way = 0->shr cs os = [])->(1 < way->cs.Perm os)->cnt way n1 n2<=24->∀ t H',Same H H'->H' t = some (.tup [.str "rows",.int (cnt way n1 n2:Nat)])->Q (.ref t) H')
theorem ndD:(["_law_name_here","_law_others_here"]:List Str).Nodup:=by decide +kernel
theorem xt6 {way n1 n2:Nat} (h:way < 4):atI [V.int ((n1:Int) * (n2:Int)),V.int ((n1:Int) * (n2:Int)),V.int ((n1:Int) + (n2:Int)),V.int (n1:Int)] (way:Nat) = some (.int (cnt way n1 n2:Nat)):=by
  refine zo3 ?_
  match way,h with
  | 0,_=>simp [cnt]
  | 1,_=>simp [cnt]
  | 2,_=>simp [cnt]
  | 3,_=>simp [cnt]
theorem xn6 {A:Around} {k:Nat} (hr:RoomH k A):A.units + 8 < cLine:=by have:=hr.un; omega
section
variable {P:Program} {w:World} {K:W.Frag} {mg:Str->Option Value} {base:Heap} {f:Addr} {fd:FuncData}
theorem scDu:FnScope ["_law_way","_law_columns","_law_others_here","_law_many","_law_more","_law_shared","_law_count"] ["_law_way","_law_columns","_law_others_here","_law_many","_law_more"] (za1 sDue):=⟨rfl,rfl,rfl,by decide +kernel,rfl,by decide +kernel,by decide +kernel⟩
abbrev nmD:List Str:=["_law_way","_law_columns","_law_others_here","_law_many","_law_more","_law_shared","_law_count"]
theorem xo3 {cdv:Value} {A:Around} {outer:List Env} {s:Shared} {H0:Hp} {E:XK} :
    ∃ t,PSs (cxOf CX0 P w K mg base nmD "_law_due" (za1 sDue) f cdv A outer s H0 E).nox ((za5 sDue).drop 3) t /\
      ∀ (Q:VK) (H:Hp) (v1 v2 v5:Option V) (way n1 n2:Nat),way < 4->n1<=24->n2<=24->(24 < cnt way n1 n2->∀ t H',Same H H'->H' t = some (.tup [.str "many",.str ""])->Q (.ref t) H')->(cnt way n1 n2<=24->∀ t H',Same H H'->H' t = some (.tup [.str "rows",.int (cnt way n1 n2:Nat)])->Q (.ref t) H') ->
        t { nx:=λ_ H'=>Q .non H',rt:=Q } [some (.int way),v1,v2,some (.int n1),some (.int n2),v5,none] H:=by
  refine ⟨_,za3 (zc7 (i:=6) scDu.nd rfl (Or.inl rfl) (ye0 zs4 (ze7 (za0 (zc9 yw4 (pv 3) (pv 4)) (za0 (zc9 yw4 (pv 3) (pv 4)) (za0 (zc9 yh7 (pv 3) (pv 4)) (za0 (pv 3) za2))))) (pv 0) (λ_ _=>rfl)))
    (za3 (zg5 (zb7 yw6 (pv 6) zb1 (zd0 _)) (za4 (zb9 (zg3 (za0 zg7 (za0 zg7 za2))))) zb8)
    (za4 (zb9 (zg3 (za0 zg7 (za0 (pv 6) za2)))))),?_⟩
  intro Q H v1 v2 v5 way n1 n2 hw h1 h2 qC qD
  refine ⟨_,rfl,_,rfl,_,_,rfl,rfl,.inl ⟨by omega,by omega⟩,_,rfl,_,rfl,_,_,rfl,rfl,.inl ⟨by omega,by omega⟩,_,rfl,_,rfl,_,_,rfl,rfl,_,rfl,zb6 (by simp),λL hL=>?_⟩
  have s1:=same_new hL (.lst [V.int ((n1:Int) * (n2:Int)),V.int ((n1:Int) * (n2:Int)),V.int ((n1:Int) + (n2:Int)),V.int (n1:Int)])
  have g1:=upd_same (H:=H) (a:=L) (o:=.lst [V.int ((n1:Int) * (n2:Int)),V.int ((n1:Int) * (n2:Int)),V.int ((n1:Int) + (n2:Int)),V.int (n1:Int)])
  refine ⟨_,rfl,L,_,_,_,rfl,rfl,SqL.of g1,xt6 hw,?_⟩
  refine ⟨_,rfl,_,_,rfl,rfl,_,rfl,?_⟩
  by_cases hc:cnt way n1 n2<=24
  · refine zf7 (by rw [decide_eq_false_iff_not]; omega) ⟨_,rfl,zb6 (by simp),λt ht=>?_⟩
    exact qD hc t _ (s1.trans (same_new ht _)) upd_same
  · refine zm6 (by rw [decide_eq_true_iff]; omega) ⟨zb6 (by simp),λt ht=>?_⟩
    exact qC (by omega) t _ (s1.trans (same_new ht _)) upd_same
theorem xr3 (Fn:Fun K "_law_due" "_law_due" sDue f fd) (X:Txt mg):FnOk P w K mg base CX0 1 f fd ["_law_way","_law_columns","_law_others_here","_law_many","_law_more"] yv1:=by
  refine Fn.ok scDu (λvs H Q E h=>?_) (λcdv A outer s H vs Q E hr h=>?_)
  · obtain ⟨ca,oa,cs,os,way,n1,n2,rfl,_⟩:=h
    rfl
  obtain ⟨ca,oa,cs,os,way,n1,n2,rfl,hw,hn1,hn2,hca,hoa,cl,ol,qA,qB,qC,qD⟩:=h
  have hu8:=xa0 hr
  obtain ⟨tt,ht,q6⟩:=xo3 (P:=P) (w:=w) (K:=K) (mg:=mg) (base:=base) (f:=f) (cdv:=cdv) (A:=A) (outer:=outer) (s:=s) (H0:=H) (E:=E)
  refine ⟨_,za3 (zc7 (i:=5) scDu.nd rfl (Or.inl rfl) (zb4 ze4 rfl X.sorted PyProof.Rows.boot_sorted (za0
      (zh6 (caps:=[("_law_others_here",2)]) ["_law_name_here"] rfl (ze1 (pv 1)) ⟨rfl,by decide +kernel,by decide +kernel,rfl,.cons rfl (.inl rfl) rfl .nil,rfl,rfl,rfl⟩
        (λs H ex=>zb2 (X:=cxLG _ _ _ _ s H ex) (i:=0) ndD rfl (Or.inl rfl) (.inr rfl))
        (λs H ex=>zj2 (zb7 (yb7 (K:=K) rfl) (pe_var (X:=cxLG _ _ _ _ s H ex) (i:=0) rfl (Or.inl rfl)) (pe_var (X:=cxLG _ _ _ _ s H ex) (i:=1) rfl (Or.inr (Or.inl rfl))) rfl))
        (λs H ex=>pe_var (X:=cxLG _ _ _ _ s H ex) (i:=0) rfl (Or.inl rfl))) za2)))
    (za3 (zg5 (PW.pt (yv7 (zb7 zp2 (pv 0) zb1 (zd0 _)) (yk0 (zb7 (yw3 hu8) (pv 5) (ze7 za2) (zd0 _))))) (za4 (zb9 (zg3 (za0 zg7 (za0 (ye0 zs4 (pv 5) zb1 (λ_ _=>rfl)) za2))))) zb8)
    (za3 (zg5 (PW.pt (yv7 (zb7 yw6 (pv 0) zb1 (zd0 _)) (yk0 (zb7 (xi0 hu8) (zb4 ze4 rfl X.sorted PyProof.Rows.boot_sorted (za0 (pv 1) za2)) (zb4 ze4 rfl X.sorted PyProof.Rows.boot_sorted (za0 (pv 2) za2)) (zd0 _))))) (za4 (zb9 (zg3 (za0 zg7 (za0 zg7 za2))))) zb8)
    ht)),?_⟩
  refine ⟨_,rfl,ca,rfl,⟨_,SqL.of hca⟩,λD hD=>?_⟩
  refine ze3 (K:=K) (a:=ca) (xs:=cs.map V.str) (λi σ H2=>∃ (u:Option V),σ = [u,some (.ref oa)]/\Same H H2/\H2 D = some (.lst (((cs.take i).filter λx=>decide (x ∈ os)).map V.str)))
    ⟨none,rfl,same_new hD _,upd_same⟩ (λi σ H2 _ ⟨_,_,z,_⟩=>SqL.of (z _ _ hca)) ?_ ?_
  · rintro i v σ H2 hi ⟨u,rfl,s2,h2⟩
    obtain ⟨x,hxi,hxm,rfl⟩:=zp3 hi
    have hil:=(List.getElem?_eq_some_iff.mp hxi).1
    refine ⟨_,rfl,_,rfl,oa,_,rfl,.inl (SqL.of (s2 _ _ hoa)),rfl,zf0 os,_,rfl,?_⟩
    show (if inV (.str x) (os.map V.str) = true then _ else _)
    rw [zs6,zd6 hxi,List.filter_append]
    cases hv:decide (x ∈ os) with
    | false=>
      refine iteF ⟨_,rfl,s2,?_⟩
      rw [List.filter_cons_of_neg (by rw [hv]; decide),List.filter_nil,List.append_nil]
      exact h2
    | true=>
      refine iteT ⟨_,rfl,_,h2,?_,_,rfl,zc4 s2 hD _,?_⟩
      · rw [List.length_map]
        have:=List.length_filter_le (λx=>decide (x ∈ os)) (cs.take i)
        rw [List.length_take] at this
        exact zb5 (by omega)
      · rw [upd_same,List.filter_cons_of_pos (p:=λx=>decide (x ∈ os)) hv,List.filter_nil,List.map_append]; rfl
  rintro σ H2 ⟨u,rfl,s2,h2⟩
  rw [List.length_map,List.take_length] at h2
  have h2':H2 D = some (.lst ((shr cs os).map V.str)):=h2
  have sl:=yv2 cs os
  refine ⟨D,shr cs os,rfl,SqL.of h2',by omega,λL ds hL pd sd=>?_⟩
  have s3:=same_new hL (.lst (ds.map V.str))
  have h3:=upd_same (H:=H2) (a:=L) (o:=.lst (ds.map V.str))
  generalize upd H2 L (.lst (ds.map V.str)) = H3 at s3 h3 ⊢
  have w3:=s2.trans s3
  have fin:(way = 0->shr cs os = [])->(1 < way->cs.Perm os)->∀ H',Same H H'->tt { nx:=λ_ H'=>Q .non H',rt:=Q } [some (.int way),some (.ref ca),some (.ref oa),some (.int n1),some (.int n2),some (.ref L),none] H':=λz1 z2 H' s'=>
    q6 Q H' _ _ _ way n1 n2 hw hn1 hn2 (λh t H'' s'' g=>qC z1 z2 h t H'' (s'.trans s'') g) (λh t H'' s'' g=>qD z1 z2 h t H'' (s'.trans s'') g)
  refine ⟨_,rfl,rfl,_,rfl,?_⟩
  by_cases e0:way = 0
  · subst e0
    refine zm6 (by decide) ⟨_,rfl,zb6 (by simp),λe1 he1=>?_⟩
    have s4:=same_new he1 (.lst [])
    have h4:=upd_same (H:=H3) (a:=e1) (o:=.lst [])
    generalize upd H3 e1 (.lst []) = H4 at s4 h4 ⊢
    have w4:=w3.trans s4
    have h4L:=s4 _ _ h3
    refine ⟨L,e1,_,rfl,rfl,SqL.of h4L,SqL.of h4,_,rfl,?_⟩
    cases hd:ds with
    | cons y r=>
      rw [hd] at h4L
      refine iteT ⟨_,rfl,L,_,_,_,rfl,rfl,SqL.of h4L,at0,zb6 (by simp),λa ha=>?_⟩
      exact qA rfl y a _ (yr9 pd sd hd) (w4.trans (same_new ha _)) upd_same
    | nil=>
      have hz:shr cs os = []:=by
        rw [hd] at pd
        exact pd.symm.eq_nil
      refine iteF ⟨_,rfl,_,_,rfl,rfl,_,rfl,zf7 (by decide) (iteF ?_)⟩
      exact fin (λ_=>hz) (λh=>absurd h (by decide)) H4 w4
  refine zf7 (by rw [ze6]; exact decide_eq_false (by omega)) (iteF ?_)
  refine ⟨_,rfl,_,_,rfl,rfl,_,rfl,?_⟩
  by_cases e1:1 < way
  · refine zm6 (by rw [decide_eq_true_iff]; omega) ?_
    refine ⟨_,rfl,ca,cs,rfl,SqL.of (w3 _ _ hca),by omega,λL4 ns1 hL4 p1 o1=>?_⟩
    have s4:=same_new hL4 (.lst (ns1.map V.str))
    have h4:=upd_same (H:=H3) (a:=L4) (o:=.lst (ns1.map V.str))
    generalize upd H3 L4 (.lst (ns1.map V.str)) = H4 at s4 h4 ⊢
    refine ⟨_,rfl,oa,os,rfl,SqL.of (s4 _ _ (w3 _ _ hoa)),by omega,λL5 ns2 hL5 p2 o2=>?_⟩
    have s5:=same_new hL5 (.lst (ns2.map V.str))
    have h5:=upd_same (H:=H4) (a:=L5) (o:=.lst (ns2.map V.str))
    generalize upd H4 L5 (.lst (ns2.map V.str)) = H5 at s5 h5 ⊢
    have w5:=w3.trans (s4.trans s5)
    refine ⟨L4,L5,_,_,rfl,rfl,SqL.of (s5 _ _ h4),SqL.of h5,zf0 _,zf0 _,_,rfl,?_⟩
    rw [zy0]
    by_cases hp:cs.Perm os
    · have e:ns1 = ns2:=yk2 (p1.trans (hp.trans p2.symm)) (zl3 o1) (zl3 o2)
      exact zf7 (by simp [e]) (fin (λh=>absurd h e0) (λ_=>hp) H5 w5)
    · have e:ns1 ≠ ns2:=λe=>hp (p1.symm.trans (e ▸ p2))
      refine zm6 (by simp [e]) ⟨zb6 (by simp),λt ht'=>?_⟩
      exact qB (λh=>absurd h e0) e1 hp t _ (w5.trans (same_new ht' _)) upd_same
  · refine zf7 (by rw [decide_eq_false_iff_not]; omega) (iteF ?_)
    exact fin (λh=>absurd h e0) (λh=>absurd h e1) H3 w3
structure Knd (K:W.Frag) (C a1 a2 a3 a4 a5 a6 CT CM CU:Addr) (bT bM bU:Bool):Prop where
  cl:ClsE K C
  an:W.kitAny K (.ref C) [.ref a1,.ref a2,.ref a3,.ref a4,.ref a5,.ref a6] = some false
  ve:W.kitOne K (.ref C) (.type "ValueError") = some true
  kt:W.kitOne K (.ref C) (.ref CT) = some bT
  km:W.kitOne K (.ref C) (.ref CM) = some bM
  ku:W.kitOne K (.ref C) (.ref CU) = some bU
structure Three (K:W.Frag) (a1 a2 a3 a4 a5 a6 CT CM CU:Addr):Prop where
  t:Knd K CT a1 a2 a3 a4 a5 a6 CT CM CU true false false
  m:Knd K CM a1 a2 a3 a4 a5 a6 CT CM CU false true false
  u:Knd K CU a1 a2 a3 a4 a5 a6 CT CM CU false false true
  ht:W.hasDictIn K CT = true
  nt:W.findIn K (.ref CT) "name" = some none
def Says (H:Hp) (e CT CM CU:Addr) (tag x:Str):Prop:=(∃ dp,H e = some (ExcO e CT (some dp))/\H dp = some (.xd [("name",.str x)])/\tag = "twice")\/(H e = some (ExcO e CM none)/\tag = "many"/\x = "")\/(H e = some (ExcO e CU none)/\tag = "unlike"/\x = "")
def xh4 (CT CM CU:Addr):Sp:=λargs H Q _=>∃ (e:Addr) (tag x:Str),args = [.ref e]/\Says H e CT CM CU tag x/\∀ t H',Same H H'->H' t = some (.tup [.str tag,.str x])->Q (.ref t) H'
theorem zy6:bootBuiltins "ValueError" = some (.type "ValueError"):=by decide +kernel
theorem yz2 (K:W.Frag):W.kitOne K (.type "str") (.type "str") = some true:=by kernel_rfl
theorem xi7 {a1 a2 a3 a4 a5 a6:Addr}:∀ us,Vals [V.ref a1,.ref a2,.ref a3,.ref a4,.ref a5,.ref a6] us->us = [.ref a1,.ref a2,.ref a3,.ref a4,.ref a5,.ref a6]:=by
  rintro _ (_ | ⟨r1,_ | ⟨r2,_ | ⟨r3,_ | ⟨r4,_ | ⟨r5,_ | ⟨r6,_ | _⟩⟩⟩⟩⟩⟩)
  rw [show _ = Value.ref a1 from r1,show _ = Value.ref a2 from r2,show _ = Value.ref a3 from r3,show _ = Value.ref a4 from r4,show _ = Value.ref a5 from r5,show _ = Value.ref a6 from r6]
theorem scKd:FnScope ["_law_e","_law_sorts"] ["_law_e"] (za1 yq5):=⟨rfl,rfl,rfl,by decide +kernel,rfl,by decide +kernel,by decide +kernel⟩
theorem xm1 {a1 a2 a3 a4 a5 a6 CT CM CU:Addr} (Fn:Fun K "_law_kind" "_law_kind" yq5 f fd) (X:Txt mg) (W:Three K a1 a2 a3 a4 a5 a6 CT CM CU) (n1:mg "NoColumn" = some (.ref a1)) (n2:mg "NoFilling" = some (.ref a2)) (n3:mg "NoName" = some (.ref a3)) (n4:mg "NoText" = some (.ref a4)) (n5:mg "Short" = some (.ref a5)) (n6:mg "TooFew" = some (.ref a6)) (nT:mg "Twice" = some (.ref CT)) (nM:mg "TooMany" = some (.ref CM)) (nU:mg "Unlike" = some (.ref CU)):FnH P w K mg base CX0 1 f fd ["_law_e"] (xh4 CT CM CU):=by
  refine Fun.okH Fn scKd (λvs H Q E h=>?_) (λcdv A outer s H vs Q E hr h=>?_)
  · obtain ⟨e,tag,x,rfl,_⟩:=h
    rfl
  obtain ⟨e,tag,x,rfl,hS,q⟩:=h
  have hu8:=xn6 hr
  refine ⟨_,za3 (zg5 (PW.pt (xv1 (zt2 (zb4 (xh1 (K:=K) rfl) rfl X.isi PyProof.Rows.boot_isinstance (za0 (pv 0) (za0 (zg3 (za0 (zj3 (v:=.ref a1) rfl n1 rfl) (za0 (zj3 (v:=.ref a2) rfl n2 rfl) (za0 (zj3 (v:=.ref a3) rfl n3 rfl) (za0 (zj3 (v:=.ref a4) rfl n4 rfl) (za0 (zj3 (v:=.ref a5) rfl n5 rfl) (za0 (zj3 (v:=.ref a6) rfl n6 rfl) za2))))))) za2))))
        (xq1 (yn2 (zt2 (zb4 (zv1 (K:=K) rfl) rfl X.isi PyProof.Rows.boot_isinstance (za0 (pv 0) (za0 (zw9 (v:=.ty "ValueError") rfl X.ve zy6 rfl) za2)))))))) zi0 zb8)
    (za3 (zc7 (i:=1) scKd.nd rfl (Or.inl rfl) (ze7 (za0 (zb4 (zv1 (K:=K) rfl) rfl X.isi PyProof.Rows.boot_isinstance (za0 (pv 0) (za0 (zj3 (v:=.ref CT) rfl nT rfl) za2))) (za0 (zb4 (zv1 (K:=K) rfl) rfl X.isi PyProof.Rows.boot_isinstance (za0 (pv 0) (za0 (zj3 (v:=.ref CM) rfl nM rfl) za2))) (za0 (zb4 (zv1 (K:=K) rfl) rfl X.isi PyProof.Rows.boot_isinstance (za0 (pv 0) (za0 (zj3 (v:=.ref CU) rfl nU rfl) za2))) za2)))))
    (za3 (zg5 (PW.pt (yv7 (zb7 (yw7 hu8) (pv 1) (ze7 (za0 zj5 (za0 zj5 (za0 zj5 za2)))) (zd0 _)) (yk0 (zt2 (zb4 yf7 rfl X.isi PyProof.Rows.boot_isinstance (za0 (yw2 (K:=K) rfl (pv 0)) (za0 (zw9 (v:=.ty "str") rfl X.str PyProof.Rows.boot_str rfl) za2))))))) (za4 (zb9 (zg3 (za0 zg7 (za0 (yw2 (K:=K) rfl (pv 0)) za2))))) zb8)
    (za3 (zg5 (zb7 (yw7 hu8) (pv 1) (ze7 (za0 zj5 (za0 zj5 (za0 zj5 za2)))) (zd0 _)) (za4 (zb9 (zg3 (za0 zg7 (za0 zg7 za2))))) zb8)
    (za3 (zg5 (zb7 (yw7 hu8) (pv 1) (ze7 (za0 zj5 (za0 zj5 (za0 zj5 za2)))) (zd0 _)) (za4 (zb9 (zg3 (za0 zg7 (za0 zg7 za2))))) zb8)
    (za4 (zb9 (zg3 (za0 zg7 (za0 zg7 za2))))))))),?_⟩
  have rr:∀ a:Addr,∀ u,RelV (.ref a) u->u = .ref a:=λa u r=>r
  have main:∀ (C:Addr) (dp:Option Addr) (bT bM bU:Bool),Knd K C a1 a2 a3 a4 a5 a6 CT CM CU bT bM bU->H e = some (ExcO e C dp)->True:=λ_ _ _ _ _ _ _=>trivial
  rcases hS with ⟨dp,he,hdp,rfl⟩ | ⟨he,rfl,rfl⟩ | ⟨he,rfl,rfl⟩
  · refine ⟨_,rfl,zb6 (by simp),λt0 ht0=>?_⟩
    have s0:=same_new ht0 (.tup [.ref a1,.ref a2,.ref a3,.ref a4,.ref a5,.ref a6])
    have g0:=upd_same (H:=H) (a:=t0) (o:=.tup [.ref a1,.ref a2,.ref a3,.ref a4,.ref a5,.ref a6])
    generalize upd H t0 (.tup [.ref a1,.ref a2,.ref a3,.ref a4,.ref a5,.ref a6]) = H0 at s0 g0 ⊢
    have he0:=s0 _ _ he
    refine ⟨e,CT,t0,_,_,_,false,rfl,g0,xi7,he0,W.t.cl,W.t.an,_,rfl,iteF ?_⟩
    refine ⟨_,rfl,e,CT,_,_,_,_,rfl,zw5,he0,W.t.cl,W.t.ve,_,rfl,iteF ?_⟩
    refine ⟨_,rfl,e,CT,_,_,_,_,rfl,rr CT,he0,W.t.cl,W.t.kt,_,rfl,e,CT,_,_,_,_,rfl,rr CM,he0,W.t.cl,W.t.km,_,rfl,e,CT,_,_,_,_,rfl,rr CU,he0,W.t.cl,W.t.ku,zb6 (by simp),λL hL=>?_⟩
    have s1:=same_new hL (.lst [.bl true,.bl false,.bl false])
    have g1:=upd_same (H:=H0) (a:=L) (o:=.lst [.bl true,.bl false,.bl false])
    generalize upd H0 L (.lst [.bl true,.bl false,.bl false]) = H1 at s1 g1 ⊢
    refine ⟨_,rfl,zb6 (by simp),λL2 hL2=>?_⟩
    have s2:=same_new hL2 (.lst [.bl true,.bl false,.bl false])
    have g2:=upd_same (H:=H1) (a:=L2) (o:=.lst [.bl true,.bl false,.bl false])
    generalize upd H1 L2 (.lst [.bl true,.bl false,.bl false]) = H2 at s2 g2 ⊢
    have w2:=s0.trans (s1.trans s2)
    refine ⟨L,L2,_,_,rfl,rfl,SqL.of (s2 _ _ g1),SqL.of g2,rfl,rfl,_,rfl,zm6 rfl ?_⟩
    refine ⟨_,rfl,e,CT,dp,_,.str x,rfl,w2 _ _ he,w2 _ _ hdp,W.t.cl,W.ht,W.nt,rfl,_,_,_,_,_,rfl,zw5,.str _,yz2 K,_,rfl,iteT ?_⟩
    refine ⟨_,rfl,e,CT,dp,_,.str x,rfl,w2 _ _ he,w2 _ _ hdp,W.t.cl,W.ht,W.nt,rfl,zb6 (by simp),λt ht=>?_⟩
    exact q t _ (w2.trans (same_new ht _)) upd_same
  · refine ⟨_,rfl,zb6 (by simp),λt0 ht0=>?_⟩
    have s0:=same_new ht0 (.tup [.ref a1,.ref a2,.ref a3,.ref a4,.ref a5,.ref a6])
    have g0:=upd_same (H:=H) (a:=t0) (o:=.tup [.ref a1,.ref a2,.ref a3,.ref a4,.ref a5,.ref a6])
    generalize upd H t0 (.tup [.ref a1,.ref a2,.ref a3,.ref a4,.ref a5,.ref a6]) = H0 at s0 g0 ⊢
    have he0:=s0 _ _ he
    refine ⟨e,CM,t0,_,_,_,false,rfl,g0,xi7,he0,W.m.cl,W.m.an,_,rfl,iteF ?_⟩
    refine ⟨_,rfl,e,CM,_,_,_,_,rfl,zw5,he0,W.m.cl,W.m.ve,_,rfl,iteF ?_⟩
    refine ⟨_,rfl,e,CM,_,_,_,_,rfl,rr CT,he0,W.m.cl,W.m.kt,_,rfl,e,CM,_,_,_,_,rfl,rr CM,he0,W.m.cl,W.m.km,_,rfl,e,CM,_,_,_,_,rfl,rr CU,he0,W.m.cl,W.m.ku,zb6 (by simp),λL hL=>?_⟩
    have s1:=same_new hL (.lst [.bl false,.bl true,.bl false])
    have g1:=upd_same (H:=H0) (a:=L) (o:=.lst [.bl false,.bl true,.bl false])
    generalize upd H0 L (.lst [.bl false,.bl true,.bl false]) = H1 at s1 g1 ⊢
    refine ⟨_,rfl,zb6 (by simp),λL2 hL2=>?_⟩
    have s2:=same_new hL2 (.lst [.bl true,.bl false,.bl false])
    have g2:=upd_same (H:=H1) (a:=L2) (o:=.lst [.bl true,.bl false,.bl false])
    generalize upd H1 L2 (.lst [.bl true,.bl false,.bl false]) = H2 at s2 g2 ⊢
    have w2:=s0.trans (s1.trans s2)
    refine ⟨L,L2,_,_,rfl,rfl,SqL.of (s2 _ _ g1),SqL.of g2,rfl,rfl,_,rfl,zf7 rfl (iteF ?_)⟩
    refine ⟨_,rfl,zb6 (by simp),λL3 hL3=>?_⟩
    have s3:=same_new hL3 (.lst [.bl false,.bl true,.bl false])
    have g3:=upd_same (H:=H2) (a:=L3) (o:=.lst [.bl false,.bl true,.bl false])
    generalize upd H2 L3 (.lst [.bl false,.bl true,.bl false]) = H3 at s3 g3 ⊢
    refine ⟨L,L3,_,_,rfl,rfl,SqL.of (s3 _ _ (s2 _ _ g1)),SqL.of g3,rfl,rfl,_,rfl,zm6 rfl ⟨zb6 (by simp),λt ht=>?_⟩⟩
    exact q t _ (w2.trans (s3.trans (same_new ht _))) upd_same
  · refine ⟨_,rfl,zb6 (by simp),λt0 ht0=>?_⟩
    have s0:=same_new ht0 (.tup [.ref a1,.ref a2,.ref a3,.ref a4,.ref a5,.ref a6])
    have g0:=upd_same (H:=H) (a:=t0) (o:=.tup [.ref a1,.ref a2,.ref a3,.ref a4,.ref a5,.ref a6])
    generalize upd H t0 (.tup [.ref a1,.ref a2,.ref a3,.ref a4,.ref a5,.ref a6]) = H0 at s0 g0 ⊢
    have he0:=s0 _ _ he
    refine ⟨e,CU,t0,_,_,_,false,rfl,g0,xi7,he0,W.u.cl,W.u.an,_,rfl,iteF ?_⟩
    refine ⟨_,rfl,e,CU,_,_,_,_,rfl,zw5,he0,W.u.cl,W.u.ve,_,rfl,iteF ?_⟩
    refine ⟨_,rfl,e,CU,_,_,_,_,rfl,rr CT,he0,W.u.cl,W.u.kt,_,rfl,e,CU,_,_,_,_,rfl,rr CM,he0,W.u.cl,W.u.km,_,rfl,e,CU,_,_,_,_,rfl,rr CU,he0,W.u.cl,W.u.ku,zb6 (by simp),λL hL=>?_⟩
    have s1:=same_new hL (.lst [.bl false,.bl false,.bl true])
    have g1:=upd_same (H:=H0) (a:=L) (o:=.lst [.bl false,.bl false,.bl true])
    generalize upd H0 L (.lst [.bl false,.bl false,.bl true]) = H1 at s1 g1 ⊢
    refine ⟨_,rfl,zb6 (by simp),λL2 hL2=>?_⟩
    have s2:=same_new hL2 (.lst [.bl true,.bl false,.bl false])
    have g2:=upd_same (H:=H1) (a:=L2) (o:=.lst [.bl true,.bl false,.bl false])
    generalize upd H1 L2 (.lst [.bl true,.bl false,.bl false]) = H2 at s2 g2 ⊢
    have w2:=s0.trans (s1.trans s2)
    refine ⟨L,L2,_,_,rfl,rfl,SqL.of (s2 _ _ g1),SqL.of g2,rfl,rfl,_,rfl,zf7 rfl (iteF ?_)⟩
    refine ⟨_,rfl,zb6 (by simp),λL3 hL3=>?_⟩
    have s3:=same_new hL3 (.lst [.bl false,.bl true,.bl false])
    have g3:=upd_same (H:=H2) (a:=L3) (o:=.lst [.bl false,.bl true,.bl false])
    generalize upd H2 L3 (.lst [.bl false,.bl true,.bl false]) = H3 at s3 g3 ⊢
    refine ⟨L,L3,_,_,rfl,rfl,SqL.of (s3 _ _ (s2 _ _ g1)),SqL.of g3,rfl,rfl,_,rfl,zf7 rfl ?_⟩
    refine ⟨_,rfl,zb6 (by simp),λL4 hL4=>?_⟩
    have s4:=same_new hL4 (.lst [.bl false,.bl false,.bl true])
    have g4:=upd_same (H:=H3) (a:=L4) (o:=.lst [.bl false,.bl false,.bl true])
    generalize upd H3 L4 (.lst [.bl false,.bl false,.bl true]) = H4 at s4 g4 ⊢
    refine ⟨L,L4,_,_,rfl,rfl,SqL.of (s4 _ _ (s3 _ _ (s2 _ _ g1))),SqL.of g4,rfl,rfl,_,rfl,zm6 rfl ⟨zb6 (by simp),λt ht=>?_⟩⟩
    exact q t _ (w2.trans (s3.trans (s4.trans (same_new ht _)))) upd_same
end
end K55
namespace L2
open PySem PySem.Spec PyProof.Rows
def rLen (K:W.Frag):List V->Hp->(V->Hp->Prop)->Prop:=λxs H Q=>∃ p ys,xs = [.ref p]/\(SqL K H p ys\/SqT K H p ys)/\Q (.int (ys.length:Nat)) H
theorem zy5 {X:Cx} {K:W.Frag} (e:X.K = K):zn0 X (.builtin "len") (rLen K):=e ▸ zc3
end L2
namespace K55
open PySem L2 CD
theorem zo6 {cs os:List Str} (h1:cs.Nodup) (h2:os.Nodup) {x:Str}:x ∈ reps (cs ++ os) ↔ x ∈ shr cs os:=by
  have c1:∀ {l:List Str},l.Nodup->((l.map V.str).countP λz=>eqV z (.str x)) = if x ∈ l then 1 else 0:=λ{l} nd=>by
    induction l with
    | nil=>rfl
    | cons a r ih=>
      obtain ⟨n1,n2⟩:=List.nodup_cons.mp nd
      rw [List.map_cons,List.countP_cons,ih n2]
      by_cases e:a = x
      · subst e
        rw [if_neg n1,if_pos List.mem_cons_self,if_pos (show eqV (.str a) (.str a) = true from beq_self_eq_true a)]
      · rw [if_neg (show ¬ eqV (.str a) (.str x) = true from λz=>e (beq_iff_eq.mp z))]
        by_cases hx:x ∈ r
        · rw [if_pos hx,if_pos (List.mem_cons_of_mem _ hx)]
        · rw [if_neg hx,if_neg (λh=>(List.mem_cons.mp h).elim (λz=>e z.symm) hx)]
  unfold reps yj4
  rw [List.mem_filter,decide_eq_true_iff,List.map_append,List.countP_append,c1 h1,c1 h2,yd7,List.mem_append]
  by_cases a:x ∈ cs <;> by_cases b:x ∈ os <;> simp [a,b]
theorem yn0 {cs os:List Str} (h1:cs.Nodup) (h2:os.Nodup):reps (cs ++ os) = [] ↔ shr cs os = []:=by
  constructor
  · intro h
    refine List.eq_nil_iff_forall_not_mem.mpr λx hx=>?_
    have:=(zo6 h1 h2).mpr hx
    rw [h] at this
    cases this
  · intro h
    refine List.eq_nil_iff_forall_not_mem.mpr λx hx=>?_
    have:=(zo6 h1 h2).mp hx
    rw [h] at this
    cases this
theorem ys0 {cs os:List Str} (h1:cs.Nodup) (h2:os.Nodup) {m:Str} (h:yf9 (reps (cs ++ os)) m):yf9 (shr cs os) m:=⟨(zo6 h1 h2).mp h.1,λx hx=>h.2 x ((zo6 h1 h2).mpr hx)⟩
def zv6 (T:Cl) (BC:Addr):Sp:=λvs H Q _=>∃ (b1 b2:Addr) (cs os:List Str) (way n1 n2:Nat),vs = [.int way,.ref b1,.ref b2]/\way < 4/\Tb T BC H b1 cs n1/\Tb T BC H b2 os n2/\cs.length<=5/\os.length<=5 /\
  (way = 0->∀ m t H',yf9 (shr cs os) m->Same H H'->H' t = some (.tup [.str "twice",.str m])->Q (.ref t) H') /\
  ((way = 0->shr cs os = [])->1 < way->¬ cs.Perm os->∀ t H',Same H H'->H' t = some (.tup [.str "unlike",.str ""])->Q (.ref t) H') /\
  ((way = 0->shr cs os = [])->(1 < way->cs.Perm os)->24 < cnt way n1 n2->∀ t H',Same H H'->H' t = some (.tup [.str "many",.str ""])->Q (.ref t) H') /\
  ((way = 0->shr cs os = [])->(1 < way->cs.Perm os)->cnt way n1 n2<=24->∀ t H',Same H H'->H' t = some (.tup [.str "rows",.int (cnt way n1 n2:Nat)])->Q (.ref t) H')
abbrev nmA:List Str:=["_law_way","_law_one","_law_other","_law_found","_law_told","_law_e"]
section
variable {P:Program} {w:World} {K:W.Frag} {mg:Str->Option Value} {base:Heap} {f:Addr} {fd:FuncData} {T:Cl} {CC BC CT CM CU MM:Addr}
theorem scAk:FnScope nmA ["_law_way","_law_one","_law_other"] (za1 yb3):=⟨rfl,rfl,rfl,by decide +kernel,rfl,by decide +kernel,by decide +kernel⟩
theorem xf0 {bm:List Value} {newId initId Bn:String} (Fn:Fun K "_law_asked" "_law_asked" yb3 f fd) (X:Txt mg) (O:OwnB "MaybeError" MM bm newId mg base) (FB:ExcBaseFacts Bn newId initId bm) (sT:SubE CT MM base) (sM:SubE CM MM base) (sU:SubE CU MM base)
    (FR:Fam P w K mg base CX0 1 (· = BC) "rows" ["self"] (λ_=>zh2 T BC))
    (C0:CalE P w K mg base "crossed" 48 ["one","other"] (yd4 T BC CT CM)) (C1:CalE P w K mg base "joined" 47 ["one","other"] (yg4 T BC CM)) (C2:CalE P w K mg base "together" 48 ["one","other"] (yc8 T BC CU CM)) (C3:CalE P w K mg base "less" 48 ["one","other"] (ym6 T BC CU))
    (CK:∃ f fd,FnH P w K mg base CX0 1 f fd ["_law_e"] (xh4 CT CM CU)/\zi3 K fd ["_law_e"] []/\W.keepIn K (.ref f) = true/\mg "_law_kind" = some (.ref f)):FnOk P w K mg base CX0 50 f fd ["_law_way","_law_one","_law_other"] (zv6 T BC):=by
  obtain ⟨f0,d0,G0,b0,k0,m0⟩:=C0
  obtain ⟨f1,d1,G1,b1,k1,m1⟩:=C1
  obtain ⟨f2,d2,G2,b2,k2,m2⟩:=C2
  obtain ⟨f3,d3,G3,b3,k3,m3⟩:=C3
  obtain ⟨f4,d4,G4,b4,k4,m4⟩:=CK
  refine Fn.ok (k:=49) scAk (λvs H Q E h=>?_) (λcdv A outer s H vs Q E hr h=>?_)
  · obtain ⟨b1,b2,cs,os,way,n1,n2,rfl,_⟩:=h
    rfl
  obtain ⟨o1,o2,cs,os,way,n1,n2,rfl,hw,hT1,hT2,cl,ol,qA,qB,qC,qD⟩:=h
  have hr1:Room 1 _:=hr.mono (by decide)
  have hr47:Room 47 _:=hr.mono (by decide)
  have hr48:Room 48 _:=hr.mono (by decide)
  have nd1:cs.Nodup:=by obtain ⟨_,_,_,_,_,_,_,h,_⟩:=id hT1; exact h
  have nd2:os.Nodup:=by obtain ⟨_,_,_,_,_,_,_,h,_⟩:=id hT2; exact h
  refine ⟨_,za3 (zc7 (i:=3) scAk.nd rfl (Or.inl rfl) (zg3 (za0 zg7 (za0 zg7 za2))))
    (za3 (xk3 (i:=5) (M:=MM) (sub:=λC=>C = CT\/C = CM\/C = CU)
        (tb:=λE=>tSeq (tIfS (xc2 (tOp rEq (tVar 0) (tC (.int 0)))) (tSeq (tAsg (tAt λσ=>yg3 (yd4 T BC CT CM) [] (E σ) (zp9 (tVar 1) (zp9 (tVar 2) tNil))) (ye9 4)) yc7)
          (tSeq (tIfS (xc2 (tOp rEq (tVar 0) (tC (.int 1)))) (tSeq (tAsg (tAt λσ=>yg3 (yg4 T BC CM) [] (E σ) (zp9 (tVar 1) (zp9 (tVar 2) tNil))) (ye9 4)) yc7)
          (tSeq (tIfS (xc2 (tOp rEq (tVar 0) (tC (.int 2)))) (tSeq (tAsg (tAt λσ=>yg3 (yc8 T BC CU CM) [] (E σ) (zp9 (tVar 1) (zp9 (tVar 2) tNil))) (ye9 4)) yc7)
          (tSeq (tAsg (tAt λσ=>yg3 (ym6 T BC CU) [] (E σ) (zp9 (tVar 1) (zp9 (tVar 2) tNil))) (ye9 4)) yc7)) yc7)) yc7))
          (tSeq (tAsg (tTup (zp9 (tC (.str "rows")) (zp9 (tCB (rLen K) (zp9 (yu5 (· = BC) "rows" (λ_=>zh2 T BC) E0 (tVar 4) tNil) tNil)) tNil))) (ye9 3)) yc7)) rfl rfl rfl
        (λxe E pins hx=>zh9 (yv8 (zb7 (X:=cxT _ xe) zp2 (pe_var (X:=cxT _ xe) (i:=0) rfl (Or.inl rfl)) zb1 (zd0 _))
            (zh9 (yd9 (X:=cxT _ xe) (i:=4) scAk.nd rfl (Or.inl rfl) (λσ=>zu6 (X:=cxT _ xe) G0 hr48 rfl m0 k0 b0 .nil (hx σ) (za0 (pe_var (X:=cxT _ xe) (i:=1) rfl (Or.inl rfl)) (za0 (pe_var (X:=cxT _ xe) (i:=2) rfl (Or.inl rfl)) za2)))) (zo0 zb8))
          (zh9 (yv8 (zb7 (X:=cxT _ xe) zp2 (pe_var (X:=cxT _ xe) (i:=0) rfl (Or.inl rfl)) zb1 (zd0 _))
            (zh9 (yd9 (X:=cxT _ xe) (i:=4) scAk.nd rfl (Or.inl rfl) (λσ=>zu6 (X:=cxT _ xe) G1 hr47 rfl m1 k1 b1 .nil (hx σ) (za0 (pe_var (X:=cxT _ xe) (i:=1) rfl (Or.inl rfl)) (za0 (pe_var (X:=cxT _ xe) (i:=2) rfl (Or.inl rfl)) za2)))) (zo0 zb8))
          (zh9 (yv8 (zb7 (X:=cxT _ xe) zp2 (pe_var (X:=cxT _ xe) (i:=0) rfl (Or.inl rfl)) zb1 (zd0 _))
            (zh9 (yd9 (X:=cxT _ xe) (i:=4) scAk.nd rfl (Or.inl rfl) (λσ=>zu6 (X:=cxT _ xe) G2 hr48 rfl m2 k2 b2 .nil (hx σ) (za0 (pe_var (X:=cxT _ xe) (i:=1) rfl (Or.inl rfl)) (za0 (pe_var (X:=cxT _ xe) (i:=2) rfl (Or.inl rfl)) za2)))) (zo0 zb8))
            (zh9 (yd9 (X:=cxT _ xe) (i:=4) scAk.nd rfl (Or.inl rfl) (λσ=>zu6 (X:=cxT _ xe) G3 hr48 rfl m3 k3 b3 .nil (hx σ) (za0 (pe_var (X:=cxT _ xe) (i:=1) rfl (Or.inl rfl)) (za0 (pe_var (X:=cxT _ xe) (i:=2) rfl (Or.inl rfl)) za2)))) (zo0 zb8))) (zo0 zb8))) (zo0 zb8)))
          (zo0 (za4 (zc7 (X:=cxT _ xe) (i:=3) scAk.nd rfl (Or.inl rfl) (zg3 (za0 zg7 (za0 (zb4 (X:=cxT _ xe) (zy5 (K:=K) rfl) rfl X.len PySem.boot_len (za0 (za8 (X:=cxT _ xe) (pe_var (X:=cxT _ xe) (i:=4) rfl (Or.inl rfl)) FR hr1 zb0) za2)) za2)))))))
        O FB (λC hC=>hC.elim (λe=>e ▸ sT) λh=>h.elim (λe=>e ▸ sM) λe=>e ▸ sU) rfl scAk.nd rfl rfl
        (λe=>za4 (zc7 (X:=cxH _ e) (i:=3) scAk.nd rfl (Or.inl rfl) (xd1 (X:=cxH _ e) (K:=K) (mg:=mg) rfl rfl G4 (RoomH.mark hr1) rfl m4 k4 b4 (za0 (pe_var (X:=cxH _ e) (i:=5) rfl (Or.inl rfl)) za2))))
        zb8)
    (za4 (zb9 (pv 3)))),?_⟩
  refine ⟨zb6 (by simp),λt0 ht0=>?_⟩
  have s1:=same_new ht0 (.tup [.str "none",.str ""])
  generalize upd H t0 (.tup [.str "none",.str ""]) = H1 at s1 ⊢
  have hT1a:=hT1.kp (.of s1)
  have hT2a:=hT2.kp (.of s1)
  refine ⟨_,rfl,rfl,_,rfl,?_⟩
  by_cases e0:way = 0
  · subst e0
    refine zm6 (by decide) ⟨_,rfl,_,rfl,o1,o2,cs,os,n1,n2,rfl,hT1a,hT2a,cl,ol,λhz hle b' H2 cs' s2 hTX=>?_,λhz hgt H2 s2=>?_,λm H2 dp hm s2 hdp=>?_⟩
    · have hz':=(yn0 nd1 nd2).mp hz
      obtain ⟨rowsX,wcX,hBX,rnX,_⟩:=hTX
      obtain ⟨dxX,fsX,hbX,hmX⟩:=zc0 hBX
      refine ⟨_,rfl,b',BC,dxX,fsX,rfl,hbX,rfl,hmX _ bmr,b',cs',rowsX,wcX,rfl,hBX,λL xs hL hP=>?_⟩
      have sL:=same_new hL (.lst xs)
      have gL:=upd_same (H:=H2) (a:=L) (o:=.lst xs)
      generalize upd H2 L (.lst xs) = H3 at sL gL ⊢
      refine ⟨L,_,rfl,.inl (SqL.of gL),zb6 (by simp),λt ht=>?_⟩
      have eL:xs.length = n1 * n2:=(plen hP).trans rnX
      rw [eL]
      exact ⟨_,rfl,qD (λ_=>hz') (λh=>absurd h (by decide)) hle t _ (s1.trans (s2.trans (sL.trans (same_new ht _)))) upd_same⟩
    · have hz':=(yn0 nd1 nd2).mp hz
      refine ⟨CM,rfl,.inr (.inl rfl),λe he=>?_⟩
      have sE:=same_new he (ExcO e CM none)
      have gE:=upd_same (H:=H2) (a:=e) (o:=ExcO e CM none)
      generalize upd H2 e (ExcO e CM none) = H3 at sE gE ⊢
      exact ⟨_,rfl,e,"many","",rfl,.inr (.inl ⟨gE,rfl,rfl⟩),λt H4 s4 g4=>⟨_,rfl,qC (λ_=>hz') (λh=>absurd h (by decide)) hgt t H4 (s1.trans (s2.trans (sE.trans s4))) g4⟩⟩
    · refine ⟨CT,rfl,.inl rfl,λe he=>?_⟩
      have s3:=same_new hdp (.xd [("name",.str m)])
      have g3:=upd_same (H:=H2) (a:=dp) (o:=.xd [("name",.str m)])
      generalize upd H2 dp (.xd [("name",.str m)]) = H3 at s3 g3 he ⊢
      have sE:=same_new he (ExcO e CT (some dp))
      have gE:=upd_same (H:=H3) (a:=e) (o:=ExcO e CT (some dp))
      generalize upd H3 e (ExcO e CT (some dp)) = H4 at sE gE ⊢
      exact ⟨_,rfl,e,"twice",m,rfl,.inl ⟨dp,gE,sE _ _ g3,rfl⟩,λt H5 s5 g5=>⟨_,rfl,qA rfl m t H5 (ys0 nd1 nd2 hm) (s1.trans (s2.trans (s3.trans (sE.trans s5)))) g5⟩⟩
  refine zf7 (by rw [ze6]; exact decide_eq_false (by omega)) ⟨_,rfl,rfl,_,rfl,?_⟩
  by_cases e1:way = 1
  · subst e1
    refine zm6 (by decide) ⟨_,rfl,_,rfl,o1,o2,cs,os,n1,n2,rfl,hT1a,hT2a,cl,ol,λhle b' H2 s2 hTX=>?_,λhgt H2 s2=>?_⟩
    · obtain ⟨cs',hTX⟩:∃ cs',Tb T BC H2 b' cs' (n1 * n2):=⟨_,hTX⟩
      obtain ⟨rowsX,wcX,hBX,rnX,_⟩:=hTX
      obtain ⟨dxX,fsX,hbX,hmX⟩:=zc0 hBX
      refine ⟨_,rfl,b',BC,dxX,fsX,rfl,hbX,rfl,hmX _ bmr,b',cs',rowsX,wcX,rfl,hBX,λL xs hL hP=>?_⟩
      have sL:=same_new hL (.lst xs)
      have gL:=upd_same (H:=H2) (a:=L) (o:=.lst xs)
      generalize upd H2 L (.lst xs) = H3 at sL gL ⊢
      refine ⟨L,_,rfl,.inl (SqL.of gL),zb6 (by simp),λt ht=>?_⟩
      have eL:xs.length = n1 * n2:=(plen hP).trans rnX
      rw [eL]
      exact ⟨_,rfl,qD (λh=>absurd h (by decide)) (λh=>absurd h (by decide)) hle t _ (s1.trans (s2.trans (sL.trans (same_new ht _)))) upd_same⟩
    · refine ⟨CM,rfl,.inr (.inl rfl),λe he=>?_⟩
      have sE:=same_new he (ExcO e CM none)
      have gE:=upd_same (H:=H2) (a:=e) (o:=ExcO e CM none)
      generalize upd H2 e (ExcO e CM none) = H3 at sE gE ⊢
      exact ⟨_,rfl,e,"many","",rfl,.inr (.inl ⟨gE,rfl,rfl⟩),λt H4 s4 g4=>⟨_,rfl,qC (λh=>absurd h (by decide)) (λh=>absurd h (by decide)) hgt t H4 (s1.trans (s2.trans (sE.trans s4))) g4⟩⟩
  refine zf7 (by rw [ze6]; exact decide_eq_false (by omega)) ⟨_,rfl,rfl,_,rfl,?_⟩
  by_cases e2:way = 2
  · subst e2
    refine zm6 (by decide) ⟨_,rfl,_,rfl,o1,o2,cs,os,n1,n2,rfl,hT1a,hT2a,λhp H2 s2=>?_,λhp hgt H2 s2=>?_,λhp hle b' H2 cs' s2 hTX=>?_⟩
    · refine ⟨CU,rfl,.inr (.inr rfl),λe he=>?_⟩
      have sE:=same_new he (ExcO e CU none)
      have gE:=upd_same (H:=H2) (a:=e) (o:=ExcO e CU none)
      generalize upd H2 e (ExcO e CU none) = H3 at sE gE ⊢
      exact ⟨_,rfl,e,"unlike","",rfl,.inr (.inr ⟨gE,rfl,rfl⟩),λt H4 s4 g4=>⟨_,rfl,qB (λh=>absurd h (by decide)) (by decide) hp t H4 (s1.trans (s2.trans (sE.trans s4))) g4⟩⟩
    · refine ⟨CM,rfl,.inr (.inl rfl),λe he=>?_⟩
      have sE:=same_new he (ExcO e CM none)
      have gE:=upd_same (H:=H2) (a:=e) (o:=ExcO e CM none)
      generalize upd H2 e (ExcO e CM none) = H3 at sE gE ⊢
      exact ⟨_,rfl,e,"many","",rfl,.inr (.inl ⟨gE,rfl,rfl⟩),λt H4 s4 g4=>⟨_,rfl,qC (λh=>absurd h (by decide)) (λ_=>hp) hgt t H4 (s1.trans (s2.trans (sE.trans s4))) g4⟩⟩
    · obtain ⟨rowsX,wcX,hBX,rnX,_⟩:=hTX
      obtain ⟨dxX,fsX,hbX,hmX⟩:=zc0 hBX
      refine ⟨_,rfl,b',BC,dxX,fsX,rfl,hbX,rfl,hmX _ bmr,b',cs',rowsX,wcX,rfl,hBX,λL xs hL hP=>?_⟩
      have sL:=same_new hL (.lst xs)
      have gL:=upd_same (H:=H2) (a:=L) (o:=.lst xs)
      generalize upd H2 L (.lst xs) = H3 at sL gL ⊢
      refine ⟨L,_,rfl,.inl (SqL.of gL),zb6 (by simp),λt ht=>?_⟩
      have eL:xs.length = n1 + n2:=(plen hP).trans rnX
      rw [eL]
      exact ⟨_,rfl,qD (λh=>absurd h (by decide)) (λ_=>hp) hle t _ (s1.trans (s2.trans (sL.trans (same_new ht _)))) upd_same⟩
  obtain rfl:way = 3:=by omega
  refine zf7 (by decide) ⟨_,rfl,_,rfl,o1,o2,cs,os,n1,n2,rfl,hT1a,hT2a,λhp H2 s2=>?_,λhp b' H2 cs' s2 hTX=>?_⟩
  · refine ⟨CU,rfl,.inr (.inr rfl),λe he=>?_⟩
    have sE:=same_new he (ExcO e CU none)
    have gE:=upd_same (H:=H2) (a:=e) (o:=ExcO e CU none)
    generalize upd H2 e (ExcO e CU none) = H3 at sE gE ⊢
    exact ⟨_,rfl,e,"unlike","",rfl,.inr (.inr ⟨gE,rfl,rfl⟩),λt H4 s4 g4=>⟨_,rfl,qB (λh=>absurd h (by decide)) (by decide) hp t H4 (s1.trans (s2.trans (sE.trans s4))) g4⟩⟩
  · have hle:n1<=24:=by obtain ⟨_,_,_,_,h,_⟩:=id hT1; exact h
    obtain ⟨rowsX,wcX,hBX,rnX,_⟩:=hTX
    obtain ⟨dxX,fsX,hbX,hmX⟩:=zc0 hBX
    refine ⟨_,rfl,b',BC,dxX,fsX,rfl,hbX,rfl,hmX _ bmr,b',cs',rowsX,wcX,rfl,hBX,λL xs hL hP=>?_⟩
    have sL:=same_new hL (.lst xs)
    have gL:=upd_same (H:=H2) (a:=L) (o:=.lst xs)
    generalize upd H2 L (.lst xs) = H3 at sL gL ⊢
    refine ⟨L,_,rfl,.inl (SqL.of gL),zb6 (by simp),λt ht=>?_⟩
    have eL:xs.length = n1:=(plen hP).trans rnX
    rw [eL]
    exact ⟨_,rfl,qD (λh=>absurd h (by decide)) (λ_=>hp) hle t _ (s1.trans (s2.trans (sL.trans (same_new ht _)))) upd_same⟩
end
theorem zm7:∀ {xs:List V},xs.all zf2 = true->eqVs xs xs = true
  | [],_=>rfl
  | x :: r,h=>by
    rw [List.all_cons,Bool.and_eq_true] at h
    show (eqV x x && eqVs r r) = true
    rw [xg9 h.1,zm7 h.2]
    rfl
def RowL (D:Addr) (T:Cl) (H:Hp) (v:V) (r:Row):Prop:=∃ (a rr:Addr) (cv:V),v = .ref a/\H a = some (.tup [.ref rr,cv])/\rr ≠ D/\H rr = some (.lst (r.1.map kV))/\IsC T H r.2 cv
theorem zl8 {D:Addr} {T:Cl} {H H':Hp} {ys:List V} (hD:H D = some (.lst ys)) (k:zb3 D H H'):∀ {xs:List V} {rows:List Row},Paired (RowL D T H) xs rows->Paired (RowL D T H') xs rows
  | _,_,.nil=>.nil
  | _,_,.cons ⟨a,rr,cv,e,h1,n,h2,h3⟩ r=>.cons ⟨a,rr,cv,e,(k.kp hD).tup _ _ h1,n,k _ _ n h2,h3.kp (k.kp hD)⟩ (zl8 hD k r)
theorem zw4 {D:Addr} {T:Cl} {H:Hp}:∀ {xs:List V} {rows:List Row},Paired (RowL D T H) xs rows->Paired (RowI T H) xs rows
  | _,_,.nil=>.nil
  | _,_,.cons ⟨a,rr,cv,e,h1,n,h2,h3⟩ r=>.cons ⟨a,rr,cv,e,h1,.inl h2,h3⟩ (zw4 r)
theorem yn1 (n:Nat) (k:Int):(List.replicate n [V.int k]).flatten = (List.replicate n (Sum.inl k:Key)).map kV:=by
  induction n with
  | zero=>rfl
  | succ n ih=>
    rw [List.replicate_succ,List.flatten_cons,ih,List.replicate_succ,List.map_cons]
    rfl
def MkD (P:Program) (w:World) (K:W.Frag) (mg:Str->Option Value) (base:Heap) (x:Str) (C:Addr) (k:Nat) (ps:List Str) (sp:Sp):Prop:=∃ f fd,Mk K C f/\FnOk P w K mg base CX0 k f fd ps sp/\zi3 K fd ps [.none]/\mg x = some (.ref C)
def xc5 (K:W.Frag):Sp:=λargs H Q _=>∃ (a:Addr) (ns:List Int),args = [.ref a]/\SqL K H a (ns.map V.int)/\ns.length<=63/\∀ H',Q (.bl true) H'
abbrev nmL:List Str:=["_law_script","_law_way","_law_columns","_law_others_here","_law_many","_law_more","_law_one","_law_other","_law_k"]
theorem ndKC:(["_law_k","_law_columns"]:List Str).Nodup:=by decide +kernel
theorem ndKO:(["_law_k","_law_others_here"]:List Str).Nodup:=by decide +kernel
theorem xo8 {i:Nat} {x:V} (h:([V.int 0,.int 1,.int 2,.int 3,.int 0]:List V)[i]? = some x):∃ way:Nat,way < 4/\x = .int way:=by
  match i,h with
  | 0,h=>exact ⟨0,by decide,by simpa using h.symm⟩
  | 1,h=>exact ⟨1,by decide,by simpa using h.symm⟩
  | 2,h=>exact ⟨2,by decide,by simpa using h.symm⟩
  | 3,h=>exact ⟨3,by decide,by simpa using h.symm⟩
  | 4,h=>exact ⟨0,by decide,by simpa using h.symm⟩
  | n + 5,h=>simp at h
section
variable {P:Program} {w:World} {K:W.Frag} {mg:Str->Option Value} {base:Heap} {f:Addr} {fd:FuncData} {T:Cl} {CC BC:Addr}
theorem scLw:FnScope nmL ["_law_script"] (za1 sLaw):=⟨rfl,rfl,rfl,by decide +kernel,rfl,by decide +kernel,by decide +kernel⟩
theorem xm7 {cdv:Value} {A:Around} {outer:List Env} {s:Shared} {H0':Hp} {E:XK} {n:Nat} (hr:Room 51 (A.deeper (PyProof.Rows.envOfC "law" (za1 sLaw) s.heap.objs.size f cdv))) (X:Txt mg) (FR:Fam P w K mg base CX0 1 (· = BC) "rows" ["self"] (λ_=>zh2 T BC))
    (MB:MkD P w K mg base "Table" BC 44 ["self","columns","rows","whole"] (spBI T BC)) (M1:MkC P w K mg base "Truth" T.t 42 ["self","said"] (spTI T))
    (C2:Cal P w K mg base "_law_asked" 50 ["_law_way","_law_one","_law_other"] (zv6 T BC)) (C3:Cal P w K mg base "_law_due" 1 ["_law_way","_law_columns","_law_others_here","_law_many","_law_more"] yv1) :
    ∃ t,PSs (cxOf CX0 P w K mg base nmL "law" (za1 sLaw) f cdv A outer s H0' E).nox ((za5 sLaw).drop 7) t /\
      ∀ (Q:VK) (H:Hp) (v0 v1:Option V) (ca oa:Addr) (cs os:List Str) (n1 n2:Nat),H ca = some (.lst (cs.map V.str))->H oa = some (.lst (os.map V.str))->cs.Nodup->os.Nodup->cs.length<=5->os.length<=5->n1<=24->n2<=24->(∀ H',Q (.bl true) H') ->
        t { nx:=λ_ H'=>Q .non H',rt:=Q } [v0,v1,some (.ref ca),some (.ref oa),some (.int n1),some (.int n2),none,none,none] H:=by
  obtain ⟨f0,d0,mk0,G0,b0,m0⟩:=MB
  obtain ⟨f1,d1,mk1,G1,b1,m1⟩:=M1
  obtain ⟨f2,d2,G2,b2,k2,m2⟩:=C2
  obtain ⟨f3,d3,G3,b3,k3,m3⟩:=C3
  have hr1:Room 1 _:=hr.mono (by decide)
  have hr43:Room 43 _:=hr.mono (by decide)
  have hr45:Room 45 _:=hr.mono (by decide)
  have hr50:Room 50 _:=hr.mono (by decide)
  have hu8:=xa0 hr
  refine ⟨_,za3 (zc7 (i:=6) scLw.nd rfl (Or.inl rfl) (zf9 mk0 G0 hr45 rfl m0 b0 (.cons (show RelV .non .none from rfl) .nil) zb0 (za0 (zc5 zj1 rfl X.list PyProof.Rows.boot_list (za0 (pv 2) za2)) (za0
        (zh6 (caps:=[("_law_columns",2)]) ["_law_k"] rfl (zo8 rfl X.range (za0 (pv 4) za2)) ⟨rfl,by decide +kernel,by decide +kernel,rfl,.cons rfl (.inl rfl) rfl .nil,rfl,rfl,rfl⟩
          (λs H ex=>zb2 (X:=cxLG _ _ _ _ s H ex) (i:=0) ndKC rfl (Or.inl rfl) (.inr rfl)) (λs H ex=>zi1)
          (λs H ex=>zg3 (za0 (zc9 xh9 (ze7 (za0 (pe_var (X:=cxLG _ _ _ _ s H ex) (i:=0) rfl (Or.inl rfl)) za2)) (zb4 (X:=cxLG _ _ _ _ s H ex) (zy5 (K:=K) rfl) rfl X.len PySem.boot_len (za0 (pe_var (X:=cxLG _ _ _ _ s H ex) (i:=1) rfl (Or.inr (Or.inl rfl))) za2))) (za0 (zf9 (X:=cxLG _ _ _ _ s H ex) mk1 G1 hr43 rfl m1 b1 .nil zb0 (za0 zj5 za2)) za2)))) za2))))
    (za3 (zc7 (i:=7) scLw.nd rfl (Or.inl rfl) (zf9 mk0 G0 hr45 rfl m0 b0 (.cons (show RelV .non .none from rfl) .nil) zb0 (za0 (zc5 zj1 rfl X.list PyProof.Rows.boot_list (za0 (pv 3) za2)) (za0
        (zh6 (caps:=[("_law_others_here",3)]) ["_law_k"] rfl (zo8 rfl X.range (za0 (pv 5) za2)) ⟨rfl,by decide +kernel,by decide +kernel,rfl,.cons rfl (.inl rfl) rfl .nil,rfl,rfl,rfl⟩
          (λs H ex=>zb2 (X:=cxLG _ _ _ _ s H ex) (i:=0) ndKO rfl (Or.inl rfl) (.inr rfl)) (λs H ex=>zi1)
          (λs H ex=>zg3 (za0 (zc9 xh9 (ze7 (za0 (pe_var (X:=cxLG _ _ _ _ s H ex) (i:=0) rfl (Or.inl rfl)) za2)) (zb4 (X:=cxLG _ _ _ _ s H ex) (zy5 (K:=K) rfl) rfl X.len PySem.boot_len (za0 (pe_var (X:=cxLG _ _ _ _ s H ex) (i:=1) rfl (Or.inr (Or.inl rfl))) za2))) (za0 (zf9 (X:=cxLG _ _ _ _ s H ex) mk1 G1 hr43 rfl m1 b1 .nil zb0 (za0 zj5 za2)) za2)))) za2))))
    (za3 (zi6 PassesOwn.never rfl (ze1 (ze7 (za0 zb1 (za0 zb1 (za0 zb1 (za0 zb1 (za0 zb1 za2))))))) (zb2 (i:=8) scLw.nd rfl (Or.inl rfl))
      (za4 (zg5 (zb7 (xr0 hu8) (za9 G2 hr50 rfl m2 k2 b2 .nil zb0 (za0 (pv 8) (za0 (pv 6) (za0 (pv 7) za2)))) (za9 G3 hr1 rfl m3 k3 b3 .nil zb0 (za0 (pv 8) (za0 (pv 2) (za0 (pv 3) (za0 (pv 4) (za0 (pv 5) za2)))))) (zd0 _)) zi0 zb8)))
    (za4 (zb9 (xq8 (yk3 zp2 (zb4 zc3 rfl X.len PySem.boot_len (za0 (za8 (pv 6) FR hr1 zb0) za2)) (pv 4) (zd0 _)) (xq5 (yk3 zp2 (zb4 zc3 rfl X.len PySem.boot_len (za0 (za8 (pv 7) FR hr1 zb0) za2)) (pv 5) (zd0 _)))))))),?_⟩
  intro Q H v0 v1 ca oa cs os n1 n2 hca hoa nd1 nd2 cl ol hn1 hn2 q
  refine ⟨_,rfl,ca,_,rfl,.inl (SqL.of ((Same.refl H) _ _ hca)),λLA hLA=>?_⟩
  have sLA:=same_new hLA (.lst (cs.map V.str))
  have gLA:=upd_same (H:=H) (a:=LA) (o:=.lst (cs.map V.str))
  generalize upd H LA (.lst (cs.map V.str)) = HLA at sLA gLA ⊢
  have wA:=(Same.refl H).trans sLA
  refine ⟨_,rfl,_,rfl,by omega,by omega,λDA hDA=>?_⟩
  refine yc1 (lo:=0) (n:=((n1:Nat):Int).toNat) (λi σ H2=>∃ (u:Option V) (zs:List V) (rows:List Row),σ = [u,some (.ref ca)]/\Same HLA H2/\H2 DA = some (.lst zs)/\Paired (RowL DA T H2) zs rows/\rows.length = i/\∀ r ∈ rows,GR r/\r.1.length = cs.length)
    ⟨none,[],[],rfl,same_new hDA _,upd_same,.nil,rfl,λr h=>(nomatch h)⟩ ?_ ?_
  · rintro i σ H2 hi ⟨u,zs,rows,rfl,s2,h2,hP,rl,hG⟩
    refine ⟨_,rfl,zb6 (by simp),λl0 hl0=>?_⟩
    have s3:=same_new hl0 (.lst [.int (0 + (i:Nat))])
    have g3:=upd_same (H:=H2) (a:=l0) (o:=.lst [.int (0 + (i:Nat))])
    generalize upd H2 l0 (.lst [.int (0 + (i:Nat))]) = H3 at s3 g3 ⊢
    refine ⟨_,rfl,ca,_,rfl,.inl (SqL.of (s3 _ _ (s2 _ _ (wA _ _ hca)))),l0,_,_,rfl,rfl,g3,by rw [List.length_map]; omega,by rw [List.length_map]; omega,zb6 (by rw [List.length_map]; simp; omega),λrr hrr=>?_⟩
    rw [List.length_map,Int.toNat_natCast,yn1]
    have nrD:rr ≠ DA:=λe=>by rw [e,s3 _ _ h2] at hrr; cases hrr
    have s4:=same_new hrr (.lst ((List.replicate cs.length (Sum.inl (0 + ((i:Nat):Int)):Key)).map kV))
    have g4:=upd_same (H:=H3) (a:=rr) (o:=.lst ((List.replicate cs.length (Sum.inl (0 + ((i:Nat):Int)):Key)).map kV))
    generalize upd H3 rr (.lst ((List.replicate cs.length (Sum.inl (0 + ((i:Nat):Int)):Key)).map kV)) = H4 at s4 g4 ⊢
    refine λy dy hy hdy ney=>?_
    have ms:=ze8 (C:=T.t) hy hdy
    refine ⟨y,dy,true,H4,rfl,upd_same,ms,hy,λH5 kb hC=>⟨rfl,zb6 (by simp),λt1 ht1=>?_⟩⟩
    have s5:=kb.same ms hy
    have s6:=same_new ht1 (.tup [.ref rr,.ref y])
    have g6:=upd_same (H:=H5) (a:=t1) (o:=.tup [.ref rr,.ref y])
    generalize upd H5 t1 (.tup [.ref rr,.ref y]) = H6 at s6 g6 ⊢
    have w6:Same H2 H6:=s3.trans (s4.trans (s5.trans s6))
    have h6:=w6 _ _ h2
    have zl:=plen hP
    have kD:zb3 DA H6 (upd H6 DA (.lst (zs ++ [.ref t1]))):=zb3.upd
    refine ⟨zs,h6,zb5 (by omega),_,zs ++ [.ref t1],rows ++ [(List.replicate cs.length (Sum.inl (0 + ((i:Nat):Int))),.truth true)],rfl,zc4 (s2.trans w6) hDA _,upd_same,yk1 (zl8 h6 kD (zl8 h2 (zb3.of w6) hP)) ⟨t1,rr,.ref y,rfl,(kD.kp h6).tup _ _ g6,nrD,kD _ _ nrD (s6 _ _ (s5 _ _ g4)),(hC.kp (.of s6)).kp (kD.kp h6)⟩,by rw [List.length_append,rl]; rfl,λr hr'=>?_⟩
    rcases List.mem_append.mp hr' with hr' | hr'
    · exact hG r hr'
    · rw [show r = (List.replicate cs.length (Sum.inl (0 + ((i:Nat):Int))),.truth true) by simpa using hr']
      refine ⟨⟨⟨List.replicate cs.length (0 + ((i:Nat):Int)),by rw [List.map_replicate],λx hx=>?_⟩,rfl,(by show depth (.truth true)<=2; decide)⟩,List.length_replicate⟩
      rw [(List.mem_replicate.mp hx).2]
      omega
  rintro σA HA ⟨uA,zsA,rowsA,rfl,sA,gA,hPA,rlA,hGA⟩
  refine λyA dyA hyA hdyA neyA=>?_
  have msA:=ze8 (C:=BC) hyA hdyA
  have rlA':rowsA.length = n1:=by rw [rlA]; omega
  have eTA:Emp (.truth true):=⟨rfl,by decide⟩
  refine ⟨yA,dyA,LA,DA,.non,cs,zsA,rowsA,.truth true,zw7,HA,rfl,upd_same,msA,hyA,sA _ _ gLA,nd1,by omega,gA,zw4 hPA,λr hr'=>(hGA r hr').2,by omega,.inl ⟨rfl,rfl⟩,by decide,zn8 (λr hr'=>(hGA r hr').1) eTA,λHTA kbA hBA=>⟨rfl,?_⟩⟩
  have sTA:Same HA HTA:=kbA.same msA hyA
  have hTA:Tb T BC HTA yA cs n1:=⟨rowsA,.truth true,hBA,rlA',by omega,hGA,eTA,nd1,by omega⟩
  have wTA:Same H HTA:=wA.trans (sA.trans sTA)
  refine ⟨_,rfl,oa,_,rfl,.inl (SqL.of (wTA _ _ hoa)),λLB hLB=>?_⟩
  have sLB:=same_new hLB (.lst (os.map V.str))
  have gLB:=upd_same (H:=HTA) (a:=LB) (o:=.lst (os.map V.str))
  generalize upd HTA LB (.lst (os.map V.str)) = HLB at sLB gLB ⊢
  have wB:=wTA.trans sLB
  refine ⟨_,rfl,_,rfl,by omega,by omega,λDB hDB=>?_⟩
  refine yc1 (lo:=0) (n:=((n2:Nat):Int).toNat) (λi σ H2=>∃ (u:Option V) (zs:List V) (rows:List Row),σ = [u,some (.ref oa)]/\Same HLB H2/\H2 DB = some (.lst zs)/\Paired (RowL DB T H2) zs rows/\rows.length = i/\∀ r ∈ rows,GR r/\r.1.length = os.length)
    ⟨none,[],[],rfl,same_new hDB _,upd_same,.nil,rfl,λr h=>(nomatch h)⟩ ?_ ?_
  · rintro i σ H2 hi ⟨u,zs,rows,rfl,s2,h2,hP,rl,hG⟩
    refine ⟨_,rfl,zb6 (by simp),λl0 hl0=>?_⟩
    have s3:=same_new hl0 (.lst [.int (0 + (i:Nat))])
    have g3:=upd_same (H:=H2) (a:=l0) (o:=.lst [.int (0 + (i:Nat))])
    generalize upd H2 l0 (.lst [.int (0 + (i:Nat))]) = H3 at s3 g3 ⊢
    refine ⟨_,rfl,oa,_,rfl,.inl (SqL.of (s3 _ _ (s2 _ _ (wB _ _ hoa)))),l0,_,_,rfl,rfl,g3,by rw [List.length_map]; omega,by rw [List.length_map]; omega,zb6 (by rw [List.length_map]; simp; omega),λrr hrr=>?_⟩
    rw [List.length_map,Int.toNat_natCast,yn1]
    have nrD:rr ≠ DB:=λe=>by rw [e,s3 _ _ h2] at hrr; cases hrr
    have s4:=same_new hrr (.lst ((List.replicate os.length (Sum.inl (0 + ((i:Nat):Int)):Key)).map kV))
    have g4:=upd_same (H:=H3) (a:=rr) (o:=.lst ((List.replicate os.length (Sum.inl (0 + ((i:Nat):Int)):Key)).map kV))
    generalize upd H3 rr (.lst ((List.replicate os.length (Sum.inl (0 + ((i:Nat):Int)):Key)).map kV)) = H4 at s4 g4 ⊢
    refine λy dy hy hdy ney=>?_
    have ms:=ze8 (C:=T.t) hy hdy
    refine ⟨y,dy,true,H4,rfl,upd_same,ms,hy,λH5 kb hC=>⟨rfl,zb6 (by simp),λt1 ht1=>?_⟩⟩
    have s5:=kb.same ms hy
    have s6:=same_new ht1 (.tup [.ref rr,.ref y])
    have g6:=upd_same (H:=H5) (a:=t1) (o:=.tup [.ref rr,.ref y])
    generalize upd H5 t1 (.tup [.ref rr,.ref y]) = H6 at s6 g6 ⊢
    have w6:Same H2 H6:=s3.trans (s4.trans (s5.trans s6))
    have h6:=w6 _ _ h2
    have zl:=plen hP
    have kD:zb3 DB H6 (upd H6 DB (.lst (zs ++ [.ref t1]))):=zb3.upd
    refine ⟨zs,h6,zb5 (by omega),_,zs ++ [.ref t1],rows ++ [(List.replicate os.length (Sum.inl (0 + ((i:Nat):Int))),.truth true)],rfl,zc4 (s2.trans w6) hDB _,upd_same,yk1 (zl8 h6 kD (zl8 h2 (zb3.of w6) hP)) ⟨t1,rr,.ref y,rfl,(kD.kp h6).tup _ _ g6,nrD,kD _ _ nrD (s6 _ _ (s5 _ _ g4)),(hC.kp (.of s6)).kp (kD.kp h6)⟩,by rw [List.length_append,rl]; rfl,λr hr'=>?_⟩
    rcases List.mem_append.mp hr' with hr' | hr'
    · exact hG r hr'
    · rw [show r = (List.replicate os.length (Sum.inl (0 + ((i:Nat):Int))),.truth true) by simpa using hr']
      refine ⟨⟨⟨List.replicate os.length (0 + ((i:Nat):Int)),by rw [List.map_replicate],λx hx=>?_⟩,rfl,(by show depth (.truth true)<=2; decide)⟩,List.length_replicate⟩
      rw [(List.mem_replicate.mp hx).2]
      omega
  rintro σB HB ⟨uB,zsB,rowsB,rfl,sB,gB,hPB,rlB,hGB⟩
  refine λyB dyB hyB hdyB neyB=>?_
  have msB:=ze8 (C:=BC) hyB hdyB
  have rlB':rowsB.length = n2:=by rw [rlB]; omega
  have eTB:Emp (.truth true):=⟨rfl,by decide⟩
  refine ⟨yB,dyB,LB,DB,.non,os,zsB,rowsB,.truth true,zw7,HB,rfl,upd_same,msB,hyB,sB _ _ gLB,nd2,by omega,gB,zw4 hPB,λr hr'=>(hGB r hr').2,by omega,.inl ⟨rfl,rfl⟩,by decide,zn8 (λr hr'=>(hGB r hr').1) eTB,λHTB kbB hBB=>⟨rfl,?_⟩⟩
  have sTB:Same HB HTB:=kbB.same msB hyB
  have hTB:Tb T BC HTB yB os n2:=⟨rowsB,.truth true,hBB,rlB',by omega,hGB,eTB,nd2,by omega⟩
  have wTB:Same H HTB:=wB.trans (sB.trans sTB)
  have hTA':=hTA.kp (.of (sLB.trans (sB.trans sTB)))
  have wB':Same H HTB:=wTB
  refine ⟨zb6 (by simp),λLK hLK=>?_⟩
  have sK:=same_new hLK (.lst [.int 0,.int 1,.int 2,.int 3,.int 0])
  have gK:=upd_same (H:=HTB) (a:=LK) (o:=.lst [.int 0,.int 1,.int 2,.int 3,.int 0])
  generalize upd HTB LK (.lst [.int 0,.int 1,.int 2,.int 3,.int 0]) = HK at sK gK ⊢
  refine ⟨LK,rfl,⟨_,SqL.of gK⟩,zn5 (K:=K) (a:=LK) (xs:=[.int 0,.int 1,.int 2,.int 3,.int 0]) (λi σ H2=>∃ (u:Option V),σ = [v0,v1,some (.ref ca),some (.ref oa),some (.int n1),some (.int n2),some (.ref yA),some (.ref yB),u]/\Same HK H2)
    ⟨none,rfl,Same.refl _⟩ (λi σ H2 _ ⟨_,_,z⟩=>SqL.of (z _ _ gK)) ?_ ?_⟩
  · rintro i x σ H2 hi ⟨u,rfl,s2⟩
    obtain ⟨way,hw,rfl⟩:=xo8 hi
    have w2:Same HTB H2:=sK.trans s2
    have wH:Same H H2:=wB'.trans w2
    refine ⟨_,rfl,_,rfl,_,rfl,yA,yB,cs,os,way,n1,n2,rfl,hw,hTA'.kp (.of w2),hTB.kp (.of w2),cl,ol,λe0 m t H3 hm s3 g3=>?_,λz1 h1 hnp t H3 s3 g3=>?_,λz1 z2 hgt t H3 s3 g3=>?_,λz1 z2 hle t H3 s3 g3=>?_⟩
    · refine ⟨_,rfl,_,rfl,_,rfl,_,rfl,_,rfl,ca,oa,cs,os,way,n1,n2,rfl,hw,hn1,hn2,s3 _ _ (wH _ _ hca),s3 _ _ (wH _ _ hoa),cl,ol,λ_ m' t' H4 hm' s4 g4=>?_,λ_ h=>absurd h (by omega),λz1 _ _=>absurd (z1 e0) (λz=>by have:=hm.1; rw [z] at this; cases this),λz1 _ _=>absurd (z1 e0) (λz=>by have:=hm.1; rw [z] at this; cases this)⟩
      obtain rfl:=yr8 hm hm'
      exact ⟨t,t',[.str "twice",.str m],[.str "twice",.str m],rfl,rfl,SqT.of (s4 _ _ g3),SqT.of g4,rfl,rfl,rfl,_,rfl,zf7 (by rw [zm7 rfl]; rfl) ⟨_,rfl,s2.trans (s3.trans s4)⟩⟩
    · refine ⟨_,rfl,_,rfl,_,rfl,_,rfl,_,rfl,ca,oa,cs,os,way,n1,n2,rfl,hw,hn1,hn2,s3 _ _ (wH _ _ hca),s3 _ _ (wH _ _ hoa),cl,ol,λe=>absurd e (by omega),λ_ _ _ t' H4 s4 g4=>?_,λ_ z2 _=>absurd (z2 h1) hnp,λ_ z2 _=>absurd (z2 h1) hnp⟩
      exact ⟨t,t',[.str "unlike",.str ""],[.str "unlike",.str ""],rfl,rfl,SqT.of (s4 _ _ g3),SqT.of g4,rfl,rfl,rfl,_,rfl,zf7 (by rw [zm7 rfl]; rfl) ⟨_,rfl,s2.trans (s3.trans s4)⟩⟩
    · refine ⟨_,rfl,_,rfl,_,rfl,_,rfl,_,rfl,ca,oa,cs,os,way,n1,n2,rfl,hw,hn1,hn2,s3 _ _ (wH _ _ hca),s3 _ _ (wH _ _ hoa),cl,ol,λe m' t' H4 hm' s4 g4=>absurd (z1 e) (λz=>by have:=hm'.1; rw [z] at this; cases this),λ_ h hn=>absurd (z2 h) hn,λ_ _ _ t' H4 s4 g4=>?_,λ_ _ h=>absurd h (by omega)⟩
      exact ⟨t,t',[.str "many",.str ""],[.str "many",.str ""],rfl,rfl,SqT.of (s4 _ _ g3),SqT.of g4,rfl,rfl,rfl,_,rfl,zf7 (by rw [zm7 rfl]; rfl) ⟨_,rfl,s2.trans (s3.trans s4)⟩⟩
    · refine ⟨_,rfl,_,rfl,_,rfl,_,rfl,_,rfl,ca,oa,cs,os,way,n1,n2,rfl,hw,hn1,hn2,s3 _ _ (wH _ _ hca),s3 _ _ (wH _ _ hoa),cl,ol,λe m' t' H4 hm' s4 g4=>absurd (z1 e) (λz=>by have:=hm'.1; rw [z] at this; cases this),λ_ h hn=>absurd (z2 h) hn,λ_ _ h=>absurd h (by omega),λ_ _ _ t' H4 s4 g4=>?_⟩
      exact ⟨t,t',[.str "rows",.int (cnt way n1 n2:Nat)],[.str "rows",.int (cnt way n1 n2:Nat)],rfl,rfl,SqT.of (s4 _ _ g3),SqT.of g4,rfl,rfl,rfl,_,rfl,zf7 (by rw [zm7 rfl]; rfl) ⟨_,rfl,s2.trans (s3.trans s4)⟩⟩
  · rintro σ H2 ⟨u,rfl,s2⟩
    have w2:Same HTB H2:=sK.trans s2
    obtain ⟨rA,wA,hBA,rnA,_⟩:=hTA'.kp (.of w2)
    obtain ⟨dA,fA,hA,hmA⟩:=zc0 hBA
    refine ⟨_,rfl,yA,BC,dA,fA,rfl,hA,rfl,hmA _ bmr,yA,cs,rA,wA,rfl,hBA,λL5 xs5 hL5 hP5=>?_⟩
    have s5:=same_new hL5 (.lst xs5)
    have g5:=upd_same (H:=H2) (a:=L5) (o:=.lst xs5)
    generalize upd H2 L5 (.lst xs5) = H5 at s5 g5 ⊢
    obtain ⟨rB,wB,hBB,rnB,_⟩:=hTB.kp (.of (w2.trans s5))
    obtain ⟨dB,fB,hB,hmB⟩:=zc0 hBB
    refine ⟨L5,_,rfl,.inl (SqL.of g5),_,rfl,rfl,_,rfl,zm6 (by rw [ze6,(plen hP5).trans rnA]; simp) ?_⟩
    refine ⟨_,rfl,yB,BC,dB,fB,rfl,hB,rfl,hmB _ bmr,yB,os,rB,wB,rfl,hBB,λL6 xs6 hL6 hP6=>?_⟩
    refine ⟨L6,_,rfl,.inl (SqL.of upd_same),_,rfl,rfl,?_⟩
    rw [ze6,(plen hP6).trans rnB]
    simpa using q _
end
structure PEw (X:Cx) (e:Expr) (t:TE):Prop where
  h:PE X e t
structure PAw (X:Cx) (es:List Expr) (t:TA):Prop where
  h:PA X es t
structure PSsw (X:Cx) (ss:List Stmt) (t:TS):Prop where
  h:PSs X ss t
theorem zj9 {X:Cx}:PAw X [] tNil:=⟨za2⟩
theorem zc2 {X:Cx} {e:Expr} {es:List Expr} {te:TE} {t:TA} (he:PEw X e te) (hr:PAw X es t) (hs:starEach (e :: es) X.env = (false,eval e X.env) :: starEach es X.env:=by rfl):PAw X (e :: es) (zp9 te t):=⟨za0 he.h hr.h hs⟩
theorem zm1 {X:Cx} {es:List Expr} {t:TA} {k:Nat} {pos:Pos} (h:PAw X es t):PEw X (.Tuple es k pos) (tTup t):=⟨zg3 h.h⟩
theorem xk7 {X:Cx} {es:List Expr} {t:TA} {pos:Pos} (h:PAw X es t):PEw X (.List es pos) (tLst t):=⟨ze7 h.h⟩
theorem zf6 {X:Cx} {i j pos}:PEw X (.Constant (.int i) j pos) (tC (.int i)):=⟨zb1⟩
theorem xq4 {X:Cx} {a b:Expr} {ta tb:TE} {r:R2} {pos:Pos} (hr:IxR X r) (ha:PEw X a ta) (hb:PEw X b tb) (hs:xb9 b):PEw X (.Subscript a b pos) (tOp r ta tb):=⟨ye0 hr ha.h hb.h hs⟩
theorem xc8 {X:Cx} {tg e:Expr} {te:TE} {g:TG} {pos:Pos} (he:PEw X e te) (hg:PG X tg g) (hs:swapsWithSole [tg] e pos.line X.env = pure false:=by rfl) (hw:swappedStores [tg] e X.env = pure none:=by rfl)
    (h1:(assignEach [tg] X.env).map (·.2) = [assign tg X.env]:=by rfl):PSsw X [.Assign [tg] e pos] (tSeq (tAsg te g) yc7):=⟨za3 (xh7 he.h hg hs hw h1) zb8⟩
theorem xq3 {X:Cx} {test:Expr} {body els:List Stmt} {tt:TT} {tb te:TS} {pos:Pos} (ht:PT X test tt) (hb:PSsw X body tb) (he:PSs X els te):PS X (.If test body els pos) (tIfS tt tb te):=zg5 ht hb.h he
section
variable {P:Program} {w:World} {K:W.Frag} {mg:Str->Option Value} {base:Heap} {f:Addr} {fd:FuncData} {T:Cl} {CC BC:Addr}
theorem xf4 {cdv:Value} {A:Around} {outer:List Env} {s:Shared} {H0':Hp} {E:XK} (hr:Room 51 (A.deeper (PyProof.Rows.envOfC "law" (za1 sLaw) s.heap.objs.size f cdv))) (X:Txt mg) (FR:Fam P w K mg base CX0 1 (· = BC) "rows" ["self"] (λ_=>zh2 T BC))
    (MB:MkD P w K mg base "Table" BC 44 ["self","columns","rows","whole"] (spBI T BC)) (M1:MkC P w K mg base "Truth" T.t 42 ["self","said"] (spTI T))
    (C2:Cal P w K mg base "_law_asked" 50 ["_law_way","_law_one","_law_other"] (zv6 T BC)) (C3:Cal P w K mg base "_law_due" 1 ["_law_way","_law_columns","_law_others_here","_law_many","_law_more"] yv1) :
    ∃ t,PSs (cxOf CX0 P w K mg base nmL "law" (za1 sLaw) f cdv A outer s H0' E).nox ((za5 sLaw).drop 6) t /\
      ∀ (Q:VK) (H:Hp) (v0:Option V) (way:Int) (ca oa:Addr) (cs os:List Str) (n1 n2:Nat),H ca = some (.lst (cs.map V.str))->H oa = some (.lst (os.map V.str))->cs.Nodup->os.Nodup->cs.length<=5->os.length<=5->n1<=24->n2<=24->(∀ H',Q (.bl true) H') ->
        t { nx:=λ_ H'=>Q .non H',rt:=Q } [v0,some (.int way),some (.ref ca),some (.ref oa),some (.int n1),some (.int n2),none,none,none] H:=by
  obtain ⟨tt,ht,q7⟩:=xm7 (P:=P) (w:=w) (K:=K) (mg:=mg) (base:=base) (f:=f) (outer:=outer) (H0':=H0') (E:=E) (n:=0) hr X FR MB M1 C2 C3
  refine ⟨_,za3 (zg5 (zb7 zp2 (zc9 zg9 (zc9 zh3 (pv 1) zb1) zb1) zb1 (zd0 _)) (za4 (xq2 (i:=4) (j:=5) rfl scLw.nd rfl rfl (by decide) rfl rfl (za0 (pv 5) (za0 (pv 4) za2)) rfl)) zb8) ht,?_⟩
  intro Q H v0 way ca oa cs os n1 n2 hca hoa nd1 nd2 cl ol hn1 hn2 q
  refine ⟨_,rfl,_,_,rfl,rfl,⟨by decide,by decide⟩,_,_,rfl,rfl,(by decide:(0:Int) < 2),rfl,_,rfl,ite2 (λ_=>?_) (λ_=>?_)⟩
  · exact ⟨_,rfl,_,rfl,_,_,rfl,q7 Q H v0 _ ca oa cs os n2 n1 hca hoa nd1 nd2 cl ol hn2 hn1 q⟩
  · exact q7 Q H v0 _ ca oa cs os n1 n2 hca hoa nd1 nd2 cl ol hn1 hn2 q
theorem xr2 (Fn:Fun K "law" "law" sLaw f fd) (X:Txt mg) (FR:Fam P w K mg base CX0 1 (· = BC) "rows" ["self"] (λ_=>zh2 T BC))
    (MB:MkD P w K mg base "Table" BC 44 ["self","columns","rows","whole"] (spBI T BC)) (M1:MkC P w K mg base "Truth" T.t 42 ["self","said"] (spTI T))
    (C2:Cal P w K mg base "_law_asked" 50 ["_law_way","_law_one","_law_other"] (zv6 T BC)) (C3:Cal P w K mg base "_law_due" 1 ["_law_way","_law_columns","_law_others_here","_law_many","_law_more"] yv1)
    (C4:Cal P w K mg base "_law_cell_at" 1 ["_law_script","_law_k"] (zu2 K)) (C5:Cal P w K mg base "_law_names" 2 ["_law_script","_law_at","_law_many","_law_out"] (yd3 K)) (C6:Cal P w K mg base "_law_others" 3 ["_law_script","_law_columns","_law_way"] (yd2 K)):FnOk P w K mg base CX0 52 f fd ["_law_script"] (xc5 K):=by
  refine Fn.ok (k:=51) scLw (λvs H Q E h=>?_) (λcdv A outer s H vs Q E hr h=>?_)
  · obtain ⟨a,ns,rfl,_⟩:=h
    rfl
  obtain ⟨sa,ns,rfl,hS,nl,q⟩:=h
  obtain ⟨tt,ht,q6⟩:=xf4 (P:=P) (w:=w) (K:=K) (mg:=mg) (base:=base) (f:=f) (outer:=outer) (H0':=H) (E:=E) hr X FR MB M1 C2 C3
  obtain ⟨f4,d4,G4,b4,k4,m4⟩:=C4
  obtain ⟨f5,d5,G5,b5,k5,m5⟩:=C5
  obtain ⟨f6,d6,G6,b6,k6,m6⟩:=C6
  have hr1:Room 1 _:=hr.mono (by decide)
  have hr2:Room 2 _:=hr.mono (by decide)
  have hr3:Room 3 _:=hr.mono (by decide)
  refine ⟨_,za3 (zc7 (i:=1) scLw.nd rfl (Or.inl rfl) (zc9 zg9 (za9 G4 hr1 rfl m4 k4 b4 .nil zb0 (za0 (pv 0) (za0 zb1 za2))) (zc9 xq9 zb1 zb1)))
    (za3 (zc7 (i:=2) scLw.nd rfl (Or.inr rfl) (za9 G5 hr2 rfl m5 k5 b5 .nil zb0 (za0 (pv 0) (za0 zb1 (za0 (zc9 zg9 (zc9 zh3 (pv 1) zb1) zb1) (za0 (ze7 za2) za2))))))
    (za3 (zc7 (i:=3) scLw.nd rfl (Or.inr rfl) (za9 G6 hr3 rfl m6 k6 b6 .nil zb0 (za0 (pv 0) (za0 (pv 2) (za0 (pv 1) za2)))))
    (za3 (zc7 (i:=4) scLw.nd rfl (Or.inl rfl) (zc9 zg9 (za9 G4 hr1 rfl m4 k4 b4 .nil zb0 (za0 (pv 0) (za0 zb1 za2))) zb1))
    (za3 (zc7 (i:=5) scLw.nd rfl (Or.inl rfl) (zc9 zg9 (za9 G4 hr1 rfl m4 k4 b4 .nil zb0 (za0 (pv 0) (za0 zb1 za2))) zb1))
    (za3 (xq3 (zb7 zp2 (zc9 zg9 (zc9 zh3 (pv 1) zb1) zb1) zb1 (zd0 _)) (xc8 (xq4 zs4 (xk7 (zc2 (zm1 (zc2 zf6 (zc2 zf6 zj9))) (zc2 (zm1 (zc2 zf6 (zc2 zf6 zj9))) (zc2 (zm1 (zc2 zf6 (zc2 zf6 zj9))) (zc2 (zm1 (zc2 zf6 (zc2 zf6 zj9))) (zc2 (zm1 (zc2 zf6 (zc2 zf6 zj9))) (zc2 (zm1 (zc2 zf6 (zc2 zf6 zj9))) (zc2 (zm1 (zc2 zf6 (zc2 zf6 zj9))) (zc2 (zm1 (zc2 zf6 (zc2 zf6 zj9))) zj9))))))))) ⟨zc9 zg9 (zc9 zh3 (pv 1) zb1) zb1⟩ (λ_ _=>rfl)) (zo9 rfl (zc1 (zb2 (i:=4) scLw.nd rfl (Or.inl rfl)) (zc1 (zb2 (i:=5) scLw.nd rfl (Or.inl rfl)) zg8)))) zb8)
    ht))))),?_⟩
  refine ⟨_,rfl,sa,ns,0,rfl,hS,λz0=>⟨_,_,rfl,rfl,⟨by decide,by decide,by decide⟩,_,_,rfl,rfl,(by decide +kernel:(0:Int) < 10 ^ (9:Int).toNat),?_⟩⟩
  have hway:0<=z0 % 10 ^ (9:Int).toNat:=Int.emod_nonneg _ (by decide +kernel)
  show tSeq _ _ _ [some (.ref sa),some (.int (z0 % 10 ^ (9:Int).toNat)),none,none,none,none,none,none,none] H
  generalize z0 % 10 ^ (9:Int).toNat = way at hway ⊢
  have h5:0<=way / 36 % 5:=Int.emod_nonneg _ (by decide)
  have h5':way / 36 % 5 < 5:=Int.emod_lt_of_pos _ (by decide)
  obtain ⟨m,hm⟩:=Int.eq_ofNat_of_zero_le h5
  refine ⟨_,rfl,_,rfl,_,_,rfl,rfl,⟨by decide,by decide⟩,_,_,rfl,rfl,(by decide:(0:Int) < 5),zb6 (by simp),λE0' hE0=>?_⟩
  have s0:=same_new hE0 (.lst [])
  have g0:=upd_same (H:=H) (a:=E0') (o:=.lst [])
  generalize upd H E0' (.lst []) = H0 at s0 g0 ⊢
  refine ⟨sa,E0',ns,[],2,m,by rw [<- hm]; rfl,s0.seq hS,g0,by omega,by decide,λca cs H1 s1 _ hca nd1 _ cl=>?_⟩
  have w1:=s0.trans s1
  refine ⟨_,rfl,_,rfl,_,rfl,sa,ca,ns,cs,way,rfl,hway,w1.seq hS,hca,nd1,by omega,λoa os H2 s2 hoa nd2 ol=>?_⟩
  have w2:=w1.trans s2
  have hca2:=s2 _ _ hca
  refine ⟨_,rfl,sa,ns,8,rfl,w2.seq hS,λz1=>⟨_,_,rfl,rfl,(by decide:(0:Int) < 25),?_⟩⟩
  have a0:0<=z1 % 25:=Int.emod_nonneg _ (by decide)
  have a1:z1 % 25 < 25:=Int.emod_lt_of_pos _ (by decide)
  obtain ⟨n1,e1⟩:=Int.eq_ofNat_of_zero_le a0
  refine ⟨_,rfl,sa,ns,9,rfl,w2.seq hS,λz2=>⟨_,_,rfl,rfl,(by decide:(0:Int) < 25),?_⟩⟩
  have c0:0<=z2 % 25:=Int.emod_nonneg _ (by decide)
  have c1:z2 % 25 < 25:=Int.emod_lt_of_pos _ (by decide)
  obtain ⟨n2,e2⟩:=Int.eq_ofNat_of_zero_le c0
  refine ⟨_,rfl,_,_,rfl,rfl,⟨by decide,by decide⟩,_,_,rfl,rfl,(by decide:(0:Int) < 2),rfl,_,rfl,ite2 (λ_=>?_) (λ_=>?_)⟩
  · refine ⟨zb6 (by simp),λt0 ht0=>?_⟩
    have r0:=same_new ht0 (.tup [.int 24,.int 1])
    have p0:=upd_same (H:=H2) (a:=t0) (o:=.tup [.int 24,.int 1])
    generalize upd H2 t0 (.tup [.int 24,.int 1]) = K0 at r0 p0 ⊢
    refine ⟨zb6 (by simp),λt1 ht1=>?_⟩
    have r1:=same_new ht1 (.tup [.int 5,.int 5])
    have p1:=upd_same (H:=K0) (a:=t1) (o:=.tup [.int 5,.int 5])
    generalize upd K0 t1 (.tup [.int 5,.int 5]) = K1 at r1 p1 ⊢
    refine ⟨zb6 (by simp),λt2 ht2=>?_⟩
    have r2:=same_new ht2 (.tup [.int 4,.int 6])
    have p2:=upd_same (H:=K1) (a:=t2) (o:=.tup [.int 4,.int 6])
    generalize upd K1 t2 (.tup [.int 4,.int 6]) = K2 at r2 p2 ⊢
    refine ⟨zb6 (by simp),λt3 ht3=>?_⟩
    have r3:=same_new ht3 (.tup [.int 3,.int 8])
    have p3:=upd_same (H:=K2) (a:=t3) (o:=.tup [.int 3,.int 8])
    generalize upd K2 t3 (.tup [.int 3,.int 8]) = K3 at r3 p3 ⊢
    refine ⟨zb6 (by simp),λt4 ht4=>?_⟩
    have r4:=same_new ht4 (.tup [.int 12,.int 2])
    have p4:=upd_same (H:=K3) (a:=t4) (o:=.tup [.int 12,.int 2])
    generalize upd K3 t4 (.tup [.int 12,.int 2]) = K4 at r4 p4 ⊢
    refine ⟨zb6 (by simp),λt5 ht5=>?_⟩
    have r5:=same_new ht5 (.tup [.int 12,.int 12])
    have p5:=upd_same (H:=K4) (a:=t5) (o:=.tup [.int 12,.int 12])
    generalize upd K4 t5 (.tup [.int 12,.int 12]) = K5 at r5 p5 ⊢
    refine ⟨zb6 (by simp),λt6 ht6=>?_⟩
    have r6:=same_new ht6 (.tup [.int 12,.int 13])
    have p6:=upd_same (H:=K5) (a:=t6) (o:=.tup [.int 12,.int 13])
    generalize upd K5 t6 (.tup [.int 12,.int 13]) = K6 at r6 p6 ⊢
    refine ⟨zb6 (by simp),λt7 ht7=>?_⟩
    have r7:=same_new ht7 (.tup [.int 24,.int 0])
    have p7:=upd_same (H:=K6) (a:=t7) (o:=.tup [.int 24,.int 0])
    generalize upd K6 t7 (.tup [.int 24,.int 0]) = K7 at r7 p7 ⊢
    refine ⟨zb6 (by simp),λL hL=>?_⟩
    have rL:=same_new hL (.lst [.ref t0,.ref t1,.ref t2,.ref t3,.ref t4,.ref t5,.ref t6,.ref t7])
    have pL:=upd_same (H:=K7) (a:=L) (o:=.lst [.ref t0,.ref t1,.ref t2,.ref t3,.ref t4,.ref t5,.ref t6,.ref t7])
    generalize upd K7 L (.lst [.ref t0,.ref t1,.ref t2,.ref t3,.ref t4,.ref t5,.ref t6,.ref t7]) = KL at rL pL ⊢
    have x7:Same K7 KL:=rL
    have x6:Same K6 KL:=r7.trans x7
    have x5:Same K5 KL:=r6.trans x6
    have x4:Same K4 KL:=r5.trans x5
    have x3:Same K3 KL:=r4.trans x4
    have x2:Same K2 KL:=r3.trans x3
    have x1:Same K1 KL:=r2.trans x2
    have x0:Same K0 KL:=r1.trans x1
    have xa:Same H2 KL:=r0.trans x0
    have pick:∃ (t:Addr) (a b:Nat),atI ([.ref t0,.ref t1,.ref t2,.ref t3,.ref t4,.ref t5,.ref t6,.ref t7]:List V) (way / 360 % 8) = some (.ref t)/\KL t = some (.tup [.int a,.int b])/\a<=24/\b<=24:=by
      have hc:way / 360 % 8 = 0\/way / 360 % 8 = 1\/way / 360 % 8 = 2\/way / 360 % 8 = 3\/way / 360 % 8 = 4\/way / 360 % 8 = 5\/way / 360 % 8 = 6\/way / 360 % 8 = 7:=by omega
      rcases hc with hc | hc | hc | hc | hc | hc | hc | hc
      · exact ⟨t0,24,1,by rw [hc]; rfl,x0 _ _ p0,by decide,by decide⟩
      · exact ⟨t1,5,5,by rw [hc]; rfl,x1 _ _ p1,by decide,by decide⟩
      · exact ⟨t2,4,6,by rw [hc]; rfl,x2 _ _ p2,by decide,by decide⟩
      · exact ⟨t3,3,8,by rw [hc]; rfl,x3 _ _ p3,by decide,by decide⟩
      · exact ⟨t4,12,2,by rw [hc]; rfl,x4 _ _ p4,by decide,by decide⟩
      · exact ⟨t5,12,12,by rw [hc]; rfl,x5 _ _ p5,by decide,by decide⟩
      · exact ⟨t6,12,13,by rw [hc]; rfl,x6 _ _ p6,by decide,by decide⟩
      · exact ⟨t7,24,0,by rw [hc]; rfl,x7 _ _ p7,by decide,by decide⟩
    obtain ⟨tk,ka,kb,hat,htk,la,lb⟩:=pick
    refine ⟨_,rfl,_,_,rfl,rfl,⟨by decide,by decide⟩,_,_,rfl,rfl,(by decide:(0:Int) < 8),L,_,_,_,rfl,rfl,SqL.of pL,hat,tk,_,rfl,SqT.of htk,rfl,_,_,rfl,_,_,rfl,rfl,?_⟩
    exact q6 Q KL _ way ca oa cs os ka kb (xa _ _ hca2) (xa _ _ hoa) nd1 nd2 (by omega) (by omega) la lb q
  · show tt _ [some (.ref sa),some (.int way),some (.ref ca),some (.ref oa),some (.int (z1 % 25)),some (.int (z2 % 25)),none,none,none] H2
    rw [e1,e2]
    exact q6 Q H2 _ way ca oa cs os n1 n2 hca2 hoa nd1 nd2 (by omega) (by omega) (by omega) (by omega) q
end
structure CF (K:W.Frag) (C fH:Addr):Prop where
  pg:W.plainGet K C Str.empty = true
  hd:W.hasDictIn K C = true
  po:W.plainOver K C = true
  sa:W.findIn K (.ref C) "__setattr__" = some (some (.builtin "object.__setattr__"))
  ng:W.findIn K (.ref C) "kept_gaps" = some none
  nv:W.findIn K (.ref C) "kept_values" = some none
  na:W.findIn K (.ref C) "kept_atoms" = some none
  ns:W.findIn K (.ref C) "settled" = some none
  mh:W.findIn K (.ref C) "holds" = some (some (.ref fH))
  mks:W.makesIn K C = true
  kp:W.keepIn K (.ref C) = true
  cls:W.findIn K (.ref C) "__class__" = some (some (.builtin "object.__class__"))
  mro:W.mroIn K C (.type "object") = some true
theorem per {T:Cl} {P:Addr->Prop} (h1:P T.t) (h2:P T.s) (h3:P T.a) (h4:P T.o) (h5:P T.p):∀ c:Cd,P (T.of c)
  | .truth _=>h1
  | .same _ _=>h2
  | .all _=>h3
  | .one _=>h4
  | .opp _=>h5
theorem CF.c {K:W.Frag} {C fH:Addr} (h:CF K C fH):Cls K C:=⟨h.pg,h.hd,h.po,h.sa⟩
theorem xr4 {K:W.Frag} {h:Heap} {N:Addr} {m:Str->Option Value} {x:Str} {v:Value} (I:K.In h) (J:h.Ns N m) (e:W.nsIn K N x = some (some v)):m x = some v:=by
  obtain ⟨ob,en,np,g1,g2,_,g3⟩:=J
  unfold W.nsIn at e
  split at e
  · rename_i q
    have z:=I _ _ q
    rw [g1] at z
    cases z
    cases g2
    split at e
    · rename_i y hy
      cases e
      rw [<- g3]
      unfold nsFind findBy
      rw [<- Array.find?_toList,hy]
      rfl
    · split at e <;> cases e
  · cases e
def xcI (K:W.Frag) (C fI:Addr) (bB:List Value) (nw:String):Bool:=
  match K.lookup C with
  | some ⟨.type "type",_,.cls k,sl⟩=>
    (match k.mro,sl.toList with
    | .ref D :: bm,[_,_,_,_,some (.builtin n),_]=>(D == C && n == nw) && (!k.hasDel && (W.tailIn K bB bm && (W.nsOkIn K k.ns && W.nsIn K k.ns "__init__" == some (some (.ref fI)))))
    | _,_=>false)
  | _=>false
theorem xl0 {K:W.Frag} {h:Heap} {mg:Str->Option Value} {x:Str} {C fI:Addr} {bB:List Value} {nw:String} (I:K.In h) (J:h.Ns mainGlobals mg) (e:W.nsIn K mainGlobals x = some (some (.ref C))) (q:xcI K C fI bB nw = true) (hf:W.isFn K (.ref fI) = true):OwnI x C bB nw fI mg h:=by
  refine ⟨W.mg_of I J e,?_,?_⟩
  · unfold xcI at q
    split at q
    · rename_i dd k sl g1
      split at q
      · rename_i D bm j0 j1 j2 j3 n j5 g2 g3
        simp only [Bool.and_eq_true,beq_iff_eq,Bool.not_eq_true'] at q
        obtain ⟨⟨rfl,rfl⟩,g4,g5,g6,g7⟩:=q
        obtain ⟨c1,c2,c3,c4,c5,c6,c7,c8,c9,c10,c11⟩:=k
        dsimp only at g2 g4 g6 g7
        subst g2 g4
        obtain ⟨sl⟩:=sl
        dsimp only at g3
        subst g3
        exact ⟨bm,c4,c1,c5,c2,c6,c7,c8,c9,c10,dd,j0,j1,j2,j3,j5,_,I _ _ g1,.of_isNs (W.isNs_of_in I g6),xr4 I (.of_isNs (W.isNs_of_in I g6)) g7,W.tail_of_in I g5⟩
      · cases q
    · cases q
  · have z:(K.lookup fI).map (·.cls) = some (.type "function"):=by
      have:=hf
      unfold W.isFn at this
      exact beq_iff_eq.mp this
    obtain ⟨ob,g1,g2⟩:=Option.map_eq_some_iff.mp z
    exact ⟨ob,I _ _ g1,g2⟩
def xcB (K:W.Frag) (C:Addr) (bB:List Value) (nw:String):Bool:=
  match K.lookup C with
  | some ⟨.type "type",_,.cls k,sl⟩=>
    (match k.mro,sl.toList with
    | .ref D :: bm,[_,_,_,_,some (.builtin n),_]=>(D == C && n == nw) && (!k.hasDel && W.tailIn K bB bm)
    | _,_=>false)
  | _=>false
theorem xl1 {K:W.Frag} {h:Heap} {mg:Str->Option Value} {x:Str} {C:Addr} {bB:List Value} {nw:String} (I:K.In h) (J:h.Ns mainGlobals mg) (e:W.nsIn K mainGlobals x = some (some (.ref C))) (q:xcB K C bB nw = true):OwnB x C bB nw mg h:=by
  refine ⟨W.mg_of I J e,?_⟩
  unfold xcB at q
  split at q
  · rename_i dd k sl g1
    split at q
    · rename_i D bm j0 j1 j2 j3 n j5 g2 g3
      simp only [Bool.and_eq_true,beq_iff_eq,Bool.not_eq_true'] at q
      obtain ⟨⟨rfl,rfl⟩,g4,g5⟩:=q
      obtain ⟨c1,c2,c3,c4,c5,c6,c7,c8,c9,c10,c11⟩:=k
      dsimp only at g2 g4
      subst g2 g4
      obtain ⟨sl⟩:=sl
      dsimp only at g3
      subst g3
      exact ⟨bm,c4,c1,c5,c2,c6,c7,c8,c9,c10,dd,j0,j1,j2,j3,j5,I _ _ g1,W.tail_of_in I g5⟩
    · cases q
  · cases q
def xcS (K:W.Frag) (C M:Addr):Bool:=
  match K.lookup C with
  | some ⟨.type "type",_,.cls k,sl⟩=>
    (match k.mro,sl.toList with
    | .ref D :: bm,[_,_,_,_,some (.builtin n),_]=>(D == C) && (!k.hasDel && (Value.ref C :: bm).contains (.ref M))
    | _,_=>false)
  | _=>false
theorem yu6 {K:W.Frag} {h:Heap} {C M:Addr} (I:K.In h) (q:xcS K C M = true):SubE C M h:=by
  unfold xcS at q
  split at q
  · rename_i dd k sl g1
    split at q
    · rename_i D bm j0 j1 j2 j3 n j5 g2 g3
      simp only [Bool.and_eq_true,beq_iff_eq,Bool.not_eq_true'] at q
      obtain ⟨rfl,g4,g5⟩:=q
      obtain ⟨c1,c2,c3,c4,c5,c6,c7,c8,c9,c10,c11⟩:=k
      dsimp only at g2 g4
      subst g2 g4
      obtain ⟨sl⟩:=sl
      dsimp only at g3
      subst g3
      exact ⟨bm,c4,c1,c5,c2,c6,c7,c8,c9,c10,dd,j0,j1,j2,j3,j5,_,I _ _ g1,g5⟩
    · cases q
  · cases q
theorem xh8 {K:W.Frag} {h₀:Heap} {mg:Str->Option Value} {x:Str} {C:Addr} {bmB:List Value} {newId:String} (X:K.In h₀) (G:h₀.Ns mainGlobals mg) (e:W.nsIn K mainGlobals x = some (some (.ref C))) (q:W.excIn K C bmB newId = true):PyProof.Rows.OwnCls x C bmB newId mg h₀:=by
  refine ⟨W.mg_of X G e,?_⟩
  unfold W.excIn at q
  split at q
  · rename_i dd cd sl ho
    split at q
    · rename_i C' bm k0 k1 k2 k3 n k5 hm hs
      simp only [Bool.and_eq_true,beq_iff_eq,Bool.not_eq_true'] at q
      obtain ⟨⟨⟨⟨⟨rfl,rfl⟩,hdel⟩,ht⟩,hok⟩,hni⟩:=q
      obtain ⟨nm,bs,mro,ns,qn,hd,sn,sub,ab,col,del⟩:=cd
      dsimp only at hm hdel hok hni
      subst hm hdel
      have hsl:sl = #[k0,k1,k2,k3,some (.builtin n),k5]:=by
        obtain ⟨l⟩:=sl
        simp only at hs
        rw [hs]
      subst hsl
      exact ⟨bm,ns,nm,qn,bs,hd,sn,sub,ab,col,dd,k0,k1,k2,k3,k5,_,X _ _ ho,.of_isNs (W.isNs_of_in X hok),W.nsMap_none_of_in X hok hni,W.tail_of_in X ht⟩
    · cases q
  · cases q
theorem all_mk {l : W.OpenLaw} {w : World} {K : W.Frag} {h : Heap} {mg : Str -> Option Value} {fa DT CC Tt Ts Ta To Tp BC E0 E1 E2 E3 E4 E5 E6 E7 E8 E9 f_d0 f_d1 f_d2 f_d3 f_d4 f_d5 f_d6 f_d7 f_d8 f_d9 f_d10 f_d11 f_d12 f_d13 f_d14 f_d15 f_d16 f_d17 f_d18 f_d19 f_d20 f_d21 f_d22 f_d23 f_d24 f_d25 f_d26 f_d27 f_d28 f_d29 f_d30 f_d31 f_i0 f_h0 f_i1 f_w1 f_i2 f_w2 f_i3 f_w3 f_i4 f_w4 f_i5 f_w5 f_i6 f_c6 f_r6 f_h6 f_x7 : Addr} {tmost : Tok} {oDT : Option Addr} {cDT : Value} {sDT : Array (Option Value)} {nDT : Nat} (X : K.In h) (G : h.Ns mainGlobals mg) (hfa : mg "law" = some (.ref fa))
    {od_d0 an_d0 od_d1 an_d1 od_d2 an_d2 od_d3 an_d3 od_d4 an_d4 od_d5 an_d5 od_d6 an_d6 od_d7 an_d7 od_d8 an_d8 od_d9 an_d9 od_d10 an_d10 od_d11 an_d11 od_d12 an_d12 od_d13 an_d13 od_d14 an_d14 od_d15 an_d15 od_d16 an_d16 od_d17 an_d17 od_d18 an_d18 od_d19 an_d19 od_d20 an_d20 od_d21 an_d21 od_d22 an_d22 od_d23 an_d23 od_d24 an_d24 od_d25 an_d25 od_d26 an_d26 od_d27 an_d27 od_d28 an_d28 od_d29 an_d29 od_d30 an_d30 od_d31 an_d31 od_i0 an_i0 od_h0 an_h0 od_i1 an_i1 od_w1 an_w1 od_i2 an_i2 od_w2 an_w2 od_i3 an_i3 od_w3 an_w3 od_i4 an_i4 od_w4 an_w4 od_i5 an_i5 od_w5 an_w5 od_i6 an_i6 od_c6 an_c6 od_r6 an_r6 od_h6 an_h6 od_x7 an_x7 : Option Addr} {sl_d0 sl_d1 sl_d2 sl_d3 sl_d4 sl_d5 sl_d6 sl_d7 sl_d8 sl_d9 sl_d10 sl_d11 sl_d12 sl_d13 sl_d14 sl_d15 sl_d16 sl_d17 sl_d18 sl_d19 sl_d20 sl_d21 sl_d22 sl_d23 sl_d24 sl_d25 sl_d26 sl_d27 sl_d28 sl_d29 sl_d30 sl_d31 sl_i0 sl_h0 sl_i1 sl_w1 sl_i2 sl_w2 sl_i3 sl_w3 sl_i4 sl_w4 sl_i5 sl_w5 sl_i6 sl_c6 sl_r6 sl_h6 sl_x7 : Array (Option Value)} {oc_d0 kV_d0 dc_d0 pm_d0 cd_d0 ct_d0 oc_d1 kV_d1 dc_d1 pm_d1 cd_d1 ct_d1 oc_d2 kV_d2 dc_d2 pm_d2 cd_d2 ct_d2 oc_d3 kV_d3 dc_d3 pm_d3 cd_d3 ct_d3 oc_d4 kV_d4 dc_d4 pm_d4 cd_d4 ct_d4 oc_d5 kV_d5 dc_d5 pm_d5 cd_d5 ct_d5 oc_d6 kV_d6 dc_d6 pm_d6 cd_d6 ct_d6 oc_d7 kV_d7 dc_d7 pm_d7 cd_d7 ct_d7 oc_d8 kV_d8 dc_d8 pm_d8 cd_d8 ct_d8 oc_d9 kV_d9 dc_d9 pm_d9 cd_d9 ct_d9 oc_d10 kV_d10 dc_d10 pm_d10 cd_d10 ct_d10 oc_d11 kV_d11 dc_d11 pm_d11 cd_d11 ct_d11 oc_d12 kV_d12 dc_d12 pm_d12 cd_d12 ct_d12 oc_d13 kV_d13 dc_d13 pm_d13 cd_d13 ct_d13 oc_d14 kV_d14 dc_d14 pm_d14 cd_d14 ct_d14 oc_d15 kV_d15 dc_d15 pm_d15 cd_d15 ct_d15 oc_d16 kV_d16 dc_d16 pm_d16 cd_d16 ct_d16 oc_d17 kV_d17 dc_d17 pm_d17 cd_d17 ct_d17 oc_d18 kV_d18 dc_d18 pm_d18 cd_d18 ct_d18 oc_d19 kV_d19 dc_d19 pm_d19 cd_d19 ct_d19 oc_d20 kV_d20 dc_d20 pm_d20 cd_d20 ct_d20 oc_d21 kV_d21 dc_d21 pm_d21 cd_d21 ct_d21 oc_d22 kV_d22 dc_d22 pm_d22 cd_d22 ct_d22 oc_d23 kV_d23 dc_d23 pm_d23 cd_d23 ct_d23 oc_d24 kV_d24 dc_d24 pm_d24 cd_d24 ct_d24 oc_d25 kV_d25 dc_d25 pm_d25 cd_d25 ct_d25 oc_d26 kV_d26 dc_d26 pm_d26 cd_d26 ct_d26 oc_d27 kV_d27 dc_d27 pm_d27 cd_d27 ct_d27 oc_d28 kV_d28 dc_d28 pm_d28 cd_d28 ct_d28 oc_d29 kV_d29 dc_d29 pm_d29 cd_d29 ct_d29 oc_d30 kV_d30 dc_d30 pm_d30 cd_d30 ct_d30 oc_d31 kV_d31 dc_d31 pm_d31 cd_d31 ct_d31 oc_i0 kV_i0 dc_i0 pm_i0 cd_i0 ct_i0 oc_h0 kV_h0 dc_h0 pm_h0 cd_h0 ct_h0 oc_i1 kV_i1 dc_i1 pm_i1 cd_i1 ct_i1 oc_w1 kV_w1 dc_w1 pm_w1 cd_w1 ct_w1 oc_i2 kV_i2 dc_i2 pm_i2 cd_i2 ct_i2 oc_w2 kV_w2 dc_w2 pm_w2 cd_w2 ct_w2 oc_i3 kV_i3 dc_i3 pm_i3 cd_i3 ct_i3 oc_w3 kV_w3 dc_w3 pm_w3 cd_w3 ct_w3 oc_i4 kV_i4 dc_i4 pm_i4 cd_i4 ct_i4 oc_w4 kV_w4 dc_w4 pm_w4 cd_w4 ct_w4 oc_i5 kV_i5 dc_i5 pm_i5 cd_i5 ct_i5 oc_w5 kV_w5 dc_w5 pm_w5 cd_w5 ct_w5 oc_i6 kV_i6 dc_i6 pm_i6 cd_i6 ct_i6 oc_c6 kV_c6 dc_c6 pm_c6 cd_c6 ct_c6 oc_r6 kV_r6 dc_r6 pm_r6 cd_r6 ct_r6 oc_h6 kV_h6 dc_h6 pm_h6 cd_h6 ct_h6 oc_x7 kV_x7 dc_x7 pm_x7 cd_x7 ct_x7 : Value}
    (n_CC : W.nsIn K mainGlobals "Cond" = some (some (.ref CC)))
    (n_Tt : W.nsIn K mainGlobals "Truth" = some (some (.ref Tt)))
    (n_Ts : W.nsIn K mainGlobals "Same" = some (some (.ref Ts)))
    (n_Ta : W.nsIn K mainGlobals "AllOf" = some (some (.ref Ta)))
    (n_To : W.nsIn K mainGlobals "OneOf" = some (some (.ref To)))
    (n_Tp : W.nsIn K mainGlobals "Opposite" = some (some (.ref Tp)))
    (n_BC : W.nsIn K mainGlobals "Table" = some (some (.ref BC)))
    (n_E0 : W.nsIn K mainGlobals "MaybeError" = some (some (.ref E0)))
    (n_E1 : W.nsIn K mainGlobals "NoFilling" = some (some (.ref E1)))
    (n_E2 : W.nsIn K mainGlobals "TooMany" = some (some (.ref E2)))
    (n_E3 : W.nsIn K mainGlobals "Twice" = some (some (.ref E3)))
    (n_E4 : W.nsIn K mainGlobals "Short" = some (some (.ref E4)))
    (n_E5 : W.nsIn K mainGlobals "NoColumn" = some (some (.ref E5)))
    (n_E6 : W.nsIn K mainGlobals "Unlike" = some (some (.ref E6)))
    (n_E7 : W.nsIn K mainGlobals "TooFew" = some (some (.ref E7)))
    (n_E8 : W.nsIn K mainGlobals "NoText" = some (some (.ref E8)))
    (n_E9 : W.nsIn K mainGlobals "NoName" = some (some (.ref E9)))
    (dj : [Tt, Ts, Ta, To, Tp].Nodup)
    (a_d0 : W.nsIn K mainGlobals "cell_value" = some (some (.ref f_d0)))
    (l_d0 : K.lookup f_d0 = some ⟨oc_d0, od_d0, .func (W.fnOf "cell_value" "cell_value" (za6 ya9) (za5 ya9) (za1 ya9) .none kV_d0 dc_d0 pm_d0 an_d0 cd_d0 ct_d0), sl_d0⟩)
    (c_d0 : W.codeIn K cd_d0 "cell_value" = true)
    (k_d0 : W.keepIn K (.ref f_d0) = true)
    (a_d1 : W.nsIn K mainGlobals "gaps_among" = some (some (.ref f_d1)))
    (l_d1 : K.lookup f_d1 = some ⟨oc_d1, od_d1, .func (W.fnOf "gaps_among" "gaps_among" (za6 ya6) (za5 ya6) (za1 ya6) .none kV_d1 dc_d1 pm_d1 an_d1 cd_d1 ct_d1), sl_d1⟩)
    (c_d1 : W.codeIn K cd_d1 "gaps_among" = true)
    (k_d1 : W.keepIn K (.ref f_d1) = true)
    (a_d2 : W.nsIn K mainGlobals "values_among" = some (some (.ref f_d2)))
    (l_d2 : K.lookup f_d2 = some ⟨oc_d2, od_d2, .func (W.fnOf "values_among" "values_among" (za6 zz8) (za5 zz8) (za1 zz8) .none kV_d2 dc_d2 pm_d2 an_d2 cd_d2 ct_d2), sl_d2⟩)
    (c_d2 : W.codeIn K cd_d2 "values_among" = true)
    (k_d2 : W.keepIn K (.ref f_d2) = true)
    (a_d3 : W.nsIn K mainGlobals "cells_within" = some (some (.ref f_d3)))
    (l_d3 : K.lookup f_d3 = some ⟨oc_d3, od_d3, .func (W.fnOf "cells_within" "cells_within" (za6 zr5) (za5 zr5) (za1 zr5) .none kV_d3 dc_d3 pm_d3 an_d3 cd_d3 ct_d3), sl_d3⟩)
    (c_d3 : W.codeIn K cd_d3 "cells_within" = true)
    (k_d3 : W.keepIn K (.ref f_d3) = true)
    (a_d4 : W.nsIn K mainGlobals "same_cells" = some (some (.ref f_d4)))
    (l_d4 : K.lookup f_d4 = some ⟨oc_d4, od_d4, .func (W.fnOf "same_cells" "same_cells" (za6 ya1) (za5 ya1) (za1 ya1) .none kV_d4 dc_d4 pm_d4 an_d4 cd_d4 ct_d4), sl_d4⟩)
    (c_d4 : W.codeIn K cd_d4 "same_cells" = true)
    (k_d4 : W.keepIn K (.ref f_d4) = true)
    (a_d5 : W.nsIn K mainGlobals "all_of" = some (some (.ref f_d5)))
    (l_d5 : K.lookup f_d5 = some ⟨oc_d5, od_d5, .func (W.fnOf "all_of" "all_of" (za6 yq8) (za5 yq8) (za1 yq8) .none kV_d5 dc_d5 pm_d5 an_d5 cd_d5 ct_d5), sl_d5⟩)
    (c_d5 : W.codeIn K cd_d5 "all_of" = true)
    (k_d5 : W.keepIn K (.ref f_d5) = true)
    (a_d6 : W.nsIn K mainGlobals "one_of" = some (some (.ref f_d6)))
    (l_d6 : K.lookup f_d6 = some ⟨oc_d6, od_d6, .func (W.fnOf "one_of" "one_of" (za6 yp9) (za5 yp9) (za1 yp9) .none kV_d6 dc_d6 pm_d6 an_d6 cd_d6 ct_d6), sl_d6⟩)
    (c_d6 : W.codeIn K cd_d6 "one_of" = true)
    (k_d6 : W.keepIn K (.ref f_d6) = true)
    (a_d7 : W.nsIn K mainGlobals "check_columns" = some (some (.ref f_d7)))
    (l_d7 : K.lookup f_d7 = some ⟨oc_d7, od_d7, .func (W.fnOf "check_columns" "check_columns" (za6 zn9) (za5 zn9) (za1 zn9) .none kV_d7 dc_d7 pm_d7 an_d7 cd_d7 ct_d7), sl_d7⟩)
    (c_d7 : W.codeIn K cd_d7 "check_columns" = true)
    (k_d7 : W.keepIn K (.ref f_d7) = true)
    (a_d8 : W.nsIn K mainGlobals "check_rows" = some (some (.ref f_d8)))
    (l_d8 : K.lookup f_d8 = some ⟨oc_d8, od_d8, .func (W.fnOf "check_rows" "check_rows" (za6 zr3) (za5 zr3) (za1 zr3) .none kV_d8 dc_d8 pm_d8 an_d8 cd_d8 ct_d8), sl_d8⟩)
    (c_d8 : W.codeIn K cd_d8 "check_rows" = true)
    (k_d8 : W.keepIn K (.ref f_d8) = true)
    (a_d9 : W.nsIn K mainGlobals "check_named" = some (some (.ref f_d9)))
    (l_d9 : K.lookup f_d9 = some ⟨oc_d9, od_d9, .func (W.fnOf "check_named" "check_named" (za6 zr4) (za5 zr4) (za1 zr4) .none kV_d9 dc_d9 pm_d9 an_d9 cd_d9 ct_d9), sl_d9⟩)
    (c_d9 : W.codeIn K cd_d9 "check_named" = true)
    (k_d9 : W.keepIn K (.ref f_d9) = true)
    (a_d10 : W.nsIn K mainGlobals "cells_in" = some (some (.ref f_d10)))
    (l_d10 : K.lookup f_d10 = some ⟨oc_d10, od_d10, .func (W.fnOf "cells_in" "cells_in" (za6 zr6) (za5 zr6) (za1 zr6) .none kV_d10 dc_d10 pm_d10 an_d10 cd_d10 ct_d10), sl_d10⟩)
    (c_d10 : W.codeIn K cd_d10 "cells_in" = true)
    (k_d10 : W.keepIn K (.ref f_d10) = true)
    (a_d11 : W.nsIn K mainGlobals "check_once" = some (some (.ref f_d11)))
    (l_d11 : K.lookup f_d11 = some ⟨oc_d11, od_d11, .func (W.fnOf "check_once" "check_once" (za6 yq0) (za5 yq0) (za1 yq0) .none kV_d11 dc_d11 pm_d11 an_d11 cd_d11 ct_d11), sl_d11⟩)
    (c_d11 : W.codeIn K cd_d11 "check_once" = true)
    (k_d11 : W.keepIn K (.ref f_d11) = true)
    (a_d12 : W.nsIn K mainGlobals "check_narrowed" = some (some (.ref f_d12)))
    (l_d12 : K.lookup f_d12 = some ⟨oc_d12, od_d12, .func (W.fnOf "check_narrowed" "check_narrowed" (za6 zn1) (za5 zn1) (za1 zn1) .none kV_d12 dc_d12 pm_d12 an_d12 cd_d12 ct_d12), sl_d12⟩)
    (c_d12 : W.codeIn K cd_d12 "check_narrowed" = true)
    (k_d12 : W.keepIn K (.ref f_d12) = true)
    (a_d13 : W.nsIn K mainGlobals "narrowed" = some (some (.ref f_d13)))
    (l_d13 : K.lookup f_d13 = some ⟨oc_d13, od_d13, .func (W.fnOf "narrowed" "narrowed" (za6 zr2) (za5 zr2) (za1 zr2) .none kV_d13 dc_d13 pm_d13 an_d13 cd_d13 ct_d13), sl_d13⟩)
    (c_d13 : W.codeIn K cd_d13 "narrowed" = true)
    (k_d13 : W.keepIn K (.ref f_d13) = true)
    (a_d14 : W.nsIn K mainGlobals "check_many" = some (some (.ref f_d14)))
    (l_d14 : K.lookup f_d14 = some ⟨oc_d14, od_d14, .func (W.fnOf "check_many" "check_many" (za6 yq2) (za5 yq2) (za1 yq2) .none kV_d14 dc_d14 pm_d14 an_d14 cd_d14 ct_d14), sl_d14⟩)
    (c_d14 : W.codeIn K cd_d14 "check_many" = true)
    (k_d14 : W.keepIn K (.ref f_d14) = true)
    (a_d15 : W.nsIn K mainGlobals "check_like" = some (some (.ref f_d15)))
    (l_d15 : K.lookup f_d15 = some ⟨oc_d15, od_d15, .func (W.fnOf "check_like" "check_like" (za6 yq3) (za5 yq3) (za1 yq3) .none kV_d15 dc_d15 pm_d15 an_d15 cd_d15 ct_d15), sl_d15⟩)
    (c_d15 : W.codeIn K cd_d15 "check_like" = true)
    (k_d15 : W.keepIn K (.ref f_d15) = true)
    (a_d16 : W.nsIn K mainGlobals "both_wholes" = some (some (.ref f_d16)))
    (l_d16 : K.lookup f_d16 = some ⟨oc_d16, od_d16, .func (W.fnOf "both_wholes" "both_wholes" (za6 yq7) (za5 yq7) (za1 yq7) .none kV_d16 dc_d16 pm_d16 an_d16 cd_d16 ct_d16), sl_d16⟩)
    (c_d16 : W.codeIn K cd_d16 "both_wholes" = true)
    (k_d16 : W.keepIn K (.ref f_d16) = true)
    (a_d17 : W.nsIn K mainGlobals "crossed" = some (some (.ref f_d17)))
    (l_d17 : K.lookup f_d17 = some ⟨oc_d17, od_d17, .func (W.fnOf "crossed" "crossed" (za6 ya8) (za5 ya8) (za1 ya8) .none kV_d17 dc_d17 pm_d17 an_d17 cd_d17 ct_d17), sl_d17⟩)
    (c_d17 : W.codeIn K cd_d17 "crossed" = true)
    (k_d17 : W.keepIn K (.ref f_d17) = true)
    (a_d18 : W.nsIn K mainGlobals "columns_parted" = some (some (.ref f_d18)))
    (l_d18 : K.lookup f_d18 = some ⟨oc_d18, od_d18, .func (W.fnOf "columns_parted" "columns_parted" (za6 zq9) (za5 zq9) (za1 zq9) .none kV_d18 dc_d18 pm_d18 an_d18 cd_d18 ct_d18), sl_d18⟩)
    (c_d18 : W.codeIn K cd_d18 "columns_parted" = true)
    (k_d18 : W.keepIn K (.ref f_d18) = true)
    (a_d19 : W.nsIn K mainGlobals "paired" = some (some (.ref f_d19)))
    (l_d19 : K.lookup f_d19 = some ⟨oc_d19, od_d19, .func (W.fnOf "paired" "paired" (za6 zr0) (za5 zr0) (za1 zr0) .none kV_d19 dc_d19 pm_d19 an_d19 cd_d19 ct_d19), sl_d19⟩)
    (c_d19 : W.codeIn K cd_d19 "paired" = true)
    (k_d19 : W.keepIn K (.ref f_d19) = true)
    (a_d20 : W.nsIn K mainGlobals "joined" = some (some (.ref f_d20)))
    (l_d20 : K.lookup f_d20 = some ⟨oc_d20, od_d20, .func (W.fnOf "joined" "joined" (za6 yq6) (za5 yq6) (za1 yq6) .none kV_d20 dc_d20 pm_d20 an_d20 cd_d20 ct_d20), sl_d20⟩)
    (c_d20 : W.codeIn K cd_d20 "joined" = true)
    (k_d20 : W.keepIn K (.ref f_d20) = true)
    (a_d21 : W.nsIn K mainGlobals "together" = some (some (.ref f_d21)))
    (l_d21 : K.lookup f_d21 = some ⟨oc_d21, od_d21, .func (W.fnOf "together" "together" (za6 zz9) (za5 zz9) (za1 zz9) .none kV_d21 dc_d21 pm_d21 an_d21 cd_d21 ct_d21), sl_d21⟩)
    (c_d21 : W.codeIn K cd_d21 "together" = true)
    (k_d21 : W.keepIn K (.ref f_d21) = true)
    (a_d22 : W.nsIn K mainGlobals "found_among" = some (some (.ref f_d22)))
    (l_d22 : K.lookup f_d22 = some ⟨oc_d22, od_d22, .func (W.fnOf "found_among" "found_among" (za6 ya7) (za5 ya7) (za1 ya7) .none kV_d22 dc_d22 pm_d22 an_d22 cd_d22 ct_d22), sl_d22⟩)
    (c_d22 : W.codeIn K cd_d22 "found_among" = true)
    (k_d22 : W.keepIn K (.ref f_d22) = true)
    (a_d23 : W.nsIn K mainGlobals "less" = some (some (.ref f_d23)))
    (l_d23 : K.lookup f_d23 = some ⟨oc_d23, od_d23, .func (W.fnOf "less" "less" (za6 yq4) (za5 yq4) (za1 yq4) .none kV_d23 dc_d23 pm_d23 an_d23 cd_d23 ct_d23), sl_d23⟩)
    (c_d23 : W.codeIn K cd_d23 "less" = true)
    (k_d23 : W.keepIn K (.ref f_d23) = true)
    (a_d24 : W.nsIn K mainGlobals "_law_cell_at" = some (some (.ref f_d24)))
    (l_d24 : K.lookup f_d24 = some ⟨oc_d24, od_d24, .func (W.fnOf "_law_cell_at" "_law_cell_at" (za6 zr7) (za5 zr7) (za1 zr7) .none kV_d24 dc_d24 pm_d24 an_d24 cd_d24 ct_d24), sl_d24⟩)
    (c_d24 : W.codeIn K cd_d24 "_law_cell_at" = true)
    (k_d24 : W.keepIn K (.ref f_d24) = true)
    (a_d25 : W.nsIn K mainGlobals "_law_name" = some (some (.ref f_d25)))
    (l_d25 : K.lookup f_d25 = some ⟨oc_d25, od_d25, .func (W.fnOf "_law_name" "_law_name" (za6 yq1) (za5 yq1) (za1 yq1) .none kV_d25 dc_d25 pm_d25 an_d25 cd_d25 ct_d25), sl_d25⟩)
    (c_d25 : W.codeIn K cd_d25 "_law_name" = true)
    (k_d25 : W.keepIn K (.ref f_d25) = true)
    (a_d26 : W.nsIn K mainGlobals "_law_names" = some (some (.ref f_d26)))
    (l_d26 : K.lookup f_d26 = some ⟨oc_d26, od_d26, .func (W.fnOf "_law_names" "_law_names" (za6 ya5) (za5 ya5) (za1 ya5) .none kV_d26 dc_d26 pm_d26 an_d26 cd_d26 ct_d26), sl_d26⟩)
    (c_d26 : W.codeIn K cd_d26 "_law_names" = true)
    (k_d26 : W.keepIn K (.ref f_d26) = true)
    (a_d27 : W.nsIn K mainGlobals "_law_others" = some (some (.ref f_d27)))
    (l_d27 : K.lookup f_d27 = some ⟨oc_d27, od_d27, .func (W.fnOf "_law_others" "_law_others" (za6 zr1) (za5 zr1) (za1 zr1) .none kV_d27 dc_d27 pm_d27 an_d27 cd_d27 ct_d27), sl_d27⟩)
    (c_d27 : W.codeIn K cd_d27 "_law_others" = true)
    (k_d27 : W.keepIn K (.ref f_d27) = true)
    (a_d28 : W.nsIn K mainGlobals "_law_kind" = some (some (.ref f_d28)))
    (l_d28 : K.lookup f_d28 = some ⟨oc_d28, od_d28, .func (W.fnOf "_law_kind" "_law_kind" (za6 yq5) (za5 yq5) (za1 yq5) .none kV_d28 dc_d28 pm_d28 an_d28 cd_d28 ct_d28), sl_d28⟩)
    (c_d28 : W.codeIn K cd_d28 "_law_kind" = true)
    (k_d28 : W.keepIn K (.ref f_d28) = true)
    (a_d29 : W.nsIn K mainGlobals "_law_asked" = some (some (.ref f_d29)))
    (l_d29 : K.lookup f_d29 = some ⟨oc_d29, od_d29, .func (W.fnOf "_law_asked" "_law_asked" (za6 yb3) (za5 yb3) (za1 yb3) .none kV_d29 dc_d29 pm_d29 an_d29 cd_d29 ct_d29), sl_d29⟩)
    (c_d29 : W.codeIn K cd_d29 "_law_asked" = true)
    (k_d29 : W.keepIn K (.ref f_d29) = true)
    (a_d30 : W.nsIn K mainGlobals "_law_due" = some (some (.ref f_d30)))
    (l_d30 : K.lookup f_d30 = some ⟨oc_d30, od_d30, .func (W.fnOf "_law_due" "_law_due" (za6 sDue) (za5 sDue) (za1 sDue) .none kV_d30 dc_d30 pm_d30 an_d30 cd_d30 ct_d30), sl_d30⟩)
    (c_d30 : W.codeIn K cd_d30 "_law_due" = true)
    (k_d30 : W.keepIn K (.ref f_d30) = true)
    (a_d31 : W.nsIn K mainGlobals "law" = some (some (.ref f_d31)))
    (l_d31 : K.lookup f_d31 = some ⟨oc_d31, od_d31, .func (W.fnOf "law" "law" (za6 sLaw) (za5 sLaw) (za1 sLaw) .none kV_d31 dc_d31 pm_d31 an_d31 cd_d31 ct_d31), sl_d31⟩)
    (c_d31 : W.codeIn K cd_d31 "law" = true)
    (k_d31 : W.keepIn K (.ref f_d31) = true)
    (a_i0 : W.findCls K (.ref CC) (.type "type") "__init__" = some (.val (.ref f_i0)))
    (l_i0 : K.lookup f_i0 = some ⟨oc_i0, od_i0, .func (W.fnOf "__init__" "Cond.__init__" (za6 yb0) (za5 yb0) (za1 yb0) .none kV_i0 dc_i0 pm_i0 an_i0 cd_i0 ct_i0), sl_i0⟩)
    (c_i0 : W.codeIn K cd_i0 "Cond.__init__" = true)
    (k_i0 : W.keepIn K (.ref f_i0) = true)
    (q_i0 : W.isFn K (.ref f_i0) = true)
    (a_h0 : W.findIn K (.ref CC) "holds" = some (some (.ref f_h0)))
    (l_h0 : K.lookup f_h0 = some ⟨oc_h0, od_h0, .func (W.fnOf "holds" "Cond.holds" (za6 zl6) (za5 zl6) (za1 zl6) .none kV_h0 dc_h0 pm_h0 an_h0 cd_h0 ct_h0), sl_h0⟩)
    (c_h0 : W.codeIn K cd_h0 "Cond.holds" = true)
    (k_h0 : W.keepIn K (.ref f_h0) = true)
    (q_h0 : W.isFn K (.ref f_h0) = true)
    (a_i1 : W.findIn K (.ref Tt) "__init__" = some (some (.ref f_i1)))
    (l_i1 : K.lookup f_i1 = some ⟨oc_i1, od_i1, .func (W.fnOf "__init__" "Truth.__init__" (za6 ya0) (za5 ya0) (za1 ya0) .none kV_i1 dc_i1 pm_i1 an_i1 cd_i1 ct_i1), sl_i1⟩)
    (c_i1 : W.codeIn K cd_i1 "Truth.__init__" = true)
    (k_i1 : W.keepIn K (.ref f_i1) = true)
    (q_i1 : W.isFn K (.ref f_i1) = true)
    (a_w1 : W.findIn K (.ref Tt) "worked" = some (some (.ref f_w1)))
    (l_w1 : K.lookup f_w1 = some ⟨oc_w1, od_w1, .func (W.fnOf "worked" "Truth.worked" (za6 zv9) (za5 zv9) (za1 zv9) .none kV_w1 dc_w1 pm_w1 an_w1 cd_w1 ct_w1), sl_w1⟩)
    (c_w1 : W.codeIn K cd_w1 "Truth.worked" = true)
    (k_w1 : W.keepIn K (.ref f_w1) = true)
    (q_w1 : W.isFn K (.ref f_w1) = true)
    (a_i2 : W.findIn K (.ref Ts) "__init__" = some (some (.ref f_i2)))
    (l_i2 : K.lookup f_i2 = some ⟨oc_i2, od_i2, .func (W.fnOf "__init__" "Same.__init__" (za6 ya2) (za5 ya2) (za1 ya2) .none kV_i2 dc_i2 pm_i2 an_i2 cd_i2 ct_i2), sl_i2⟩)
    (c_i2 : W.codeIn K cd_i2 "Same.__init__" = true)
    (k_i2 : W.keepIn K (.ref f_i2) = true)
    (q_i2 : W.isFn K (.ref f_i2) = true)
    (a_w2 : W.findIn K (.ref Ts) "worked" = some (some (.ref f_w2)))
    (l_w2 : K.lookup f_w2 = some ⟨oc_w2, od_w2, .func (W.fnOf "worked" "Same.worked" (za6 zw0) (za5 zw0) (za1 zw0) .none kV_w2 dc_w2 pm_w2 an_w2 cd_w2 ct_w2), sl_w2⟩)
    (c_w2 : W.codeIn K cd_w2 "Same.worked" = true)
    (k_w2 : W.keepIn K (.ref f_w2) = true)
    (q_w2 : W.isFn K (.ref f_w2) = true)
    (a_i3 : W.findIn K (.ref Ta) "__init__" = some (some (.ref f_i3)))
    (l_i3 : K.lookup f_i3 = some ⟨oc_i3, od_i3, .func (W.fnOf "__init__" "AllOf.__init__" (za6 yb4) (za5 yb4) (za1 yb4) .none kV_i3 dc_i3 pm_i3 an_i3 cd_i3 ct_i3), sl_i3⟩)
    (c_i3 : W.codeIn K cd_i3 "AllOf.__init__" = true)
    (k_i3 : W.keepIn K (.ref f_i3) = true)
    (q_i3 : W.isFn K (.ref f_i3) = true)
    (a_w3 : W.findIn K (.ref Ta) "worked" = some (some (.ref f_w3)))
    (l_w3 : K.lookup f_w3 = some ⟨oc_w3, od_w3, .func (W.fnOf "worked" "AllOf.worked" (za6 zw3) (za5 zw3) (za1 zw3) .none kV_w3 dc_w3 pm_w3 an_w3 cd_w3 ct_w3), sl_w3⟩)
    (c_w3 : W.codeIn K cd_w3 "AllOf.worked" = true)
    (k_w3 : W.keepIn K (.ref f_w3) = true)
    (q_w3 : W.isFn K (.ref f_w3) = true)
    (a_i4 : W.findIn K (.ref To) "__init__" = some (some (.ref f_i4)))
    (l_i4 : K.lookup f_i4 = some ⟨oc_i4, od_i4, .func (W.fnOf "__init__" "OneOf.__init__" (za6 ya4) (za5 ya4) (za1 ya4) .none kV_i4 dc_i4 pm_i4 an_i4 cd_i4 ct_i4), sl_i4⟩)
    (c_i4 : W.codeIn K cd_i4 "OneOf.__init__" = true)
    (k_i4 : W.keepIn K (.ref f_i4) = true)
    (q_i4 : W.isFn K (.ref f_i4) = true)
    (a_w4 : W.findIn K (.ref To) "worked" = some (some (.ref f_w4)))
    (l_w4 : K.lookup f_w4 = some ⟨oc_w4, od_w4, .func (W.fnOf "worked" "OneOf.worked" (za6 zw2) (za5 zw2) (za1 zw2) .none kV_w4 dc_w4 pm_w4 an_w4 cd_w4 ct_w4), sl_w4⟩)
    (c_w4 : W.codeIn K cd_w4 "OneOf.worked" = true)
    (k_w4 : W.keepIn K (.ref f_w4) = true)
    (q_w4 : W.isFn K (.ref f_w4) = true)
    (a_i5 : W.findIn K (.ref Tp) "__init__" = some (some (.ref f_i5)))
    (l_i5 : K.lookup f_i5 = some ⟨oc_i5, od_i5, .func (W.fnOf "__init__" "Opposite.__init__" (za6 ya3) (za5 ya3) (za1 ya3) .none kV_i5 dc_i5 pm_i5 an_i5 cd_i5 ct_i5), sl_i5⟩)
    (c_i5 : W.codeIn K cd_i5 "Opposite.__init__" = true)
    (k_i5 : W.keepIn K (.ref f_i5) = true)
    (q_i5 : W.isFn K (.ref f_i5) = true)
    (a_w5 : W.findIn K (.ref Tp) "worked" = some (some (.ref f_w5)))
    (l_w5 : K.lookup f_w5 = some ⟨oc_w5, od_w5, .func (W.fnOf "worked" "Opposite.worked" (za6 zw1) (za5 zw1) (za1 zw1) .none kV_w5 dc_w5 pm_w5 an_w5 cd_w5 ct_w5), sl_w5⟩)
    (c_w5 : W.codeIn K cd_w5 "Opposite.worked" = true)
    (k_w5 : W.keepIn K (.ref f_w5) = true)
    (q_w5 : W.isFn K (.ref f_w5) = true)
    (a_i6 : W.findIn K (.ref BC) "__init__" = some (some (.ref f_i6)))
    (l_i6 : K.lookup f_i6 = some ⟨oc_i6, od_i6, .func (W.fnOf "__init__" "Table.__init__" (za6 zg6) (za5 zg6) (za1 zg6) (.ref DT) kV_i6 dc_i6 pm_i6 an_i6 cd_i6 ct_i6), sl_i6⟩)
    (l_DT : K.lookup DT = some ⟨cDT, oDT, .seq #[.none] nDT, sDT⟩)
    (c_i6 : W.codeIn K cd_i6 "Table.__init__" = true)
    (k_i6 : W.keepIn K (.ref f_i6) = true)
    (q_i6 : W.isFn K (.ref f_i6) = true)
    (a_c6 : W.findIn K (.ref BC) "columns" = some (some (.ref f_c6)))
    (l_c6 : K.lookup f_c6 = some ⟨oc_c6, od_c6, .func (W.fnOf "columns" "Table.columns" (za6 yb2) (za5 yb2) (za1 yb2) .none kV_c6 dc_c6 pm_c6 an_c6 cd_c6 ct_c6), sl_c6⟩)
    (c_c6 : W.codeIn K cd_c6 "Table.columns" = true)
    (k_c6 : W.keepIn K (.ref f_c6) = true)
    (q_c6 : W.isFn K (.ref f_c6) = true)
    (a_r6 : W.findIn K (.ref BC) "rows" = some (some (.ref f_r6)))
    (l_r6 : K.lookup f_r6 = some ⟨oc_r6, od_r6, .func (W.fnOf "rows" "Table.rows" (za6 yb1) (za5 yb1) (za1 yb1) .none kV_r6 dc_r6 pm_r6 an_r6 cd_r6 ct_r6), sl_r6⟩)
    (c_r6 : W.codeIn K cd_r6 "Table.rows" = true)
    (k_r6 : W.keepIn K (.ref f_r6) = true)
    (q_r6 : W.isFn K (.ref f_r6) = true)
    (a_h6 : W.findIn K (.ref BC) "whole" = some (some (.ref f_h6)))
    (l_h6 : K.lookup f_h6 = some ⟨oc_h6, od_h6, .func (W.fnOf "whole" "Table.whole" (za6 zr8) (za5 zr8) (za1 zr8) .none kV_h6 dc_h6 pm_h6 an_h6 cd_h6 ct_h6), sl_h6⟩)
    (c_h6 : W.codeIn K cd_h6 "Table.whole" = true)
    (k_h6 : W.keepIn K (.ref f_h6) = true)
    (q_h6 : W.isFn K (.ref f_h6) = true)
    (a_x7 : W.findIn K (.ref E3) "__init__" = some (some (.ref f_x7)))
    (l_x7 : K.lookup f_x7 = some ⟨oc_x7, od_x7, .func (W.fnOf "__init__" "Twice.__init__" (za6 zq8) (za5 zq8) (za1 zq8) .none kV_x7 dc_x7 pm_x7 an_x7 cd_x7 ct_x7), sl_x7⟩)
    (c_x7 : W.codeIn K cd_x7 "Twice.__init__" = true)
    (k_x7 : W.keepIn K (.ref f_x7) = true)
    (q_x7 : W.isFn K (.ref f_x7) = true)
    (ga : W.specialIn K (.ref CC) "__getattribute__" = some (some (.builtin "type.__getattribute__")))
    (rd : W.readsIn K CC (.type "type") = true)
    (gt : W.specialIn K (.builtin "object.__class__") "__get__" = some (some (.builtin "getset_descriptor.__get__")))
    (tk : W.takesIn K (.builtin "object.__class__") = some true)
    (x_Tt : CF K Tt f_h0)
    (x_Ts : CF K Ts f_h0)
    (x_Ta : CF K Ta f_h0)
    (x_To : CF K To f_h0)
    (x_Tp : CF K Tp f_h0)
    (e1 : W.findIn K (.ref Tt) "said" = some none)
    (e2 : W.findIn K (.ref Ts) "one" = some none)
    (e3 : W.findIn K (.ref Ts) "other" = some none)
    (e4 : W.findIn K (.ref Ta) "parts" = some none)
    (e5 : W.findIn K (.ref To) "parts" = some none)
    (e6 : W.findIn K (.ref Tp) "part" = some none)
    (e7 : W.findIn K (.ref BC) "kept_columns" = some none)
    (e8 : W.findIn K (.ref BC) "kept_rows" = some none)
    (e9 : W.findIn K (.ref BC) "kept_whole" = some none)
    (e10 : W.findIn K (.ref BC) "kept_gaps" = some none)
    (e11 : W.findIn K (.ref BC) "kept_values" = some none)
    (nb : Tt ≠ BC)
    (y1 : W.plainGet K BC Str.empty = true)
    (y2 : W.hasDictIn K BC = true)
    (y3 : W.plainOver K BC = true)
    (y4 : W.findIn K (.ref BC) "__setattr__" = some (some (.builtin "object.__setattr__")))
    (y5 : W.makesIn K BC = true)
    (y6 : W.keepIn K (.ref BC) = true)
    (xg_E3 : W.findIn K (.ref E3) "__getattribute__" = some (some (.builtin "BaseException.__getattribute__")))
    (xt_E3 : W.findIn K (.ref E3) "__getattr__" = some none)
    (xb_E3 : W.mroIn K E3 (.type "BaseException") = some true)
    (xh_E3 : W.hasDictIn K E3 = true)
    (xa_E3 : W.findIn K (.ref E3) "__class__" = some (some (.builtin "object.__class__")))
    (xm_E3 : W.mroIn K E3 (.type "object") = some true)
    (xz_E3 : xcS K E3 E0 = true)
    (xv_E3 : W.kitOne K (.ref E3) (.type "ValueError") = some true)
    (xA_E3 : W.kitAny K (.ref E3) [.ref E5, .ref E1, .ref E9, .ref E8, .ref E4, .ref E7] = some false)
    (xTwice_E3 : W.kitOne K (.ref E3) (.ref E3) = some true)
    (xTooMany_E3 : W.kitOne K (.ref E3) (.ref E2) = some false)
    (xUnlike_E3 : W.kitOne K (.ref E3) (.ref E6) = some false)
    (xn_E3 : W.findIn K (.ref E3) "name" = some none)
    (xs_E3 : W.findIn K (.ref E3) "__setattr__" = some (some (.builtin "object.__setattr__")))
    (xp_E3 : yn5 K E3 = true)
    (xk_E3 : W.takerIn K E3 "name" = some none)
    (xc_E3 : W.keepIn K (.ref E3) = true)
    (xe_E3 : xcI K E3 f_x7 [.type "ValueError", .type "Exception", .type "BaseException", .type "object"] "ValueError.__new__" = true)
    (xg_E2 : W.findIn K (.ref E2) "__getattribute__" = some (some (.builtin "BaseException.__getattribute__")))
    (xt_E2 : W.findIn K (.ref E2) "__getattr__" = some none)
    (xb_E2 : W.mroIn K E2 (.type "BaseException") = some true)
    (xh_E2 : W.hasDictIn K E2 = true)
    (xa_E2 : W.findIn K (.ref E2) "__class__" = some (some (.builtin "object.__class__")))
    (xm_E2 : W.mroIn K E2 (.type "object") = some true)
    (xz_E2 : xcS K E2 E0 = true)
    (xv_E2 : W.kitOne K (.ref E2) (.type "ValueError") = some true)
    (xA_E2 : W.kitAny K (.ref E2) [.ref E5, .ref E1, .ref E9, .ref E8, .ref E4, .ref E7] = some false)
    (xTwice_E2 : W.kitOne K (.ref E2) (.ref E3) = some false)
    (xTooMany_E2 : W.kitOne K (.ref E2) (.ref E2) = some true)
    (xUnlike_E2 : W.kitOne K (.ref E2) (.ref E6) = some false)
    (xe_E2 : W.excIn K E2 [.type "ValueError", .type "Exception", .type "BaseException", .type "object"] "ValueError.__new__" = true)
    (xg_E6 : W.findIn K (.ref E6) "__getattribute__" = some (some (.builtin "BaseException.__getattribute__")))
    (xt_E6 : W.findIn K (.ref E6) "__getattr__" = some none)
    (xb_E6 : W.mroIn K E6 (.type "BaseException") = some true)
    (xh_E6 : W.hasDictIn K E6 = true)
    (xa_E6 : W.findIn K (.ref E6) "__class__" = some (some (.builtin "object.__class__")))
    (xm_E6 : W.mroIn K E6 (.type "object") = some true)
    (xz_E6 : xcS K E6 E0 = true)
    (xv_E6 : W.kitOne K (.ref E6) (.type "ValueError") = some true)
    (xA_E6 : W.kitAny K (.ref E6) [.ref E5, .ref E1, .ref E9, .ref E8, .ref E4, .ref E7] = some false)
    (xTwice_E6 : W.kitOne K (.ref E6) (.ref E3) = some false)
    (xTooMany_E6 : W.kitOne K (.ref E6) (.ref E2) = some false)
    (xUnlike_E6 : W.kitOne K (.ref E6) (.ref E6) = some true)
    (xe_E6 : W.excIn K E6 [.type "ValueError", .type "Exception", .type "BaseException", .type "object"] "ValueError.__new__" = true)
    (mb : xcB K E0 [.type "ValueError", .type "Exception", .type "BaseException", .type "object"] "ValueError.__new__" = true)
    (zm : W.nsIn K mainGlobals "MOST_ROWS" = some (some (.int 24 tmost)))
    (z0 : W.nsIn K mainGlobals "range" = some none)
    (z1 : W.nsIn K mainGlobals "len" = some none)
    (z2 : W.nsIn K mainGlobals "sorted" = some none)
    (z3 : W.nsIn K mainGlobals "list" = some none)
    (z4 : W.nsIn K mainGlobals "dict" = some none)
    (z5 : W.nsIn K mainGlobals "isinstance" = some none)
    (z6 : W.nsIn K mainGlobals "bool" = some none)
    (z7 : W.nsIn K mainGlobals "str" = some none)
    (z8 : W.nsIn K mainGlobals "set" = some none)
    (z9 : W.nsIn K mainGlobals "tuple" = some none)
    (z10 : W.nsIn K mainGlobals "sum" = some none)
    (z11 : W.nsIn K mainGlobals "max" = some none)
    (z12 : W.nsIn K mainGlobals "enumerate" = some none)
    (z13 : W.nsIn K mainGlobals "min" = some none)
    (z14 : W.nsIn K mainGlobals "ValueError" = some none)
    (z15 : W.nsIn K mainGlobals "zip" = some none)
    (z16 : W.nsIn K mainGlobals "int" = some none) :
    ∃ fd : FuncData, (∀ (s : Shared) (v : Value), BindsTo s fd ⟨[v], []⟩ [("_law_script", v)]) /\ ∀ base : Heap, K.In base -> base.Ns mainGlobals mg -> FnOk l.prog w K mg base CX0 52 fa fd ["_law_script"] (xc5 K) := by
  have e := hfa.symm.trans (W.mg_of X G a_d31)
  cases e
  have TX : Txt mg := ⟨W.mg_none_of X G z0, W.mg_none_of X G z1, W.mg_none_of X G z2, W.mg_none_of X G z3, W.mg_none_of X G z4, W.mg_none_of X G z5, W.mg_none_of X G z6, W.mg_none_of X G z7, W.mg_none_of X G z8, W.mg_none_of X G z9, W.mg_none_of X G z10, W.mg_none_of X G z11, W.mg_none_of X G z12, W.mg_none_of X G z13, W.mg_none_of X G z14, W.mg_none_of X G z15, W.mg_none_of X G z16⟩
  have F_d0 := fun_mk (st := ya9) l_d0 c_d0 k_d0
  have b_d0 := F_d0.binds (ps := ["cell", "filling"]) fun _ _ _ _ _ _ us hl => match us, hl with | [_, _], _ => rfl
  have F_d1 := fun_mk (st := ya6) l_d1 c_d1 k_d1
  have b_d1 := F_d1.binds (ps := ["cells"]) fun _ _ _ _ _ _ us hl => match us, hl with | [_], _ => rfl
  have F_d2 := fun_mk (st := zz8) l_d2 c_d2 k_d2
  have b_d2 := F_d2.binds (ps := ["cells"]) fun _ _ _ _ _ _ us hl => match us, hl with | [_], _ => rfl
  have F_d3 := fun_mk (st := zr5) l_d3 c_d3 k_d3
  have b_d3 := F_d3.binds (ps := ["parts"]) fun _ _ _ _ _ _ us hl => match us, hl with | [_], _ => rfl
  have F_d4 := fun_mk (st := ya1) l_d4 c_d4 k_d4
  have b_d4 := F_d4.binds (ps := ["cells", "others"]) fun _ _ _ _ _ _ us hl => match us, hl with | [_, _], _ => rfl
  have F_d5 := fun_mk (st := yq8) l_d5 c_d5 k_d5
  have b_d5 := F_d5.binds (ps := ["parts"]) fun _ _ _ _ _ _ us hl => match us, hl with | [_], _ => rfl
  have F_d6 := fun_mk (st := yp9) l_d6 c_d6 k_d6
  have b_d6 := F_d6.binds (ps := ["parts"]) fun _ _ _ _ _ _ us hl => match us, hl with | [_], _ => rfl
  have F_d7 := fun_mk (st := zn9) l_d7 c_d7 k_d7
  have b_d7 := F_d7.binds (ps := ["columns"]) fun _ _ _ _ _ _ us hl => match us, hl with | [_], _ => rfl
  have F_d8 := fun_mk (st := zr3) l_d8 c_d8 k_d8
  have b_d8 := F_d8.binds (ps := ["rows", "width"]) fun _ _ _ _ _ _ us hl => match us, hl with | [_, _], _ => rfl
  have F_d9 := fun_mk (st := zr4) l_d9 c_d9 k_d9
  have b_d9 := F_d9.binds (ps := ["names", "columns"]) fun _ _ _ _ _ _ us hl => match us, hl with | [_, _], _ => rfl
  have F_d10 := fun_mk (st := zr6) l_d10 c_d10 k_d10
  have b_d10 := F_d10.binds (ps := ["names", "columns", "row"]) fun _ _ _ _ _ _ us hl => match us, hl with | [_, _, _], _ => rfl
  have F_d11 := fun_mk (st := yq0) l_d11 c_d11 k_d11
  have b_d11 := F_d11.binds (ps := ["names"]) fun _ _ _ _ _ _ us hl => match us, hl with | [_], _ => rfl
  have F_d12 := fun_mk (st := zn1) l_d12 c_d12 k_d12
  have b_d12 := F_d12.binds (ps := ["names", "columns"]) fun _ _ _ _ _ _ us hl => match us, hl with | [_, _], _ => rfl
  have F_d13 := fun_mk (st := zr2) l_d13 c_d13 k_d13
  have b_d13 := F_d13.binds (ps := ["table", "names"]) fun _ _ _ _ _ _ us hl => match us, hl with | [_, _], _ => rfl
  have F_d14 := fun_mk (st := yq2) l_d14 c_d14 k_d14
  have b_d14 := F_d14.binds (ps := ["rows"]) fun _ _ _ _ _ _ us hl => match us, hl with | [_], _ => rfl
  have F_d15 := fun_mk (st := yq3) l_d15 c_d15 k_d15
  have b_d15 := F_d15.binds (ps := ["columns", "others"]) fun _ _ _ _ _ _ us hl => match us, hl with | [_, _], _ => rfl
  have F_d16 := fun_mk (st := yq7) l_d16 c_d16 k_d16
  have b_d16 := F_d16.binds (ps := ["one", "other"]) fun _ _ _ _ _ _ us hl => match us, hl with | [_, _], _ => rfl
  have F_d17 := fun_mk (st := ya8) l_d17 c_d17 k_d17
  have b_d17 := F_d17.binds (ps := ["one", "other"]) fun _ _ _ _ _ _ us hl => match us, hl with | [_, _], _ => rfl
  have F_d18 := fun_mk (st := zq9) l_d18 c_d18 k_d18
  have b_d18 := F_d18.binds (ps := ["columns", "others"]) fun _ _ _ _ _ _ us hl => match us, hl with | [_, _], _ => rfl
  have F_d19 := fun_mk (st := zr0) l_d19 c_d19 k_d19
  have b_d19 := F_d19.binds (ps := ["one", "other", "shared", "further"]) fun _ _ _ _ _ _ us hl => match us, hl with | [_, _, _, _], _ => rfl
  have F_d20 := fun_mk (st := yq6) l_d20 c_d20 k_d20
  have b_d20 := F_d20.binds (ps := ["one", "other"]) fun _ _ _ _ _ _ us hl => match us, hl with | [_, _], _ => rfl
  have F_d21 := fun_mk (st := zz9) l_d21 c_d21 k_d21
  have b_d21 := F_d21.binds (ps := ["one", "other"]) fun _ _ _ _ _ _ us hl => match us, hl with | [_, _], _ => rfl
  have F_d22 := fun_mk (st := ya7) l_d22 c_d22 k_d22
  have b_d22 := F_d22.binds (ps := ["cells", "rows"]) fun _ _ _ _ _ _ us hl => match us, hl with | [_, _], _ => rfl
  have F_d23 := fun_mk (st := yq4) l_d23 c_d23 k_d23
  have b_d23 := F_d23.binds (ps := ["one", "other"]) fun _ _ _ _ _ _ us hl => match us, hl with | [_, _], _ => rfl
  have F_d24 := fun_mk (st := zr7) l_d24 c_d24 k_d24
  have b_d24 := F_d24.binds (ps := ["_law_script", "_law_k"]) fun _ _ _ _ _ _ us hl => match us, hl with | [_, _], _ => rfl
  have F_d25 := fun_mk (st := yq1) l_d25 c_d25 k_d25
  have b_d25 := F_d25.binds (ps := ["_law_cell"]) fun _ _ _ _ _ _ us hl => match us, hl with | [_], _ => rfl
  have F_d26 := fun_mk (st := ya5) l_d26 c_d26 k_d26
  have b_d26 := F_d26.binds (ps := ["_law_script", "_law_at", "_law_many", "_law_out"]) fun _ _ _ _ _ _ us hl => match us, hl with | [_, _, _, _], _ => rfl
  have F_d27 := fun_mk (st := zr1) l_d27 c_d27 k_d27
  have b_d27 := F_d27.binds (ps := ["_law_script", "_law_columns", "_law_way"]) fun _ _ _ _ _ _ us hl => match us, hl with | [_, _, _], _ => rfl
  have F_d28 := fun_mk (st := yq5) l_d28 c_d28 k_d28
  have b_d28 := F_d28.binds (ps := ["_law_e"]) fun _ _ _ _ _ _ us hl => match us, hl with | [_], _ => rfl
  have F_d29 := fun_mk (st := yb3) l_d29 c_d29 k_d29
  have b_d29 := F_d29.binds (ps := ["_law_way", "_law_one", "_law_other"]) fun _ _ _ _ _ _ us hl => match us, hl with | [_, _, _], _ => rfl
  have F_d30 := fun_mk (st := sDue) l_d30 c_d30 k_d30
  have b_d30 := F_d30.binds (ps := ["_law_way", "_law_columns", "_law_others_here", "_law_many", "_law_more"]) fun _ _ _ _ _ _ us hl => match us, hl with | [_, _, _, _, _], _ => rfl
  have F_d31 := fun_mk (st := sLaw) l_d31 c_d31 k_d31
  have b_d31 := F_d31.binds (ps := ["_law_script"]) fun _ _ _ _ _ _ us hl => match us, hl with | [_], _ => rfl
  have F_i0 := fun_mk (st := yb0) l_i0 c_i0 k_i0
  have b_i0 := F_i0.binds (ps := ["self", "cells", "atoms"]) fun _ _ _ _ _ _ us hl => match us, hl with | [_, _, _], _ => rfl
  have F_h0 := fun_mk (st := zl6) l_h0 c_h0 k_h0
  have b_h0 := F_h0.binds (ps := ["self", "filling", "told"]) fun _ _ _ _ _ _ us hl => match us, hl with | [_, _, _], _ => rfl
  have F_i1 := fun_mk (st := ya0) l_i1 c_i1 k_i1
  have b_i1 := F_i1.binds (ps := ["self", "said"]) fun _ _ _ _ _ _ us hl => match us, hl with | [_, _], _ => rfl
  have F_w1 := fun_mk (st := zv9) l_w1 c_w1 k_w1
  have b_w1 := F_w1.binds (ps := ["self", "filling", "told"]) fun _ _ _ _ _ _ us hl => match us, hl with | [_, _, _], _ => rfl
  have F_i2 := fun_mk (st := ya2) l_i2 c_i2 k_i2
  have b_i2 := F_i2.binds (ps := ["self", "one", "other"]) fun _ _ _ _ _ _ us hl => match us, hl with | [_, _, _], _ => rfl
  have F_w2 := fun_mk (st := zw0) l_w2 c_w2 k_w2
  have b_w2 := F_w2.binds (ps := ["self", "filling", "told"]) fun _ _ _ _ _ _ us hl => match us, hl with | [_, _, _], _ => rfl
  have F_i3 := fun_mk (st := yb4) l_i3 c_i3 k_i3
  have b_i3 := F_i3.binds (ps := ["self", "parts"]) fun _ _ _ _ _ _ us hl => match us, hl with | [_, _], _ => rfl
  have F_w3 := fun_mk (st := zw3) l_w3 c_w3 k_w3
  have b_w3 := F_w3.binds (ps := ["self", "filling", "told"]) fun _ _ _ _ _ _ us hl => match us, hl with | [_, _, _], _ => rfl
  have F_i4 := fun_mk (st := ya4) l_i4 c_i4 k_i4
  have b_i4 := F_i4.binds (ps := ["self", "parts"]) fun _ _ _ _ _ _ us hl => match us, hl with | [_, _], _ => rfl
  have F_w4 := fun_mk (st := zw2) l_w4 c_w4 k_w4
  have b_w4 := F_w4.binds (ps := ["self", "filling", "told"]) fun _ _ _ _ _ _ us hl => match us, hl with | [_, _, _], _ => rfl
  have F_i5 := fun_mk (st := ya3) l_i5 c_i5 k_i5
  have b_i5 := F_i5.binds (ps := ["self", "part"]) fun _ _ _ _ _ _ us hl => match us, hl with | [_, _], _ => rfl
  have F_w5 := fun_mk (st := zw1) l_w5 c_w5 k_w5
  have b_w5 := F_w5.binds (ps := ["self", "filling", "told"]) fun _ _ _ _ _ _ us hl => match us, hl with | [_, _, _], _ => rfl
  have F_i6 : FunD K "__init__" "Table.__init__" zg6 f_i6 _ := ⟨⟨_, _, _, _, _, _, _, _, _, _, rfl, l_i6, c_i6⟩, k_i6⟩
  have b_i6 : zi3 K (W.fnOf "__init__" "Table.__init__" (za6 zg6) (za5 zg6) (za1 zg6) (.ref DT) kV_i6 dc_i6 pm_i6 an_i6 cd_i6 ct_i6) ["self", "columns", "rows", "whole"] [] := fun s us hK hl => match us, hl with | [_, _, _, _], _ => .of_defaults rfl (hK _ _ l_DT) rfl rfl rfl
  have b0_i6 : zi3 K (W.fnOf "__init__" "Table.__init__" (za6 zg6) (za5 zg6) (za1 zg6) (.ref DT) kV_i6 dc_i6 pm_i6 an_i6 cd_i6 ct_i6) ["self", "columns", "rows", "whole"] [.none] := fun s us hK hl => match us, (show us.length = 3 by simpa using hl) with | [_, _, _], _ => .of_defaults rfl (hK _ _ l_DT) rfl rfl rfl
  have F_c6 := fun_mk (st := yb2) l_c6 c_c6 k_c6
  have b_c6 := F_c6.binds (ps := ["self"]) fun _ _ _ _ _ _ us hl => match us, hl with | [_], _ => rfl
  have F_r6 := fun_mk (st := yb1) l_r6 c_r6 k_r6
  have b_r6 := F_r6.binds (ps := ["self"]) fun _ _ _ _ _ _ us hl => match us, hl with | [_], _ => rfl
  have F_h6 := fun_mk (st := zr8) l_h6 c_h6 k_h6
  have b_h6 := F_h6.binds (ps := ["self"]) fun _ _ _ _ _ _ us hl => match us, hl with | [_], _ => rfl
  have F_x7 := fun_mk (st := zq8) l_x7 c_x7 k_x7
  have b_x7 := F_x7.binds (ps := ["self", "name"]) fun _ _ _ _ _ _ us hl => match us, hl with | [_, _], _ => rfl
  refine ⟨W.fnOf "law" "law" (za6 sLaw) (za5 sLaw) (za1 sLaw) .none kV_d31 dc_d31 pm_d31 an_d31 cd_d31 ct_d31, fun s v => .of_eq rfl, fun base BX BG => ?_⟩
  let T : Cl := ⟨Tt, Ts, Ta, To, Tp⟩
  have Z : Tc K mg T CC := {
    z := { cl := per x_Tt.c x_Ts.c x_Ta.c x_To.c x_Tp.c
           ng := per (P := fun C => zd9 K C "kept_gaps") x_Tt.ng x_Ts.ng x_Ta.ng x_To.ng x_Tp.ng
           nv := per (P := fun C => zd9 K C "kept_values") x_Tt.nv x_Ts.nv x_Ta.nv x_To.nv x_Tp.nv
           na := per (P := fun C => zd9 K C "kept_atoms") x_Tt.na x_Ts.na x_Ta.na x_To.na x_Tp.na
           ns := per (P := fun C => zd9 K C "settled") x_Tt.ns x_Ts.ns x_Ta.ns x_To.ns x_Tp.ns
           nsd := e1, no1 := e2, no2 := e3, npa := e4, npo := e5, npp := e6 }
    x := TX
    dj := dj
    hH := per (P := fun C => zz1 K C "holds" "Cond.holds" zl6 ["self", "filling", "told"]) ⟨_, _, ⟨x_Tt.mh, q_h0, k_h0⟩, F_h0, b_h0⟩ ⟨_, _, ⟨x_Ts.mh, q_h0, k_h0⟩, F_h0, b_h0⟩ ⟨_, _, ⟨x_Ta.mh, q_h0, k_h0⟩, F_h0, b_h0⟩ ⟨_, _, ⟨x_To.mh, q_h0, k_h0⟩, F_h0, b_h0⟩ ⟨_, _, ⟨x_Tp.mh, q_h0, k_h0⟩, F_h0, b_h0⟩
    wT := ⟨_, _, ⟨a_w1, q_w1, k_w1⟩, F_w1, b_w1⟩
    wS := ⟨_, _, ⟨a_w2, q_w2, k_w2⟩, F_w2, b_w2⟩
    wA := ⟨_, _, ⟨a_w3, q_w3, k_w3⟩, F_w3, b_w3⟩
    wO := ⟨_, _, ⟨a_w4, q_w4, k_w4⟩, F_w4, b_w4⟩
    wP := ⟨_, _, ⟨a_w5, q_w5, k_w5⟩, F_w5, b_w5⟩ }
  have ZB : Bz K T BC := ⟨⟨y1, y2, y3, y4⟩, e7, e8, e9, e10, e11, nb⟩
  have mC := W.mg_of X G n_CC
  have D0 : Cal l.prog w K mg base "cell_value" 1 ["cell", "filling"] zv5 := ⟨_, _, xe6 F_d0 TX, b_d0, k_d0, W.mg_of X G a_d0⟩
  have D1 : Cal l.prog w K mg base "gaps_among" 1 ["cells"] (zq7 K) := ⟨_, _, xe2 F_d1 TX, b_d1, k_d1, W.mg_of X G a_d1⟩
  have D2 : Cal l.prog w K mg base "values_among" 1 ["cells"] (zq6 K) := ⟨_, _, xd2 F_d2 TX, b_d2, k_d2, W.mg_of X G a_d2⟩
  have D3 : Cal l.prog w K mg base "cells_within" 1 ["parts"] (zi5 T K) := ⟨_, _, yx6 F_d3 Z.z, b_d3, k_d3, W.mg_of X G a_d3⟩
  have FH := xw7 (P := l.prog) (w := w) (base := base) Z D0 19
  have FW := xw6 Z D0 FH
  have D4 : Cal l.prog w K mg base "check_columns" 1 ["columns"] zu0 := ⟨_, _, yx5 F_d7, b_d7, k_d7, W.mg_of X G a_d7⟩
  have D5 : Cal l.prog w K mg base "check_rows" 1 ["rows", "width"] zt9 := ⟨_, _, yx3 F_d8 TX, b_d8, k_d8, W.mg_of X G a_d8⟩
  have CB : yt6 l.prog w K mg base T CC 19 := ⟨_, _, .type "type", ⟨ga, rd, a_i0, k_i0⟩, xe5 F_i0 Z D1 D2 FW, b_i0, mC⟩
  have M1 : MkC l.prog w K mg base "Truth" T.t 42 ["self", "said"] (spTI T) := ⟨_, _, ⟨x_Tt.mks, a_i1, q_i1, x_Tt.kp⟩, xd4 (n := 19) F_i1 Z CB, b_i1, W.mg_of X G n_Tt⟩
  have M2 : MkC l.prog w K mg base "Same" T.s 42 ["self", "one", "other"] (spSI T) := ⟨_, _, ⟨x_Ts.mks, a_i2, q_i2, x_Ts.kp⟩, xd5 (n := 19) F_i2 Z CB, b_i2, W.mg_of X G n_Ts⟩
  have M3 : MkC l.prog w K mg base "Opposite" T.p 42 ["self", "part"] (spPI T 19) := ⟨_, _, ⟨x_Tp.mks, a_i5, q_i5, x_Tp.kp⟩, xd7 (n := 19) F_i5 Z CB D3, b_i5, W.mg_of X G n_Tp⟩
  have M4 : MkC l.prog w K mg base "AllOf" T.a 42 ["self", "parts"] (spLI T K 19 T.a .all) := ⟨_, _, ⟨x_Ta.mks, a_i3, q_i3, x_Ta.kp⟩, xf1 (n := 19) F_i3 Z CB D3, b_i3, W.mg_of X G n_Ta⟩
  have M5 : MkC l.prog w K mg base "OneOf" T.o 42 ["self", "parts"] (spLI T K 19 T.o .one) := ⟨_, _, ⟨x_To.mks, a_i4, q_i4, x_To.kp⟩, xd8 (n := 19) F_i4 Z CB D3, b_i4, W.mg_of X G n_To⟩
  have OB := xe8 F_i6 TX ZB D1 D2 D3 D4 D5 M1
  have MB : MkC l.prog w K mg base "Table" BC 44 ["self", "columns", "rows", "whole"] (spBI T BC) := ⟨_, _, ⟨y5, a_i6, q_i6, y6⟩, OB, b_i6, W.mg_of X G n_BC⟩
  have FC : Fam l.prog w K mg base CX0 1 (fun C => C = BC) "columns" ["self"] (fun _ => zl2 T BC) := by
    intro C hC
    subst hC
    exact ⟨_, _, ZB.cl, ⟨a_c6, q_c6, k_c6⟩, xe9 F_c6 TX ZB, b_c6⟩
  have FR : Fam l.prog w K mg base CX0 1 (fun C => C = BC) "rows" ["self"] (fun _ => zh2 T BC) := by
    intro C hC
    subst hC
    exact ⟨_, _, ZB.cl, ⟨a_r6, q_r6, k_r6⟩, xe7 F_r6 TX ZB, b_r6⟩
  have FWh : Fam l.prog w K mg base CX0 1 (fun C => C = BC) "whole" ["self"] (fun _ => zu3 T BC) := by
    intro C hC
    subst hC
    exact ⟨_, _, ZB.cl, ⟨a_h6, q_h6, k_h6⟩, yx9 F_h6 ZB, b_h6⟩
  have O_T : OwnI "Twice" E3 [.type "ValueError", .type "Exception", .type "BaseException", .type "object"] "ValueError.__new__" f_x7 mg base := xl0 BX BG n_E3 xe_E3 q_x7
  have XK : ExK l.prog w K mg base "Twice" "name" E3 := ⟨_, _, _, _, _, _, O_T, PySem.F.excBase_ValueError, yw8 F_x7 ⟨xs_E3, xp_E3, xm_E3, xk_E3, xh_E3⟩, b_x7, xc_E3⟩
  have XM : ExZ mg base "TooMany" E2 := ⟨_, _, _, _, xh8 BX BG n_E2 xe_E2, PySem.F.excBase_ValueError⟩
  have XU : ExZ mg base "Unlike" E6 := ⟨_, _, _, _, xh8 BX BG n_E6 xe_E6, PySem.F.excBase_ValueError⟩
  have OM : OwnB "MaybeError" E0 [.type "ValueError", .type "Exception", .type "BaseException", .type "object"] "ValueError.__new__" mg base := xl1 BX BG n_E0 mb
  have CE_E3 : ClsE K E3 := ⟨xg_E3, xt_E3, xb_E3, by obtain ⟨cd, hc, _⟩ := W.any_some xh_E3; rw [hc]; rfl, xa_E3, gt, tk, xm_E3⟩
  have CE_E2 : ClsE K E2 := ⟨xg_E2, xt_E2, xb_E2, by obtain ⟨cd, hc, _⟩ := W.any_some xh_E2; rw [hc]; rfl, xa_E2, gt, tk, xm_E2⟩
  have CE_E6 : ClsE K E6 := ⟨xg_E6, xt_E6, xb_E6, by obtain ⟨cd, hc, _⟩ := W.any_some xh_E6; rw [hc]; rfl, xa_E6, gt, tk, xm_E6⟩
  have W3 : Three K E5 E1 E9 E8 E4 E7 E3 E2 E6 := ⟨⟨CE_E3, xA_E3, xv_E3, xTwice_E3, xTooMany_E3, xUnlike_E3⟩, ⟨CE_E2, xA_E2, xv_E2, xTwice_E2, xTooMany_E2, xUnlike_E2⟩, ⟨CE_E6, xA_E6, xv_E6, xTwice_E6, xTooMany_E6, xUnlike_E6⟩, xh_E3, xn_E3⟩
  have mR : ∃ t, mg "MOST_ROWS" = some (.int 24 t) := ⟨tmost, W.mg_of X G zm⟩
  have A1 : Cal l.prog w K mg base "all_of" 44 ["parts"] (zo4 T) := ⟨_, _, xm4 F_d5 TX Z M1 M4, b_d5, k_d5, W.mg_of X G a_d5⟩
  have A2 : Cal l.prog w K mg base "one_of" 44 ["parts"] (zo4 T) := ⟨_, _, xl5 F_d6 TX Z M1 M5, b_d6, k_d6, W.mg_of X G a_d6⟩
  have A3 : Cal l.prog w K mg base "same_cells" 44 ["cells", "others"] (yc9 T) := ⟨_, _, xd6 F_d4 TX M2, b_d4, k_d4, W.mg_of X G a_d4⟩
  have A4 : CalE l.prog w K mg base "check_columns" 3 ["columns"] (zv4 E3) := ⟨_, _, yr2 F_d7 TX XK, b_d7, k_d7, W.mg_of X G a_d7⟩
  have A5 : CalE l.prog w K mg base "check_many" 1 ["rows"] (ym4 E2) := ⟨_, _, xl8 F_d14 XM mR, b_d14, k_d14, W.mg_of X G a_d14⟩
  have A6 : CalE l.prog w K mg base "check_like" 1 ["columns", "others"] (ym5 E6) := ⟨_, _, xl9 F_d15 TX XU, b_d15, k_d15, W.mg_of X G a_d15⟩
  have A7 : Cal l.prog w K mg base "check_named" 1 ["names", "columns"] yd5 := ⟨_, _, yx4 F_d9, b_d9, k_d9, W.mg_of X G a_d9⟩
  have A8 : Cal l.prog w K mg base "check_once" 1 ["names"] yu9 := ⟨_, _, xl6 F_d11 TX, b_d11, k_d11, W.mg_of X G a_d11⟩
  have A9 : Cal l.prog w K mg base "cells_in" 1 ["names", "columns", "row"] zu1 := ⟨_, _, yx7 F_d10 TX, b_d10, k_d10, W.mg_of X G a_d10⟩
  have B1 : Cal l.prog w K mg base "found_among" 45 ["cells", "rows"] (yj7 T) := ⟨_, _, xe3 F_d22 A2 A1 A3, b_d22, k_d22, W.mg_of X G a_d22⟩
  have B2 : Cal l.prog w K mg base "both_wholes" 45 ["one", "other"] (yg5 T BC) := ⟨_, _, xm3 F_d16 A1 FWh, b_d16, k_d16, W.mg_of X G a_d16⟩
  have B0 : Cal l.prog w K mg base "check_narrowed" 2 ["names", "columns"] yj6 := ⟨_, _, xd9 F_d12 A7 A8, b_d12, k_d12, W.mg_of X G a_d12⟩
  have B3 : Cal l.prog w K mg base "narrowed" 46 ["table", "names"] (zt8 T BC) := ⟨_, _, yx2 F_d13 FC FR FWh B0 A9 MB, b_d13, k_d13, W.mg_of X G a_d13⟩
  have B4 : Cal l.prog w K mg base "paired" 45 ["one", "other", "shared", "further"] (yd1 T BC) := ⟨_, _, yx0 F_d19 FC FR A9 A1 A3, b_d19, k_d19, W.mg_of X G a_d19⟩
  have B9 : Cal l.prog w K mg base "columns_parted" 1 ["columns", "others"] yd0 := ⟨_, _, yw9 F_d18, b_d18, k_d18, W.mg_of X G a_d18⟩
  have B5 : CalE l.prog w K mg base "joined" 47 ["one", "other"] (yg4 T BC E2) := ⟨_, _, xm2 F_d20 TX FC FR A5 B9 B4 B2 MB, b_d20, k_d20, W.mg_of X G a_d20⟩
  have B6 : CalE l.prog w K mg base "crossed" 48 ["one", "other"] (yd4 T BC E3 E2) := ⟨_, _, xe4 F_d17 FC A4 B5, b_d17, k_d17, W.mg_of X G a_d17⟩
  have B7 : CalE l.prog w K mg base "together" 48 ["one", "other"] (yc8 T BC E6 E2) := ⟨_, _, xd3 F_d21 TX FC FR A6 A5 B3 B2 MB, b_d21, k_d21, W.mg_of X G a_d21⟩
  have B8 : CalE l.prog w K mg base "less" 48 ["one", "other"] (ym6 T BC E6) := ⟨_, _, xm0 F_d23 FC FR A6 B1 B3 B2 A1 M3 MB, b_d23, k_d23, W.mg_of X G a_d23⟩
  have L1 : Cal l.prog w K mg base "_law_cell_at" 1 ["_law_script", "_law_k"] (zu2 K) := ⟨_, _, yx8 F_d24 TX, b_d24, k_d24, W.mg_of X G a_d24⟩
  have L2 : Cal l.prog w K mg base "_law_name" 1 ["_law_cell"] yv0 := ⟨_, _, xl7 F_d25 TX, b_d25, k_d25, W.mg_of X G a_d25⟩
  have L3 : Cal l.prog w K mg base "_law_names" 2 ["_law_script", "_law_at", "_law_many", "_law_out"] (yd3 K) := ⟨_, _, xe0 F_d26 TX L1 L2, b_d26, k_d26, W.mg_of X G a_d26⟩
  have L4 : Cal l.prog w K mg base "_law_others" 3 ["_law_script", "_law_columns", "_law_way"] (yd2 K) := ⟨_, _, yx1 F_d27 TX L3, b_d27, k_d27, W.mg_of X G a_d27⟩
  have L5 : Cal l.prog w K mg base "_law_due" 1 ["_law_way", "_law_columns", "_law_others_here", "_law_many", "_law_more"] yv1 := ⟨_, _, xr3 F_d30 TX, b_d30, k_d30, W.mg_of X G a_d30⟩
  have OK := xm1 (P := l.prog) (w := w) (base := base) F_d28 TX W3 (W.mg_of X G n_E5) (W.mg_of X G n_E1) (W.mg_of X G n_E9) (W.mg_of X G n_E8) (W.mg_of X G n_E4) (W.mg_of X G n_E7) (W.mg_of X G n_E3) (W.mg_of X G n_E2) (W.mg_of X G n_E6)
  have L6 : Cal l.prog w K mg base "_law_asked" 50 ["_law_way", "_law_one", "_law_other"] (zv6 T BC) := ⟨_, _, xf0 F_d29 TX OM PySem.F.excBase_ValueError (yu6 BX xz_E3) (yu6 BX xz_E2) (yu6 BX xz_E6) FR B6 B5 B7 B8 ⟨_, _, OK, b_d28, k_d28, W.mg_of X G a_d28⟩, b_d29, k_d29, W.mg_of X G a_d29⟩
  exact xr2 F_d31 TX FR ⟨_, _, ⟨y5, a_i6, q_i6, y6⟩, OB, b0_i6, W.mg_of X G n_BC⟩ M1 L6 L5 L1 L3 L4
theorem walk {l:W.OpenLaw} {q:Program} {loose:List Str} {XP:(Str->Option Value)->Heap->Prop} {YP:World->Heap->Prop} {d:DefRec} {K:Params->W.Frag} (hn:l.most = some 63) (hdf:d.params.defaults = [])
    (hY:∀ (w:World) (h:Heap),YP w h->(K w.params).In h)
    (F:∀ (w:World) (mg:Str->Option Value) (fa:Addr) (h:Heap),(K w.params).In h->h.Ns mainGlobals mg->mg d.name = some (.ref fa) ->
      ∃ fd:FuncData,(∀ (s:Shared) (u:Value),BindsTo s fd ⟨[u],[]⟩ [("_law_script",u)])/\∀ base:Heap,(K w.params).In base->base.Ns mainGlobals mg->FnOk l.prog w (K w.params) mg base CX0 52 fa fd ["_law_script"] (xc5 (K w.params))) :
    W.WalkO q loose XP YP l.row.toRowW d [] (λf vs=>PySem.call f vs):=
  L2.walk_of (n:=63) (k:=52) (x:="_law_script") (CX:=λ_=>CX0) (sp:=λw=>xc5 (K w.params)) hn (by decide) hdf ⟨rfl,by decide,by decide⟩ hY F (λ_ _ a ns hl _ hS=>⟨a,ns,rfl,hS,hl,λ_=>rfl⟩) λ_ _ _ _ _ z=>z
end K55
namespace HD
open PySem PySem.W PyProof.Rows
abbrev pr : Program := PySem.Challenge.rw_maybetables_k55_pairs_refused.row.toRowW.prog
def vw : Program := { pr with main := { pr.main with body := pr.main.body.drop 59 } }
def lo : List Str := "_wall" :: "__name__" :: "MaybeError" :: "NoFilling" :: "TooMany" :: "Twice" :: "Short" :: "NoColumn" :: "Unlike" :: "TooFew" :: "NoText" :: "NoName" :: "WORTH_KEEPING" :: "cell_value" :: "gaps_among" :: "values_among" :: "cells_within" :: "check_filling" :: "Cond" :: "Truth" :: "Same" :: "AllOf" :: "OneOf" :: "Opposite" :: "same_cells" :: "all_of" :: "one_of" :: "check_columns" :: "check_rows" :: "check_named" :: "cells_in" :: "cells_put" :: "Table" :: "check_once" :: "check_narrowed" :: "narrowed" :: "MOST_ROWS" :: "check_many" :: "check_like" :: "both_wholes" :: "crossed" :: "columns_parted" :: "paired" :: "joined" :: "together" :: "found_among" :: "less" :: "_law_cell_at" :: "_law_name" :: "_law_names" :: "_law_others" :: "_law_kind" :: "_law_asked" :: "_law_due" :: []
end HD
open PySem PySem.W PyProof.Rows
local macro_rules
  | `(tactic| o_head $H) => `(tactic|
      refine holds_open (q := HD.vw) (loose := HD.lo) (Xt := fun s => xlAt HD.vw [] s && recOk (RowW.records (PySem.Challenge.rw_maybetables_k55_pairs_refused.row.toRowW)) s)
        (XP := XL HD.vw []) (Yf := Hook.obs $H) (Ya := Hook.val $H) (YP := Hook.says $H) (N := 20000)
        ?$(Lean.mkIdent `hl) (Hook.of $H) (Hook.keeps $H) (fun s e => xl_of s (Bool.and_eq_true_iff.mp e).1) XL.keeps (by rfl) (by rfl) (by rfl)
        (fun s e => recFacts_of (Bool.and_eq_true_iff.mp e).2) (by rfl) (by first | assumption | decide +kernel) (by decide +kernel)
        ⟨rfl, rfl, rfl, rfl, rfl, by decide +kernel⟩ ?$(Lean.mkIdent `hw) ?$(Lean.mkIdent `hc))
set_option maxRecDepth 100000 in
set_option maxHeartbeats 0 in
theorem PySem.Challenge.cw_maybetables_k55_pairs_refused_holds : PySem.Challenge.rw_maybetables_k55_pairs_refused.Holds := by
  w_on; o_law; k_head
  (case hw => w_witness2)
  (case hl => exact HD.left_quick (boot_open (by kernel_rfl) (by decide +kernel) (fun s => by kernel_rfl)) (fun w os => by kernel_rfl))
  k_fill
  refine K55.walk (l := PySem.Challenge.rw_maybetables_k55_pairs_refused) rfl rfl (fun w h Y => W.kIn_of Y) ?F
  case F =>
    intro w mg fa h KX G hmg
    refine' K55.all_mk KX G hmg ?n_CC ?n_Tt ?n_Ts ?n_Ta ?n_To ?n_Tp ?n_BC ?n_E0 ?n_E1 ?n_E2 ?n_E3 ?n_E4 ?n_E5 ?n_E6 ?n_E7 ?n_E8 ?n_E9 ?dj ?a_d0 ?l_d0 ?c_d0 ?k_d0 ?a_d1 ?l_d1 ?c_d1 ?k_d1 ?a_d2 ?l_d2 ?c_d2 ?k_d2 ?a_d3 ?l_d3 ?c_d3 ?k_d3 ?a_d4 ?l_d4 ?c_d4 ?k_d4 ?a_d5 ?l_d5 ?c_d5 ?k_d5 ?a_d6 ?l_d6 ?c_d6 ?k_d6 ?a_d7 ?l_d7 ?c_d7 ?k_d7 ?a_d8 ?l_d8 ?c_d8 ?k_d8 ?a_d9 ?l_d9 ?c_d9 ?k_d9 ?a_d10 ?l_d10 ?c_d10 ?k_d10 ?a_d11 ?l_d11 ?c_d11 ?k_d11 ?a_d12 ?l_d12 ?c_d12 ?k_d12 ?a_d13 ?l_d13 ?c_d13 ?k_d13 ?a_d14 ?l_d14 ?c_d14 ?k_d14 ?a_d15 ?l_d15 ?c_d15 ?k_d15 ?a_d16 ?l_d16 ?c_d16 ?k_d16 ?a_d17 ?l_d17 ?c_d17 ?k_d17 ?a_d18 ?l_d18 ?c_d18 ?k_d18 ?a_d19 ?l_d19 ?c_d19 ?k_d19 ?a_d20 ?l_d20 ?c_d20 ?k_d20 ?a_d21 ?l_d21 ?c_d21 ?k_d21 ?a_d22 ?l_d22 ?c_d22 ?k_d22 ?a_d23 ?l_d23 ?c_d23 ?k_d23 ?a_d24 ?l_d24 ?c_d24 ?k_d24 ?a_d25 ?l_d25 ?c_d25 ?k_d25 ?a_d26 ?l_d26 ?c_d26 ?k_d26 ?a_d27 ?l_d27 ?c_d27 ?k_d27 ?a_d28 ?l_d28 ?c_d28 ?k_d28 ?a_d29 ?l_d29 ?c_d29 ?k_d29 ?a_d30 ?l_d30 ?c_d30 ?k_d30 ?a_d31 ?l_d31 ?c_d31 ?k_d31 ?a_i0 ?l_i0 ?c_i0 ?k_i0 ?q_i0 ?a_h0 ?l_h0 ?c_h0 ?k_h0 ?q_h0 ?a_i1 ?l_i1 ?c_i1 ?k_i1 ?q_i1 ?a_w1 ?l_w1 ?c_w1 ?k_w1 ?q_w1 ?a_i2 ?l_i2 ?c_i2 ?k_i2 ?q_i2 ?a_w2 ?l_w2 ?c_w2 ?k_w2 ?q_w2 ?a_i3 ?l_i3 ?c_i3 ?k_i3 ?q_i3 ?a_w3 ?l_w3 ?c_w3 ?k_w3 ?q_w3 ?a_i4 ?l_i4 ?c_i4 ?k_i4 ?q_i4 ?a_w4 ?l_w4 ?c_w4 ?k_w4 ?q_w4 ?a_i5 ?l_i5 ?c_i5 ?k_i5 ?q_i5 ?a_w5 ?l_w5 ?c_w5 ?k_w5 ?q_w5 ?a_i6 ?l_i6 ?l_DT ?c_i6 ?k_i6 ?q_i6 ?a_c6 ?l_c6 ?c_c6 ?k_c6 ?q_c6 ?a_r6 ?l_r6 ?c_r6 ?k_r6 ?q_r6 ?a_h6 ?l_h6 ?c_h6 ?k_h6 ?q_h6 ?a_x7 ?l_x7 ?c_x7 ?k_x7 ?q_x7 ?ga ?rd ?gt ?tk ?x_Tt ?x_Ts ?x_Ta ?x_To ?x_Tp ?e1 ?e2 ?e3 ?e4 ?e5 ?e6 ?e7 ?e8 ?e9 ?e10 ?e11 ?nb ?y1 ?y2 ?y3 ?y4 ?y5 ?y6 ?xg_E3 ?xt_E3 ?xb_E3 ?xh_E3 ?xa_E3 ?xm_E3 ?xz_E3 ?xv_E3 ?xA_E3 ?xTwice_E3 ?xTooMany_E3 ?xUnlike_E3 ?xn_E3 ?xs_E3 ?xp_E3 ?xk_E3 ?xc_E3 ?xe_E3 ?xg_E2 ?xt_E2 ?xb_E2 ?xh_E2 ?xa_E2 ?xm_E2 ?xz_E2 ?xv_E2 ?xA_E2 ?xTwice_E2 ?xTooMany_E2 ?xUnlike_E2 ?xe_E2 ?xg_E6 ?xt_E6 ?xb_E6 ?xh_E6 ?xa_E6 ?xm_E6 ?xz_E6 ?xv_E6 ?xA_E6 ?xTwice_E6 ?xTooMany_E6 ?xUnlike_E6 ?xe_E6 ?mb ?zm ?z0 ?z1 ?z2 ?z3 ?z4 ?z5 ?z6 ?z7 ?z8 ?z9 ?z10 ?z11 ?z12 ?z13 ?z14 ?z15 ?z16
    (case n_CC => k_is)
    (case n_Tt => k_is)
    (case n_Ts => k_is)
    (case n_Ta => k_is)
    (case n_To => k_is)
    (case n_Tp => k_is)
    (case n_BC => k_is)
    (case n_E0 => k_is)
    (case n_E1 => k_is)
    (case n_E2 => k_is)
    (case n_E3 => k_is)
    (case n_E4 => k_is)
    (case n_E5 => k_is)
    (case n_E6 => k_is)
    (case n_E7 => k_is)
    (case n_E8 => k_is)
    (case n_E9 => k_is)
    (case dj => decide)
    (case a_d0 => k_is)
    (case l_d0 => k_is)
    (case c_d0 => k_is)
    (case k_d0 => k_is)
    (case a_d1 => k_is)
    (case l_d1 => k_is)
    (case c_d1 => k_is)
    (case k_d1 => k_is)
    (case a_d2 => k_is)
    (case l_d2 => k_is)
    (case c_d2 => k_is)
    (case k_d2 => k_is)
    (case a_d3 => k_is)
    (case l_d3 => k_is)
    (case c_d3 => k_is)
    (case k_d3 => k_is)
    (case a_d4 => k_is)
    (case l_d4 => k_is)
    (case c_d4 => k_is)
    (case k_d4 => k_is)
    (case a_d5 => k_is)
    (case l_d5 => k_is)
    (case c_d5 => k_is)
    (case k_d5 => k_is)
    (case a_d6 => k_is)
    (case l_d6 => k_is)
    (case c_d6 => k_is)
    (case k_d6 => k_is)
    (case a_d7 => k_is)
    (case l_d7 => k_is)
    (case c_d7 => k_is)
    (case k_d7 => k_is)
    (case a_d8 => k_is)
    (case l_d8 => k_is)
    (case c_d8 => k_is)
    (case k_d8 => k_is)
    (case a_d9 => k_is)
    (case l_d9 => k_is)
    (case c_d9 => k_is)
    (case k_d9 => k_is)
    (case a_d10 => k_is)
    (case l_d10 => k_is)
    (case c_d10 => k_is)
    (case k_d10 => k_is)
    (case a_d11 => k_is)
    (case l_d11 => k_is)
    (case c_d11 => k_is)
    (case k_d11 => k_is)
    (case a_d12 => k_is)
    (case l_d12 => k_is)
    (case c_d12 => k_is)
    (case k_d12 => k_is)
    (case a_d13 => k_is)
    (case l_d13 => k_is)
    (case c_d13 => k_is)
    (case k_d13 => k_is)
    (case a_d14 => k_is)
    (case l_d14 => k_is)
    (case c_d14 => k_is)
    (case k_d14 => k_is)
    (case a_d15 => k_is)
    (case l_d15 => k_is)
    (case c_d15 => k_is)
    (case k_d15 => k_is)
    (case a_d16 => k_is)
    (case l_d16 => k_is)
    (case c_d16 => k_is)
    (case k_d16 => k_is)
    (case a_d17 => k_is)
    (case l_d17 => k_is)
    (case c_d17 => k_is)
    (case k_d17 => k_is)
    (case a_d18 => k_is)
    (case l_d18 => k_is)
    (case c_d18 => k_is)
    (case k_d18 => k_is)
    (case a_d19 => k_is)
    (case l_d19 => k_is)
    (case c_d19 => k_is)
    (case k_d19 => k_is)
    (case a_d20 => k_is)
    (case l_d20 => k_is)
    (case c_d20 => k_is)
    (case k_d20 => k_is)
    (case a_d21 => k_is)
    (case l_d21 => k_is)
    (case c_d21 => k_is)
    (case k_d21 => k_is)
    (case a_d22 => k_is)
    (case l_d22 => k_is)
    (case c_d22 => k_is)
    (case k_d22 => k_is)
    (case a_d23 => k_is)
    (case l_d23 => k_is)
    (case c_d23 => k_is)
    (case k_d23 => k_is)
    (case a_d24 => k_is)
    (case l_d24 => k_is)
    (case c_d24 => k_is)
    (case k_d24 => k_is)
    (case a_d25 => k_is)
    (case l_d25 => k_is)
    (case c_d25 => k_is)
    (case k_d25 => k_is)
    (case a_d26 => k_is)
    (case l_d26 => k_is)
    (case c_d26 => k_is)
    (case k_d26 => k_is)
    (case a_d27 => k_is)
    (case l_d27 => k_is)
    (case c_d27 => k_is)
    (case k_d27 => k_is)
    (case a_d28 => k_is)
    (case l_d28 => k_is)
    (case c_d28 => k_is)
    (case k_d28 => k_is)
    (case a_d29 => k_is)
    (case l_d29 => k_is)
    (case c_d29 => k_is)
    (case k_d29 => k_is)
    (case a_d30 => k_is)
    (case l_d30 => k_is)
    (case c_d30 => k_is)
    (case k_d30 => k_is)
    (case a_d31 => k_is)
    (case l_d31 => k_is)
    (case c_d31 => k_is)
    (case k_d31 => k_is)
    (case a_i0 => k_is)
    (case l_i0 => k_is)
    (case c_i0 => k_is)
    (case k_i0 => k_is)
    (case q_i0 => k_is)
    (case a_h0 => k_is)
    (case l_h0 => k_is)
    (case c_h0 => k_is)
    (case k_h0 => k_is)
    (case q_h0 => k_is)
    (case a_i1 => k_is)
    (case l_i1 => k_is)
    (case c_i1 => k_is)
    (case k_i1 => k_is)
    (case q_i1 => k_is)
    (case a_w1 => k_is)
    (case l_w1 => k_is)
    (case c_w1 => k_is)
    (case k_w1 => k_is)
    (case q_w1 => k_is)
    (case a_i2 => k_is)
    (case l_i2 => k_is)
    (case c_i2 => k_is)
    (case k_i2 => k_is)
    (case q_i2 => k_is)
    (case a_w2 => k_is)
    (case l_w2 => k_is)
    (case c_w2 => k_is)
    (case k_w2 => k_is)
    (case q_w2 => k_is)
    (case a_i3 => k_is)
    (case l_i3 => k_is)
    (case c_i3 => k_is)
    (case k_i3 => k_is)
    (case q_i3 => k_is)
    (case a_w3 => k_is)
    (case l_w3 => k_is)
    (case c_w3 => k_is)
    (case k_w3 => k_is)
    (case q_w3 => k_is)
    (case a_i4 => k_is)
    (case l_i4 => k_is)
    (case c_i4 => k_is)
    (case k_i4 => k_is)
    (case q_i4 => k_is)
    (case a_w4 => k_is)
    (case l_w4 => k_is)
    (case c_w4 => k_is)
    (case k_w4 => k_is)
    (case q_w4 => k_is)
    (case a_i5 => k_is)
    (case l_i5 => k_is)
    (case c_i5 => k_is)
    (case k_i5 => k_is)
    (case q_i5 => k_is)
    (case a_w5 => k_is)
    (case l_w5 => k_is)
    (case c_w5 => k_is)
    (case k_w5 => k_is)
    (case q_w5 => k_is)
    (case a_i6 => k_is)
    (case l_i6 => k_is)
    (case l_DT => k_is)
    (case c_i6 => k_is)
    (case k_i6 => k_is)
    (case q_i6 => k_is)
    (case a_c6 => k_is)
    (case l_c6 => k_is)
    (case c_c6 => k_is)
    (case k_c6 => k_is)
    (case q_c6 => k_is)
    (case a_r6 => k_is)
    (case l_r6 => k_is)
    (case c_r6 => k_is)
    (case k_r6 => k_is)
    (case q_r6 => k_is)
    (case a_h6 => k_is)
    (case l_h6 => k_is)
    (case c_h6 => k_is)
    (case k_h6 => k_is)
    (case q_h6 => k_is)
    (case a_x7 => k_is)
    (case l_x7 => k_is)
    (case c_x7 => k_is)
    (case k_x7 => k_is)
    (case q_x7 => k_is)
    (case ga => k_is)
    (case rd => k_is)
    (case gt => k_is)
    (case tk => k_is)
    (case x_Tt => exact ⟨by k_is, by k_is, by k_is, by k_is, by k_is, by k_is, by k_is, by k_is, by k_is, by k_is, by k_is, by k_is, by k_is⟩)
    (case x_Ts => exact ⟨by k_is, by k_is, by k_is, by k_is, by k_is, by k_is, by k_is, by k_is, by k_is, by k_is, by k_is, by k_is, by k_is⟩)
    (case x_Ta => exact ⟨by k_is, by k_is, by k_is, by k_is, by k_is, by k_is, by k_is, by k_is, by k_is, by k_is, by k_is, by k_is, by k_is⟩)
    (case x_To => exact ⟨by k_is, by k_is, by k_is, by k_is, by k_is, by k_is, by k_is, by k_is, by k_is, by k_is, by k_is, by k_is, by k_is⟩)
    (case x_Tp => exact ⟨by k_is, by k_is, by k_is, by k_is, by k_is, by k_is, by k_is, by k_is, by k_is, by k_is, by k_is, by k_is, by k_is⟩)
    (case e1 => k_is)
    (case e2 => k_is)
    (case e3 => k_is)
    (case e4 => k_is)
    (case e5 => k_is)
    (case e6 => k_is)
    (case e7 => k_is)
    (case e8 => k_is)
    (case e9 => k_is)
    (case e10 => k_is)
    (case e11 => k_is)
    (case nb => decide)
    (case y1 => k_is)
    (case y2 => k_is)
    (case y3 => k_is)
    (case y4 => k_is)
    (case y5 => k_is)
    (case y6 => k_is)
    (case xg_E3 => k_is)
    (case xt_E3 => k_is)
    (case xb_E3 => k_is)
    (case xh_E3 => k_is)
    (case xa_E3 => k_is)
    (case xm_E3 => k_is)
    (case xz_E3 => kernel_rfl)
    (case xv_E3 => kit_is)
    (case xA_E3 => kit_is)
    (case xTwice_E3 => kit_is)
    (case xTooMany_E3 => kit_is)
    (case xUnlike_E3 => kit_is)
    (case xn_E3 => k_is)
    (case xs_E3 => k_is)
    (case xp_E3 => kernel_rfl)
    (case xk_E3 => k_is)
    (case xc_E3 => k_is)
    (case xe_E3 => kernel_rfl)
    (case xg_E2 => k_is)
    (case xt_E2 => k_is)
    (case xb_E2 => k_is)
    (case xh_E2 => k_is)
    (case xa_E2 => k_is)
    (case xm_E2 => k_is)
    (case xz_E2 => kernel_rfl)
    (case xv_E2 => kit_is)
    (case xA_E2 => kit_is)
    (case xTwice_E2 => kit_is)
    (case xTooMany_E2 => kit_is)
    (case xUnlike_E2 => kit_is)
    (case xe_E2 => kernel_rfl)
    (case xg_E6 => k_is)
    (case xt_E6 => k_is)
    (case xb_E6 => k_is)
    (case xh_E6 => k_is)
    (case xa_E6 => k_is)
    (case xm_E6 => k_is)
    (case xz_E6 => kernel_rfl)
    (case xv_E6 => kit_is)
    (case xA_E6 => kit_is)
    (case xTwice_E6 => kit_is)
    (case xTooMany_E6 => kit_is)
    (case xUnlike_E6 => kit_is)
    (case xe_E6 => kernel_rfl)
    (case mb => kernel_rfl)
    (case zm => k_is)
    (case z0 => k_is)
    (case z1 => k_is)
    (case z2 => k_is)
    (case z3 => k_is)
    (case z4 => k_is)
    (case z5 => k_is)
    (case z6 => k_is)
    (case z7 => k_is)
    (case z8 => k_is)
    (case z9 => k_is)
    (case z10 => k_is)
    (case z11 => k_is)
    (case z12 => k_is)
    (case z13 => k_is)
    (case z14 => k_is)
    (case z15 => k_is)
    (case z16 => k_is)
